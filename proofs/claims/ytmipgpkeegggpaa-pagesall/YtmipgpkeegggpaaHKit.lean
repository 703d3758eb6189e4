-- PROVED: what a heap tells (package heap), by its book.
import Derived.Test.YtmipgpkeegggpaaPUpd
namespace Go.Proofs.Ytmipgpkeegggpaa.P
open Go.RowKit
set_option linter.unusedVariables false
/-- A heap in memory: at H, with the book at A. -/
def Hp (w : World) (H A : Nat) : Prop := w.heap[H]? = some (.cells #[.pointer (some ⟨A, 0, none⟩)] 67 (0, 0))
theorem Hp.keep {S : List TypeId} {base : Nat} {w w' : World} {H A : Nat} (h : Hp w H A) (k : Keep S base w w') (hS : 67 ∉ S) : Hp w' H A := (k.same H _ _ _ h hS).trans h
theorem Hp.below {w w' : World} {H A : Nat} (h : Hp w H A) (k : Below w.heap.size w w') : Hp w' H A := (k.block _ (heap_lt h)).trans h
section
variable {base : Nat} {w : World} {bs : List Bk}
set_option maxRecDepth 100000 in
set_option maxHeartbeats 2000000 in
theorem bookOf_any {H A : Nat} (h : Hp w H A) : Calls Try.prog 35 #[.pointer (some ⟨H, 0, none⟩)] w fun e w' => e = .returned (.pointer (some ⟨A, 0, none⟩)) ∧ w' = w := by
  obtain ⟨a0, f0, la⟩ := blk1 h
  clear h
  go_enter Try.func35, Try.ntmps35
  go_wp2_with fail
  go_ret
  exact ⟨rfl, rfl⟩
set_option maxRecDepth 100000 in
set_option maxHeartbeats 2000000 in
theorem bookOf_none (w : World) : Calls Try.prog 35 #[.pointer none] w fun e w' => e = .returned (.pointer none) ∧ w' = w := by
  go_enter Try.func35, Try.ntmps35
  go_wp2_with fail
  go_ret
  exact ⟨rfl, rfl⟩
theorem Added.mono {sz sz' : Nat} {bs : List Bk} {b b' : Bk} {c : Cl} (h : Added sz bs b c b') (hs : sz' ≤ sz) : Added sz' bs b c b' :=
  ⟨h.at_, h.opn, h.fam, h.len, h.old, h.new, by obtain ⟨q, h1, h2⟩ := h.pgs; exact ⟨q, Nat.le_trans hs h1, h2⟩⟩
set_option maxRecDepth 100000 in
set_option maxHeartbeats 2000000 in
theorem hnew (h : Sys base w bs) (hf : bs.length < 1000) :
    Calls Try.prog 9 #[] w fun e w' => ∃ q A, e = .returned (.pointer (some ⟨q, 0, none⟩)) ∧ ∃ b, Hid (Sys base w' (bs ++ [b])) ∧ Hid (Fresh b A w.heap.size) ∧ Hid (Hp w' q A) ∧ Hid (w.heap.size ≤ q) ∧ Hid (Below w.heap.size w w') := by
  have HN : Hid (_) := new_p h hf
  clear h
  go_enter Try.func9, Try.ntmps9
  go_wp2_with fail
  refine Calls.mono HN.out ?_
  rintro e w1 ⟨rfl, b, HS1, HF, HB1⟩
  go_wp2_with fail
  go_ret
  have k0 : Below w1.heap.size w1 (w1.alloc (.cells #[.pointer (some ⟨w.heap.size + 1, 0, none⟩)] 67)) := (Below.refl _ _).alloc (Nat.le_refl _) _
  exact ⟨w1.heap.size, _, rfl, b, HS1.out.below k0, HF, heap_alloc_new _ _, HB1.out.size, Below.chain HB1.out k0 HB1.out.size⟩
set_option maxRecDepth 100000 in
set_option maxHeartbeats 2000000 in
theorem halloc (h : Sys base w bs) {i : Nat} {b : Bk} (hb : bs[i]? = some b) {H A : Nat} (hA : b.at_ = A) (hp : Hp w H A) (ho : b.opn = true) (hl : b.len < 4096) {n : Int} (hn : (b.len : Int) + 1 = n) {vK vV : Value} {c : Cl} (hc : Parts base w vK vV c) :
    Calls Try.prog 14 #[.pointer (some ⟨H, 0, none⟩), .agg #[.int .i64 c.kind, .int .i64 c.a, .int .i64 c.b, vK, vV]] w fun e w' => e = .returned (.tuple #[.int .i64 n, .int .i64 0]) ∧
      ∃ b', Hid (Sys base w' (bs.set i b')) ∧ Hid (Added w.heap.size bs b c b') ∧ Hid (Keep Four base w w') := by
  subst hA hn
  obtain ⟨aK, kK, rfl, -⟩ := hc.1
  obtain ⟨aV, kV, rfl, -⟩ := hc.2.1
  have hbel0 : Below w.heap.size w (w.alloc (.cells #[.int .i64 c.kind, .int .i64 c.a, .int .i64 c.b, .slice aK c.keys.length kK, .slice aV c.vals.length kV] 30)) := (Below.refl _ _).alloc (Nat.le_refl _) _
  have HBO : Hid (∀ W, Below w.heap.size w W → Calls Try.prog 35 #[.pointer (some ⟨H, 0, none⟩)] W fun e w' => e = .returned (.pointer (some ⟨b.at_, 0, none⟩)) ∧ w' = W) := fun W hW => bookOf_any (hp.below hW)
  have HAD : Hid (∀ W, Below w.heap.size w W → Calls Try.prog 26 #[.pointer (some ⟨b.at_, 0, none⟩), .agg #[.int .i64 c.kind, .int .i64 c.a, .int .i64 c.b, .slice aK c.keys.length kK, .slice aV c.vals.length kV]] W fun e w' => e = .returned (.tuple #[.int .i64 (b.len : Int), .int .i64 0]) ∧
      ∃ b', Hid (Sys base w' (bs.set i b')) ∧ Hid (Added w.heap.size bs b c b') ∧ Hid (Keep Four base w w')) := fun W hW => (add_yes (h.below hW) hb ho hl (hc.keep (keepB h.size hW) (by simp))).mono fun e w' ⟨h1, b', h2, h3, h4⟩ => ⟨h1, b', h2, h3.mono hW.size, ((keepB h.size hW).mono (by simp)).trans h4⟩
  have HB0 : Hid (_) := hbel0
  have hx := heap_alloc_new w (.cells #[.int .i64 c.kind, .int .i64 c.a, .int .i64 c.b, .slice aK c.keys.length kK, .slice aV c.vals.length kV] 30)
  obtain ⟨x0, x1, x2, x3, x4, y0, y1, y2, y3, y4, lx⟩ := blk5 hx
  clear h hb hp hc hbel0 hx ho
  generalize b.at_ = B at HBO HAD ⊢
  have hl0 : (0 : Int) ≤ b.len := by omega
  have hl1 : (b.len : Int) < 4096 := by omega
  clear hl
  go_enter Try.func14, Try.ntmps14
  go_wp2_with fail
  go_region_with (first | (go_at_call 35; refine Calls.mono (HBO.out _ (by first | exact HB0.out | exact HB0.out.drew | exact HB0.out.drew.drew | exact HB0.out.drew.drew.drew | exact HB0.out.drew.drew.drew.drew)) ?_; rintro e w1 ⟨rfl, rfl⟩) | (go_at_call 26; refine Calls.mono (HAD.out _ (by first | exact HB0.out | exact HB0.out.drew | exact HB0.out.drew.drew | exact HB0.out.drew.drew.drew | exact HB0.out.drew.drew.drew.drew)) ?_; rintro e w2 ⟨rfl, b2, HS2, HD2, HK2⟩))
  all_goals
    go_wp2_with fail
    go_ret2
    exact ⟨rfl, b2, HS2, HD2, HK2⟩
set_option maxRecDepth 100000 in
set_option maxHeartbeats 2000000 in
theorem hstore (h : Sys base w bs) {i : Nat} {b : Bk} (hb : bs[i]? = some b) {H A : Nat} (hA : b.at_ = A) (hp : Hp w H A) {k : Nat} {K : Int} (hK : IntKind.i64.wrap (K - 1) = (k : Int)) (hk : k < b.len) {vK vV : Value} {c : Cl} (hc : Parts base w vK vV c) :
    Calls Try.prog 13 #[.pointer (some ⟨H, 0, none⟩), .int .i64 K, .agg #[.int .i64 c.kind, .int .i64 c.a, .int .i64 c.b, vK, vV]] w fun e w' => e = .returned (.int .i64 0) ∧ ∃ q, Hid (w.heap.size ≤ q) ∧ Hid (Sys base w' (bs.set i (upd bs b k c q))) ∧ Hid (Keep Four base w w') := by
  subst hA
  obtain ⟨aK, kK, rfl, -⟩ := hc.1
  obtain ⟨aV, kV, rfl, -⟩ := hc.2.1
  have hbel0 : Below w.heap.size w (w.alloc (.cells #[.int .i64 c.kind, .int .i64 c.a, .int .i64 c.b, .slice aK c.keys.length kK, .slice aV c.vals.length kV] 30)) := (Below.refl _ _).alloc (Nat.le_refl _) _
  have HBO : Hid (∀ W, Below w.heap.size w W → Calls Try.prog 35 #[.pointer (some ⟨H, 0, none⟩)] W fun e w' => e = .returned (.pointer (some ⟨b.at_, 0, none⟩)) ∧ w' = W) := fun W hW => bookOf_any (hp.below hW)
  have HAD : Hid (∀ W, Below w.heap.size w W → Calls Try.prog 28 #[.pointer (some ⟨b.at_, 0, none⟩), .int .i64 (IntKind.i64.wrap (K - 1)), .agg #[.int .i64 c.kind, .int .i64 c.a, .int .i64 c.b, .slice aK c.keys.length kK, .slice aV c.vals.length kV]] W fun e w' => e = .returned (.int .i64 0) ∧ ∃ q, Hid (w.heap.size ≤ q) ∧ Hid (Sys base w' (bs.set i (upd bs b k c q))) ∧ Hid (Keep Four base w w')) := fun W hW => by
    rw [hK]
    exact (set_yes (h.below hW) hb k hk (hc.keep (keepB h.size hW) (by simp))).mono fun e w' ⟨h1, q, h2, h3, h4⟩ => ⟨h1, q, Nat.le_trans hW.size h2, h3, ((keepB h.size hW).mono (by simp)).trans h4⟩
  have HB0 : Hid (_) := hbel0
  have hx := heap_alloc_new w (.cells #[.int .i64 c.kind, .int .i64 c.a, .int .i64 c.b, .slice aK c.keys.length kK, .slice aV c.vals.length kV] 30)
  obtain ⟨x0, x1, x2, x3, x4, y0, y1, y2, y3, y4, lx⟩ := blk5 hx
  clear h hb hp hc hbel0 hx hK hk
  generalize b.at_ = B at HBO HAD ⊢
  go_enter Try.func13, Try.ntmps13
  go_wp2_with fail
  go_region_with (first | (go_at_call 35; refine Calls.mono (HBO.out _ (by first | exact HB0.out | exact HB0.out.drew | exact HB0.out.drew.drew | exact HB0.out.drew.drew.drew | exact HB0.out.drew.drew.drew.drew)) ?_; rintro e w1 ⟨rfl, rfl⟩) | (go_at_call 28; refine Calls.mono (HAD.out _ (by first | exact HB0.out | exact HB0.out.drew | exact HB0.out.drew.drew | exact HB0.out.drew.drew.drew | exact HB0.out.drew.drew.drew.drew)) ?_; rintro e w2 ⟨rfl, q2, HQ2, HS2, HK2⟩))
  all_goals
    go_wp2_with fail
    go_ret
    exact ⟨rfl, q2, HQ2, HS2, HK2⟩
set_option maxRecDepth 100000 in
set_option maxHeartbeats 2000000 in
theorem hstore_no (h : Sys base w bs) {i : Nat} {b : Bk} (hb : bs[i]? = some b) {H A : Nat} (hA : b.at_ = A) (hp : Hp w H A) {K : Int} (hk : ¬ (0 ≤ IntKind.i64.wrap (K - 1) ∧ IntKind.i64.wrap (K - 1) < b.len)) {vK vV : Value} {c : Cl} (hc : Parts base w vK vV c) :
    Calls Try.prog 13 #[.pointer (some ⟨H, 0, none⟩), .int .i64 K, .agg #[.int .i64 c.kind, .int .i64 c.a, .int .i64 c.b, vK, vV]] w fun e w' => e = .returned (.int .i64 2) ∧ Hid (Below w.heap.size w w') := by
  subst hA
  obtain ⟨aK, kK, rfl, -⟩ := hc.1
  obtain ⟨aV, kV, rfl, -⟩ := hc.2.1
  have hbel0 : Below w.heap.size w (w.alloc (.cells #[.int .i64 c.kind, .int .i64 c.a, .int .i64 c.b, .slice aK c.keys.length kK, .slice aV c.vals.length kV] 30)) := (Below.refl _ _).alloc (Nat.le_refl _) _
  have HBO : Hid (∀ W, Below w.heap.size w W → Calls Try.prog 35 #[.pointer (some ⟨H, 0, none⟩)] W fun e w' => e = .returned (.pointer (some ⟨b.at_, 0, none⟩)) ∧ w' = W) := fun W hW => bookOf_any (hp.below hW)
  have HAD : Hid (∀ W, Below w.heap.size w W → Calls Try.prog 28 #[.pointer (some ⟨b.at_, 0, none⟩), .int .i64 (IntKind.i64.wrap (K - 1)), .agg #[.int .i64 c.kind, .int .i64 c.a, .int .i64 c.b, .slice aK c.keys.length kK, .slice aV c.vals.length kV]] W fun e w' => e = .returned (.int .i64 2) ∧ Hid (Below w.heap.size w w')) := fun W hW => (set_no (h.below hW) hb _ hk (hc.keep (keepB h.size hW) (by simp))).mono fun e w' ⟨h1, h2⟩ => ⟨h1, Below.chain hW h2 hW.size⟩
  have HB0 : Hid (_) := hbel0
  have hx := heap_alloc_new w (.cells #[.int .i64 c.kind, .int .i64 c.a, .int .i64 c.b, .slice aK c.keys.length kK, .slice aV c.vals.length kV] 30)
  obtain ⟨x0, x1, x2, x3, x4, y0, y1, y2, y3, y4, lx⟩ := blk5 hx
  clear h hb hp hc hbel0 hx hk
  generalize b.at_ = B at HBO HAD ⊢
  go_enter Try.func13, Try.ntmps13
  go_wp2_with fail
  go_region_with (first | (go_at_call 35; refine Calls.mono (HBO.out _ (by first | exact HB0.out | exact HB0.out.drew | exact HB0.out.drew.drew | exact HB0.out.drew.drew.drew | exact HB0.out.drew.drew.drew.drew)) ?_; rintro e w1 ⟨rfl, rfl⟩) | (go_at_call 28; refine Calls.mono (HAD.out _ (by first | exact HB0.out | exact HB0.out.drew | exact HB0.out.drew.drew | exact HB0.out.drew.drew.drew | exact HB0.out.drew.drew.drew.drew)) ?_; rintro e w2 ⟨rfl, HB2⟩))
  all_goals
    go_wp2_with fail
    go_ret
    exact ⟨rfl, HB2⟩
set_option maxRecDepth 100000 in
set_option maxHeartbeats 2000000 in
theorem hload (h : Sys base w bs) {i : Nat} {b : Bk} (hb : bs[i]? = some b) {H A : Nat} (hA : b.at_ = A) (hp : Hp w H A) {k : Nat} {K : Int} (hK : IntKind.i64.wrap (K - 1) = (k : Int)) (hk : k < b.len) {c : Cl} (hc : b.slots[k]? = some c) :
    Calls Try.prog 15 #[.pointer (some ⟨H, 0, none⟩), .int .i64 K] w fun e w' => ∃ aK kK aV kV, e = .returned (.tuple #[.agg #[.int .i64 c.kind, .int .i64 c.a, .int .i64 c.b, .slice aK c.keys.length kK, .slice aV c.vals.length kV], .int .i64 0]) ∧ Hid (Parts base w' (.slice aK c.keys.length kK) (.slice aV c.vals.length kV) c) ∧ Hid (Below w.heap.size w w') := by
  subst hA
  have hbel0 : Below w.heap.size w (w.alloc (.cells #[.int .i64 0, .int .i64 0, .int .i64 0, .slice none 0 0, .slice none 0 0] 30)) := (Below.refl _ _).alloc (Nat.le_refl _) _
  have HBO : Hid (_) := bookOf_any (hp.below hbel0)
  have HG : Hid (_) := get_at (h.below hbel0) hb k hk hc
  have HB0 : Hid (_) := hbel0
  have HSZ : Hid (base ≤ w.heap.size) := h.size
  clear h hb hp hc hbel0
  generalize b.at_ = B at HBO HG ⊢
  go_enter Try.func15, Try.ntmps15
  go_wp2_with fail
  refine Calls.mono HBO.out ?_
  rintro e w1 ⟨rfl, rfl⟩
  go_wp2_with fail
  refine Calls.mono HG.out ?_
  rintro e w2 ⟨aK, kK, aV, kV, rfl, HP2, hB2⟩
  have hx : w2.heap[w.heap.size]? = some (.cells #[.int .i64 0, .int .i64 0, .int .i64 0, .slice none 0 0, .slice none 0 0] 30) := (hB2.block _ (by simp)).trans (heap_alloc_new w _)
  obtain ⟨x0, x1, x2, x3, x4, y0, y1, y2, y3, y4, lx⟩ := blk5 hx
  have HB2 : Hid (Below w.heap.size w w2) := Below.chain HB0.out hB2 HB0.out.size
  have e0 := Lib.heap_setCell_same (i := 0) hx (.int .i64 c.kind)
  have e1 := Lib.heap_setCell_same (i := 1) e0 (.int .i64 c.a)
  have e2 := Lib.heap_setCell_same (i := 2) e1 (.int .i64 c.b)
  have e3 := Lib.heap_setCell_same (i := 3) e2 (.slice aK c.keys.length kK)
  have Q3 : Hid (_) := (((((Keep.refl [30] base w2).set (p := ⟨w.heap.size, 0, none⟩) hx (by simp) HSZ.out (.int .i64 c.kind)).set (p := ⟨w.heap.size, 1, none⟩) e0 (by simp) HSZ.out (.int .i64 c.a)).set (p := ⟨w.heap.size, 2, none⟩) e1 (by simp) HSZ.out (.int .i64 c.b)).set (p := ⟨w.heap.size, 3, none⟩) e2 (by simp) HSZ.out (.slice aK c.keys.length kK)).set (p := ⟨w.heap.size, 4, none⟩) e3 (by simp) HSZ.out (.slice aV c.vals.length kV)
  clear hB2 HB0 hx e0 e1 e2 e3
  go_wp2_with fail
  exact bodyPost_ret (v := .tuple #[.agg #[.int .i64 c.kind, .int .i64 c.a, .int .i64 c.b, .slice aK c.keys.length kK, .slice aV c.vals.length kV], .int .i64 0]) (by simp [results, Try.results15, go_sem, *]) rfl ⟨_, _, _, _, rfl, HP2.out.keep Q3.out (by simp [Mine]), (((((HB2.out.setCell (by simp) _).setCell (by simp) _).setCell (by simp) _).setCell (by simp) _).setCell (by simp) _)⟩
set_option maxRecDepth 100000 in
set_option maxHeartbeats 2000000 in
theorem hload_no (h : Sys base w bs) {i : Nat} {b : Bk} (hb : bs[i]? = some b) {H A : Nat} (hA : b.at_ = A) (hp : Hp w H A) (K : Int) (hk : ¬ (0 ≤ IntKind.i64.wrap (K - 1) ∧ IntKind.i64.wrap (K - 1) < b.len)) :
    Calls Try.prog 15 #[.pointer (some ⟨H, 0, none⟩), .int .i64 K] w fun e w' => e = .returned (.tuple #[.agg #[.int .i64 0, .int .i64 0, .int .i64 0, .slice none 0 0, .slice none 0 0], .int .i64 2]) ∧ Hid (Below w.heap.size w w') := by
  subst hA
  have hbel0 : Below w.heap.size w (w.alloc (.cells #[.int .i64 0, .int .i64 0, .int .i64 0, .slice none 0 0, .slice none 0 0] 30)) := (Below.refl _ _).alloc (Nat.le_refl _) _
  have HBO : Hid (_) := bookOf_any (hp.below hbel0)
  have HG : Hid (_) := get_no (h.below hbel0) hb (IntKind.i64.wrap (K - 1)) hk
  have HB0 : Hid (_) := hbel0
  clear h hb hp hbel0 hk
  generalize b.at_ = B at HBO HG ⊢
  generalize hJ : IntKind.i64.wrap (K - 1) = J at HG
  go_enter Try.func15, Try.ntmps15
  go_wp2_with fail
  refine Calls.mono HBO.out ?_
  rintro e w1 ⟨rfl, rfl⟩
  go_wp2_with fail
  refine Calls.mono HG.out ?_
  rintro e w2 ⟨rfl, hB2⟩
  have hx : w2.heap[w.heap.size]? = some (.cells #[.int .i64 0, .int .i64 0, .int .i64 0, .slice none 0 0, .slice none 0 0] 30) := (hB2.block _ (by simp)).trans (heap_alloc_new w _)
  obtain ⟨x0, x1, x2, x3, x4, y0, y1, y2, y3, y4, lx⟩ := blk5 hx
  have HB2 : Hid (Below w.heap.size w w2) := Below.chain HB0.out hB2 HB0.out.size
  clear hB2 HB0 hx
  go_wp2_with fail
  exact bodyPost_ret (v := .tuple #[.agg #[.int .i64 0, .int .i64 0, .int .i64 0, .slice none 0 0, .slice none 0 0], .int .i64 2]) (by simp [results, Try.results15, go_sem, *]) rfl ⟨rfl, (((((HB2.out.setCell (by simp) _).setCell (by simp) _).setCell (by simp) _).setCell (by simp) _).setCell (by simp) _)⟩
set_option maxRecDepth 100000 in
set_option maxHeartbeats 2000000 in
theorem hlen (h : Sys base w bs) {i : Nat} {b : Bk} (hb : bs[i]? = some b) {H A : Nat} (hA : b.at_ = A) (hp : Hp w H A) {n : Int} (hn : (b.len : Int) = n) : Calls Try.prog 16 #[.pointer (some ⟨H, 0, none⟩)] w fun e w' => e = .returned (.int .i64 n) ∧ w' = w := by
  have HBO : Hid (_) := bookOf_any hp
  have HG : Hid (_) := len_is h hb hA hn
  clear h hb hp
  go_enter Try.func16, Try.ntmps16
  go_wp2_with fail
  refine Calls.mono HBO.out ?_
  rintro e w1 ⟨rfl, rfl⟩
  go_wp2_with fail
  refine Calls.mono HG.out ?_
  rintro e w2 ⟨rfl, rfl⟩
  go_wp2_with fail
  go_ret
  exact ⟨rfl, rfl⟩
set_option maxRecDepth 100000 in
set_option maxHeartbeats 2000000 in
theorem hlen_none (w : World) : Calls Try.prog 16 #[.pointer none] w fun e w' => e = .returned (.int .i64 0) ∧ w' = w := by
  have HBO : Hid (_) := bookOf_none w
  have HG : Hid (_) := len_none w
  go_enter Try.func16, Try.ntmps16
  go_wp2_with fail
  refine Calls.mono HBO.out ?_
  rintro e w1 ⟨rfl, rfl⟩
  go_wp2_with fail
  refine Calls.mono HG.out ?_
  rintro e w2 ⟨rfl, rfl⟩
  go_wp2_with fail
  go_ret
  exact ⟨rfl, rfl⟩
set_option maxRecDepth 100000 in
set_option maxHeartbeats 2000000 in
theorem hlive (h : Sys base w bs) {i : Nat} {b : Bk} (hb : bs[i]? = some b) {H A : Nat} (hA : b.at_ = A) (hp : Hp w H A) {n : Int} (hn : (live bs b.fam : Int) = n) : Calls Try.prog 23 #[.pointer (some ⟨H, 0, none⟩)] w fun e w' => e = .returned (.int .i64 n) ∧ w' = w := by
  have HBO : Hid (_) := bookOf_any hp
  have HG : Hid (_) := live_is h hb hA hn
  clear h hb hp
  go_enter Try.func23, Try.ntmps23
  go_wp2_with fail
  refine Calls.mono HBO.out ?_
  rintro e w1 ⟨rfl, rfl⟩
  go_wp2_with fail
  refine Calls.mono HG.out ?_
  rintro e w2 ⟨rfl, rfl⟩
  go_wp2_with fail
  go_ret
  exact ⟨rfl, rfl⟩
set_option maxRecDepth 100000 in
set_option maxHeartbeats 2000000 in
theorem hdrop (h : Sys base w bs) {i : Nat} {b : Bk} (hb : bs[i]? = some b) {H A : Nat} (hA : b.at_ = A) (hp : Hp w H A) : Calls Try.prog 22 #[.pointer (some ⟨H, 0, none⟩)] w fun e w' => e = .returned (.tuple #[]) ∧ Hid (Sys base w' (bs.set i (gone b))) ∧ Hid (Keep Four base w w') := by
  have HBO : Hid (_) := bookOf_any hp
  have HG : Hid (_) := drop_yes h hb hA
  clear h hb hp
  go_enter Try.func22, Try.ntmps22
  go_wp2_with fail
  refine Calls.mono HBO.out ?_
  rintro e w1 ⟨rfl, rfl⟩
  go_wp2_with fail
  refine Calls.mono HG.out ?_
  rintro e w2 ⟨rfl, hs2, hk2⟩
  have HS2 : Hid (_) := hs2
  have HK2 : Hid (_) := hk2
  clear hs2 hk2
  go_wp2_with fail
  go_end0
  exact ⟨rfl, HS2, HK2⟩
set_option maxRecDepth 100000 in
set_option maxHeartbeats 2000000 in
theorem hmark_none (w : World) : Calls Try.prog 11 #[.pointer none] w fun e w' => e = .returned (.pointer none) ∧ w' = w := by
  have HBO : Hid (_) := bookOf_none w
  have HG : Hid (_) := mark_none w
  go_enter Try.func11, Try.ntmps11
  go_wp2_with fail
  refine Calls.mono HBO.out ?_
  rintro e w1 ⟨rfl, rfl⟩
  go_wp2_with fail
  refine Calls.mono HG.out ?_
  rintro e w2 ⟨rfl, rfl⟩
  go_wp2_with fail
  go_ret
  exact ⟨rfl, rfl⟩
set_option maxRecDepth 100000 in
set_option maxHeartbeats 2000000 in
theorem hmark (h : Sys base w bs) (hf : bs.length < 1000) {i : Nat} {b : Bk} (hb : bs[i]? = some b) {H A : Nat} (hA : b.at_ = A) (hp : Hp w H A) (ho : b.opn = true) :
    Calls Try.prog 11 #[.pointer (some ⟨H, 0, none⟩)] w fun e w' => ∃ q A' v, e = .returned (.pointer (some ⟨q, 0, none⟩)) ∧ Hid (w.heap.size ≤ q) ∧ Hid (Sys base w' (bs ++ [{ b with at_ := A', row := v }])) ∧ Hid (Hp w' q A') ∧ Hid (Keep [90] base w w') := by
  have HBO : Hid (_) := bookOf_any hp
  have HG : Hid (_) := mark_yes h hf hb hA ho
  have HSZ : Hid (base ≤ w.heap.size) := h.size
  clear h hb hp
  go_enter Try.func11, Try.ntmps11
  go_wp2_with fail
  refine Calls.mono HBO.out ?_
  rintro e w1 ⟨rfl, rfl⟩
  go_wp2_with fail
  refine Calls.mono HG.out ?_
  rintro e w2 ⟨q, v, rfl, hq, hs2, hk2⟩
  have HS2 : Hid (_) := hs2
  have HK2 : Hid (_) := hk2
  clear hs2 hk2
  go_wp2_with fail
  go_ret
  have k0 : Below w2.heap.size w2 (w2.alloc (.cells #[.pointer (some ⟨q, 0, none⟩)] 67)) := (Below.refl _ _).alloc (Nat.le_refl _) _
  exact ⟨w2.heap.size, _, v, rfl, HK2.out.size, HS2.out.below k0, heap_alloc_new _ _, HK2.out.below HS2.out.size k0⟩
end
end Go.Proofs.Ytmipgpkeegggpaa.P
