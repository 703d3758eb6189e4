-- PROVED: a cell is added (5.1, 5.2).
import Derived.Test.YtmipgpkeegggpaaPGrow
namespace Go.Proofs.Ytmipgpkeegggpaa.P
open Go.RowKit
set_option linter.unusedVariables false
/-- A book's pages where page j must be its own. -/
def ownP (bs : List Bk) (l : List Nat) (j q : Nat) : List Nat := if j = l.length then l ++ [q] else if 2 ≤ cnt bs (l.getD j 0) then l.set j q else l
/-- A book with one cell more. -/
structure Added (sz : Nat) (bs : List Bk) (b : Bk) (c : Cl) (b' : Bk) : Prop where
  at_ : b'.at_ = b.at_
  opn : b'.opn = b.opn
  fam : b'.fam = b.fam
  len : b'.len = b.len + 1
  old : ∀ k, k < b.len → b'.slots[k]? = b.slots[k]?
  new : b'.slots[b.len]? = some c
  pgs : ∃ q, sz ≤ q ∧ b'.pgs = ownP bs b.pgs (b.len / 8) q
set_option maxRecDepth 100000 in
set_option maxHeartbeats 2000000 in
theorem add_none {base : Nat} {w : World} {vK vV : Value} {c : Cl} (hc : Parts base w vK vV c) :
    Calls Try.prog 26 #[.pointer none, .agg #[.int .i64 c.kind, .int .i64 c.a, .int .i64 c.b, vK, vV]] w fun e w' => e = .returned (.tuple #[.int .i64 0, .int .i64 2]) ∧ Below w.heap.size w w' := by
  obtain ⟨aK, kK, rfl, -⟩ := hc.1
  obtain ⟨aV, kV, rfl, -⟩ := hc.2.1
  have hbel0 : Below w.heap.size w (w.alloc (.cells #[.int .i64 c.kind, .int .i64 c.a, .int .i64 c.b, .slice aK c.keys.length kK, .slice aV c.vals.length kV] 30)) := (Below.refl _ _).alloc (Nat.le_refl _) _
  clear hc
  go_enter Try.func26, Try.ntmps26
  go_wp2
  go_ret2
  exact ⟨rfl, hbel0⟩
set_option maxRecDepth 100000 in
set_option maxHeartbeats 2000000 in
theorem add_closed {base : Nat} {w : World} {bs : List Bk} (h : Sys base w bs) {i : Nat} {b : Bk} (hb : bs[i]? = some b) (ho : b.opn = false) {vK vV : Value} {c : Cl} (hc : Parts base w vK vV c) :
    Calls Try.prog 26 #[.pointer (some ⟨b.at_, 0, none⟩), .agg #[.int .i64 c.kind, .int .i64 c.a, .int .i64 c.b, vK, vV]] w fun e w' => e = .returned (.tuple #[.int .i64 0, .int .i64 2]) ∧ Below w.heap.size w w' := by
  obtain ⟨aK, kK, rfl, -⟩ := hc.1
  obtain ⟨aV, kV, rfl, -⟩ := hc.2.1
  have hbel0 : Below w.heap.size w (w.alloc (.cells #[.int .i64 c.kind, .int .i64 c.a, .int .i64 c.b, .slice aK c.keys.length kK, .slice aV c.vals.length kV] 30)) := (Below.refl _ _).alloc (Nat.le_refl _) _
  have h0 := h.below hbel0
  obtain ⟨h1, h2, _⟩ := h0.bm.book i b hb
  rw [ho] at h2
  obtain ⟨b0, b1, b2, b3, f0, f1, f2, f3, lb⟩ := blk4 h2
  clear h0 h h2 hb ho hc h1
  generalize b.at_ = B at *
  go_enter Try.func26, Try.ntmps26
  go_wp2
  go_ret2
  exact ⟨rfl, hbel0⟩
set_option maxRecDepth 100000 in
set_option maxHeartbeats 2000000 in
theorem add_full {base : Nat} {w : World} {bs : List Bk} (h : Sys base w bs) {i : Nat} {b : Bk} (hb : bs[i]? = some b) (ho : b.opn = true) (hl : b.len = 4096) {vK vV : Value} {c : Cl} (hc : Parts base w vK vV c) :
    Calls Try.prog 26 #[.pointer (some ⟨b.at_, 0, none⟩), .agg #[.int .i64 c.kind, .int .i64 c.a, .int .i64 c.b, vK, vV]] w fun e w' => e = .returned (.tuple #[.int .i64 0, .int .i64 6]) ∧ Below w.heap.size w w' := by
  obtain ⟨aK, kK, rfl, -⟩ := hc.1
  obtain ⟨aV, kV, rfl, -⟩ := hc.2.1
  have hbel0 : Below w.heap.size w (w.alloc (.cells #[.int .i64 c.kind, .int .i64 c.a, .int .i64 c.b, .slice aK c.keys.length kK, .slice aV c.vals.length kV] 30)) := (Below.refl _ _).alloc (Nat.le_refl _) _
  have h0 := h.below hbel0
  obtain ⟨h1, h2, _⟩ := h0.bm.book i b hb
  rw [ho, hl] at h2
  obtain ⟨b0, b1, b2, b3, f0, f1, f2, f3, lb⟩ := blk4 h2
  clear h0 h h2 hb ho hc h1 hl
  generalize b.at_ = B at *
  go_enter Try.func26, Try.ntmps26
  go_wp2
  go_ret2
  exact ⟨rfl, hbel0⟩
def withLen (u : Bk) (n : Nat) : Bk := { u with len := n }
/-- One more is told. -/
theorem len_turn {base : Nat} {w : World} {bs : List Bk} {i A : Nat} {b u : Bk} {lv : Nat → Nat} (hA : u.at_ = A) (hb : bs[i]? = some b) (hbm : BM base w (bs.set i u)) (hpm : PM base w (bs.set i u) lv) (n : Nat) :
    BM base (w.setCell ⟨A, 1, none⟩ (.int .i64 (n : Int))) (bs.set i (withLen u n)) ∧ PM base (w.setCell ⟨A, 1, none⟩ (.int .i64 (n : Int))) (bs.set i (withLen u n)) lv ∧ Keep [86] base w (w.setCell ⟨A, 1, none⟩ (.int .i64 (n : Int))) := by
  subst hA
  obtain ⟨h1, h2, h3⟩ := hbm.book i u (set_same hb)
  have kk : Keep [86] base w (w.setCell ⟨u.at_, 1, none⟩ (.int .i64 (n : Int))) := (Keep.refl _ _ _).set h2 (by simp) h1 _
  refine ⟨?_, (hpm.keep kk (by simp)).alike hb rfl rfl rfl, kk⟩
  have := hbm.turn (b' := (withLen u n)) (w' := w.setCell ⟨u.at_, 1, none⟩ (.int .i64 (n : Int))) (set_same hb) rfl (fun k arr T hk hk1 _ => heap_set_ne hk1) (Lib.heap_setCell_same h2 _) (own_same h3 fun g cur _ hcur => kk.same _ _ _ _ hcur (by simp)) (fun g hg => .inl hg)
  rwa [List.set_set] at this
set_option maxRecDepth 100000 in
set_option maxHeartbeats 4000000 in
theorem add_old {base : Nat} {w : World} {bs : List Bk} (h : Sys base w bs) {i : Nat} {b : Bk} (hb : bs[i]? = some b) (ho : b.opn = true) (hl : b.len < 4096) (hr : b.len % 8 ≠ 0) {vK vV : Value} {c : Cl} (hc : Parts base w vK vV c) :
    Calls Try.prog 26 #[.pointer (some ⟨b.at_, 0, none⟩), .agg #[.int .i64 c.kind, .int .i64 c.a, .int .i64 c.b, vK, vV]] w fun e w' => e = .returned (.tuple #[.int .i64 (b.len : Int), .int .i64 0]) ∧
      ∃ b', Sys base w' (bs.set i b') ∧ Added w.heap.size bs b c b' ∧ Keep Four base w w' := by
  obtain ⟨aK, kK, rfl, -⟩ := hc.1
  obtain ⟨aV, kV, rfl, -⟩ := hc.2.1
  have hbel0 : Below w.heap.size w (w.alloc (.cells #[.int .i64 c.kind, .int .i64 c.a, .int .i64 c.b, .slice aK c.keys.length kK, .slice aV c.vals.length kV] 30)) := (Below.refl _ _).alloc (Nat.le_refl _) _
  have h0 := h.below hbel0
  obtain ⟨h1, h2, _⟩ := h0.bm.book i b hb
  obtain ⟨o1, o2, o3, o4⟩ := h0.ok i b hb
  rw [ho] at h2
  obtain ⟨b0, b1, b2, b3, f0, f1, f2, f3, lb⟩ := blk4 h2
  have HW : Hid (_) := write_any h0.bm h0.pm h0.size hb (k := b.len) (by omega) h0.few h0.all (hc.keep (keepB h.size hbel0) (by simp))
  have HS : Hid (Sys base w bs) := h
  have HK0 : Hid (_) := keepB h.size hbel0
  have hx := heap_alloc_new w (.cells #[.int .i64 c.kind, .int .i64 c.a, .int .i64 c.b, .slice aK c.keys.length kK, .slice aV c.vals.length kV] 30)
  obtain ⟨x0, x1, x2, x3, x4, y0, y1, y2, y3, y4, lx⟩ := blk5 hx
  have HB : Hid (bs[i]? = some b) := hb
  have HO : Hid (b.opn = true) := ho
  have hN : ¬ ((b.len : Int) = 4096) := by omega
  have hN' : ((b.len : Int) == 4096) = false := by simpa using hN
  have hR : ¬ ((b.len : Int) % 8 = 0) := by omega
  have hR' : ((b.len : Int) % 8 == 0) = false := by simpa using hR
  clear h0 h h2 hbel0 hx hb ho hc h1 hr
  generalize hAt : b.at_ = B at b0 b1 b2 b3 f0 f1 f2 f3 lb HW ⊢
  have HAT : Hid (b.at_ = B) := hAt
  clear hAt
  go_enter Try.func26, Try.ntmps26
  go_wp2_with fail
  refine Calls.mono HW.out ?_
  rintro e w2 ⟨rfl, q, hq, hp2, hb2, hk2⟩
  obtain ⟨z1, z2, z3⟩ := hb2.book i _ (set_same HB.out)
  have hua : (upd bs b b.len c q).at_ = B := HAT.out
  have hul : (upd bs b b.len c q).len = b.len := rfl
  rw [hua, hul] at z2
  obtain ⟨b0', b1', b2', b3', f0', f1', f2', f3', lb'⟩ := blk4 z2
  have HT : Hid (_) := len_turn hua HB.out hb2 hp2 (b.len + 1)
  rw [show ((b.len + 1 : Nat) : Int) = (b.len : Int) + 1 by omega] at HT
  have HK2 : Hid (_) := hk2
  have HQ : Hid (w.heap.size ≤ q) := by simp at hq; exact (by omega : w.heap.size ≤ q)
  clear hp2 hb2 hk2 z1 z2 z3 hq hua hul b0 b1 b2 b3 f0 f1 f2 f3 lb x0 x1 x2 x3 x4 y0 y1 y2 y3 y4 lx HW
  go_wp2_with fail
  go_ret2
  obtain ⟨t1, t2, t3⟩ := HT.out
  refine ⟨rfl, (withLen (upd bs b b.len c q) (b.len + 1)), ⟨t1, ?_, ?_, by rw [List.length_set]; exact HS.out.few, Nat.le_trans HS.out.size (Nat.le_trans HK0.out.size (Nat.le_trans HK2.out.size t3.size))⟩, ⟨rfl, rfl, rfl, rfl, ?_, ?_, q, HQ.out, ?_⟩, ((HK0.out.mono (by simp)).trans HK2.out).trans (t3.mono (by simp [Four]))⟩
  · have : live (bs.set i (withLen (upd bs b b.len c q) (b.len + 1))) = live (bs.set i (upd bs b b.len c q)) := by
      funext f; exact live_slots (b1 := (withLen (upd bs b b.len c q) (b.len + 1))) (b2 := upd bs b b.len c q) HB.out rfl rfl f
    rw [this]; exact t2
  · intro j d hd
    rcases get_set HB.out hd with ⟨rfl, rfl⟩ | ⟨g1, g2⟩
    · obtain ⟨a1, a2, a3, a4⟩ := ok_upd HS.out HB.out b.len c q j _ (set_same HB.out)
      have a2' : (upd bs b b.len c q).pgs.length = (b.len + 7) / 8 := a2
      refine ⟨by unfold withLen; simp only []; omega, by unfold withLen; simp only []; rw [a2']; omega, fun e => ?_, a4⟩
      have e' : b.opn = false := e
      rw [HO.out] at e'; cases e'
    · exact HS.out.ok j d g2
  · intro k hk
    unfold withLen upd; simp only []
    rw [List.getElem?_set, if_neg (by omega)]
  · unfold withLen upd; simp only []
    rw [List.getElem?_set, if_pos rfl, if_pos (by omega)]
  · unfold withLen upd ownP; simp only []
    rw [if_neg (show ¬ b.len / 8 = b.pgs.length by omega)]
set_option maxRecDepth 100000 in
set_option maxHeartbeats 4000000 in
theorem add_new {base : Nat} {w : World} {bs : List Bk} (h : Sys base w bs) {i : Nat} {b : Bk} (hb : bs[i]? = some b) (ho : b.opn = true) (hl : b.len < 4096) (hr : b.len % 8 = 0) {vK vV : Value} {c : Cl} (hc : Parts base w vK vV c) :
    Calls Try.prog 26 #[.pointer (some ⟨b.at_, 0, none⟩), .agg #[.int .i64 c.kind, .int .i64 c.a, .int .i64 c.b, vK, vV]] w fun e w' => e = .returned (.tuple #[.int .i64 (b.len : Int), .int .i64 0]) ∧
      ∃ b', Sys base w' (bs.set i b') ∧ Added w.heap.size bs b c b' ∧ Keep Four base w w' := by
  obtain ⟨aK, kK, rfl, -⟩ := hc.1
  obtain ⟨aV, kV, rfl, -⟩ := hc.2.1
  have hbel0 : Below w.heap.size w (w.alloc (.cells #[.int .i64 c.kind, .int .i64 c.a, .int .i64 c.b, .slice aK c.keys.length kK, .slice aV c.vals.length kV] 30)) := (Below.refl _ _).alloc (Nat.le_refl _) _
  have h0 := h.below hbel0
  obtain ⟨h1, h2, h3⟩ := h0.bm.book i b hb
  obtain ⟨o1, o2, o3, o4⟩ := h0.ok i b hb
  obtain ⟨ao, cap0, hrow⟩ : ∃ a cap, b.row = .slice a b.pgs.length cap := by
    rcases h3.2 with ⟨e, e'⟩ | ⟨g, cap, cur, e, _⟩
    · exact ⟨none, 0, by rw [e, e']⟩
    · exact ⟨_, _, e⟩
  obtain ⟨a, cap, w3, hrun, e1, e2, hb3, p5, b5, k5⟩ := grow_turn h0.bm h0.pm h0.size blank hb o4 (by omega) 84
  rw [show (w.alloc (.cells #[.int .i64 c.kind, .int .i64 c.a, .int .i64 c.b, .slice aK c.keys.length kK, .slice aV c.vals.length kV] 30)).heap.size = w.heap.size + 1 by simp] at hrun p5 b5
  have hlv := live_le bs b.fam h.all
  have hfew := h.few
  have hBF : b.at_ ≠ b.fam := type_ne e1 e2 (by decide)
  rw [hrow] at hrun
  rw [ho, hrow] at e1 h2
  obtain ⟨b0, b1, b2, b3, f0, f1, f2, f3, lb⟩ := blk4 h2
  obtain ⟨b0', b1', b2', b3', f0', f1', f2', f3', lb'⟩ := blk4 e1
  obtain ⟨m0', m1', lm'⟩ := blk1 e2
  have hcnt : cnt (bs.set i (more b (w.heap.size + 1) (.slice a (b.pgs.length + 1) cap))) (w.heap.size + 1) = 1 := by
    have hnq : ∀ (i : Nat) (b : Bk), bs[i]? = some b → (w.heap.size + 1) ∉ b.pgs := fun i b hb hq' => by have := h.pm.lt hb hq'; omega
    have e := cnt_set bs i b (more b (w.heap.size + 1) (.slice a (b.pgs.length + 1) cap)) (w.heap.size + 1) hb
    rw [if_neg (hnq _ b hb), if_pos (by unfold more; simp), cnt_zero hnq] at e
    omega
  have k05 := ((keepB h.size hbel0).mono (S' := Four) (by simp)).trans k5
  have hB5 := Nat.le_trans h.size k05.size
  have hx := heap_alloc_new w (.cells #[.int .i64 c.kind, .int .i64 c.a, .int .i64 c.b, .slice aK c.keys.length kK, .slice aV c.vals.length kV] 30)
  have hx5 := (k5.same _ _ _ _ hx (by simp [Four])).trans hx
  have hp5 : (more b (w.heap.size + 1) (.slice a (b.pgs.length + 1) cap)).pgs[b.len / 8]? = some (w.heap.size + 1) := by
    unfold more; simp only []
    rw [List.getElem?_append_right (by omega), show b.len / 8 - b.pgs.length = 0 by omega]; rfl
  have HW : Hid (_) := write_own b5 p5 hB5 (set_same hb) (k := b.len) hp5 hcnt (by unfold more; simp; omega) (hc.keep k05 (by simp [Four, Mine]))
  have hma : (more b (w.heap.size + 1) (.slice a (b.pgs.length + 1) cap)).at_ = b.at_ := rfl
  rw [hma] at HW
  have HS : Hid (Sys base w bs) := h
  have HB5 : Hid (_) := b5
  have HK5 : Hid (_) := k05
  obtain ⟨x0, x1, x2, x3, x4, y0, y1, y2, y3, y4, lx⟩ := blk5 hx5
  have HB : Hid (bs[i]? = some b) := hb
  have HO : Hid (b.opn = true) := ho
  have hN : ¬ ((b.len : Int) = 4096) := by omega
  have hN' : ((b.len : Int) == 4096) = false := by simpa using hN
  have hR : ((b.len : Int) % 8 = 0) := by omega
  have hlv2 : live bs b.fam ≤ 1000000 := by omega
  have HR0 : Hid (b.len % 8 = 0) := hr
  have HRU : Hid (_) := hrun
  have HO2 : Hid (b.pgs.length = (b.len + 7) / 8) := o2
  have HO4 : Hid (b.slots.length = 8 * b.pgs.length) := o4
  clear o2 o3 o4
  clear h0 h h2 h3 hbel0 hx hx5 hb ho hc h1 hr e1 e2 p5 b5 k5 k05 hcnt hp5 hma hlv hrow hb3 hrun hfew
  generalize hAt : b.at_ = B at b0 b1 b2 b3 f0 f1 f2 f3 lb b0' b1' b2' b3' f0' f1' f2' f3' lb' HW HB5 HK5 hBF x0 x1 x2 x3 x4 y0 y1 y2 y3 y4 lx ⊢
  have HAT : Hid (b.at_ = B) := hAt
  clear hAt
  generalize hNP : b.pgs.length = np at HRU HW HB5 HK5 x0 x1 x2 x3 x4 y0 y1 y2 y3 y4 lx b2 b2' ⊢
  have HNP : Hid (b.pgs.length = np) := hNP
  clear hNP
  generalize hFM : b.fam = F at b3 b3' m0' m1' lm' HW HB5 HK5 hBF x0 x1 x2 x3 x4 y0 y1 y2 y3 y4 lx hlv2 ⊢
  have HFM : Hid (b.fam = F) := hFM
  clear hFM
  go_enter Try.func26, Try.ntmps26
  go_wp2_with (at_builtin; refine wpList_append_run _ _ 84 rfl rfl _ _ _ _ rfl rfl HRU.out ?_)
  refine Calls.mono HW.out ?_
  rintro e w6 ⟨rfl, hp6, hk6⟩
  have HP6 : Hid (_) := hp6
  have HB6 : Hid (_) := HB5.out.keep hk6 (by simp)
  have HK6 : Hid (_) := HK5.out.trans (hk6.mono (by simp [Four]))
  clear hp6 hk6 HB5 HW HK5 HRU b0 b1 b2 b3 f0 f1 f2 f3 lb b0' b1' b2' b3' f0' f1' f2' f3' lb' m0' m1' lm' x0 x1 x2 x3 x4 y0 y1 y2 y3 y4 lx
  rw [← HNP.out] at HP6 HB6
  try rw [← HAT.out] at HP6
  try rw [← HFM.out] at HP6
  try rw [← HAT.out] at HB6
  try rw [← HFM.out] at HB6
  rw [List.set_set] at HP6
  have hbm7 := HB6.out.alike (b2 := { more b (w.heap.size + 1) (.slice a (b.pgs.length + 1) cap) with slots := (more b (w.heap.size + 1) (.slice a (b.pgs.length + 1) cap)).slots.set b.len c }) HB.out rfl rfl rfl rfl rfl rfl
  obtain ⟨z1, z2, z3⟩ := hbm7.book i _ (set_same HB.out)
  have hua : ({ more b (w.heap.size + 1) (.slice a (b.pgs.length + 1) cap) with slots := (more b (w.heap.size + 1) (.slice a (b.pgs.length + 1) cap)).slots.set b.len c } : Bk).at_ = B := HAT.out
  have hul : ({ more b (w.heap.size + 1) (.slice a (b.pgs.length + 1) cap) with slots := (more b (w.heap.size + 1) (.slice a (b.pgs.length + 1) cap)).slots.set b.len c } : Bk).len = b.len := rfl
  have HT : Hid (_) := len_turn hua HB.out hbm7 HP6.out (b.len + 1)
  rw [show ((b.len + 1 : Nat) : Int) = (b.len : Int) + 1 by omega] at HT
  rw [hua, hul] at z2
  obtain ⟨b0, b1, b2, b3, f0, f1, f2, f3, lb⟩ := blk4 z2
  clear z1 z2 z3 hua hul hbm7 HP6 HB6
  go_wp2_with fail
  go_ret2
  obtain ⟨t1, t2, t3⟩ := HT.out
  have hlen : (more b (w.heap.size + 1) (.slice a (b.pgs.length + 1) cap)).slots.length = 8 * b.pgs.length + 8 := by unfold more; simp [HO4.out]
  refine ⟨rfl, _, ⟨t1, ?_, ?_, by rw [List.length_set]; exact HS.out.few, Nat.le_trans HS.out.size (Nat.le_trans HK6.out.size t3.size)⟩, ⟨rfl, rfl, rfl, rfl, ?_, ?_, w.heap.size + 1, by omega, ?_⟩, HK6.out.trans (t3.mono (by simp [Four]))⟩
  · refine (?_ : live _ = live _) ▸ t2
    funext f
    exact live_slots HB.out (by rfl) (by rfl) f
  · intro j d hd
    rcases get_set HB.out hd with ⟨rfl, rfl⟩ | ⟨g1, g2⟩
    · have := HO2.out
      have := HR0.out
      refine ⟨by unfold withLen; simp only []; omega, by unfold withLen more; simp only [List.length_append, List.length_singleton]; omega, fun e => ?_, by unfold withLen; simp only [List.length_set]; rw [hlen]; unfold more; simp; omega⟩
      have e' : b.opn = false := e
      rw [HO.out] at e'; cases e'
    · exact HS.out.ok j d g2
  · intro k hk
    have := HO2.out
    have := HO4.out
    unfold withLen more; simp only []
    rw [List.getElem?_set, if_neg (by omega), List.getElem?_append_left (by omega)]
  · have := HO2.out
    have := HR0.out
    unfold withLen; simp only []
    rw [List.getElem?_set, if_pos rfl, if_pos (by rw [hlen]; omega)]
  · have := HO2.out
    have := HR0.out
    unfold withLen more ownP; simp only []
    rw [if_pos (show b.len / 8 = b.pgs.length by omega)]
theorem add_yes {base : Nat} {w : World} {bs : List Bk} (h : Sys base w bs) {i : Nat} {b : Bk} (hb : bs[i]? = some b) (ho : b.opn = true) (hl : b.len < 4096) {vK vV : Value} {c : Cl} (hc : Parts base w vK vV c) :
    Calls Try.prog 26 #[.pointer (some ⟨b.at_, 0, none⟩), .agg #[.int .i64 c.kind, .int .i64 c.a, .int .i64 c.b, vK, vV]] w fun e w' => e = .returned (.tuple #[.int .i64 (b.len : Int), .int .i64 0]) ∧
      ∃ b', Sys base w' (bs.set i b') ∧ Added w.heap.size bs b c b' ∧ Keep Four base w w' := by
  by_cases hr : b.len % 8 = 0
  · exact add_new h hb ho hl hr hc
  · exact add_old h hb ho hl hr hc
end Go.Proofs.Ytmipgpkeegggpaa.P
