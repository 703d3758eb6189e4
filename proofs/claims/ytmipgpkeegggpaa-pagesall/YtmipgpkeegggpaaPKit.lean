-- PROVED: what books tell, as statements ask it; the statements' own 'awake' of layer 5.
import Derived.Test.YtmipgpkeegggpaaPAdd2
namespace Go.Proofs.Ytmipgpkeegggpaa.P
open Go.RowKit
set_option linter.unusedVariables false
section
variable {base : Nat} {w : World} {bs : List Bk}
theorem live_is (h : Sys base w bs) {i : Nat} {b : Bk} (hb : bs[i]? = some b) {A : Nat} {n : Int} (hA : b.at_ = A) (hn : (live bs b.fam : Int) = n) : Calls Try.prog 44 #[.pointer (some ⟨A, 0, none⟩)] w fun e w' => e = .returned (.int .i64 n) ∧ w' = w := by
  subst hA hn
  exact live_any (h.bm.book i b hb).2.1 (h.pm.fam i b hb).2
theorem len_is (h : Sys base w bs) {i : Nat} {b : Bk} (hb : bs[i]? = some b) {A : Nat} {n : Int} (hA : b.at_ = A) (hn : (b.len : Int) = n) : Calls Try.prog 37 #[.pointer (some ⟨A, 0, none⟩)] w fun e w' => e = .returned (.int .i64 n) ∧ w' = w := by
  subst hA hn
  exact len_any (h.bm.book i b hb).2.1
theorem get_at (h : Sys base w bs) {i : Nat} {b : Bk} (hb : bs[i]? = some b) (k : Nat) (hk : k < b.len) {c : Cl} (hc : b.slots[k]? = some c) :
    Calls Try.prog 36 #[.pointer (some ⟨b.at_, 0, none⟩), .int .i64 (k : Int)] w fun e w' => ∃ aK kK aV kV, e = .returned (.tuple #[.agg #[.int .i64 c.kind, .int .i64 c.a, .int .i64 c.b, .slice aK c.keys.length kK, .slice aV c.vals.length kV], .int .i64 0]) ∧
      Hid (Parts base w' (.slice aK c.keys.length kK) (.slice aV c.vals.length kV) c) ∧ Below w.heap.size w w' :=
  (get_yes h hb k hk).mono fun e w' ⟨vK, vV, c', h1, h2, h3, h4⟩ => by
    rw [hc] at h1
    cases h1
    obtain ⟨aK, kK, rfl, -⟩ := h3.1
    obtain ⟨aV, kV, rfl, -⟩ := h3.2.1
    exact ⟨aK, kK, aV, kV, h2, h3, h4⟩
/-- A cell without lists. -/
def pc (k a : Int) : Cl := ⟨k, a, 0, [], []⟩
theorem get_p (h : Sys base w bs) {i : Nat} {b : Bk} (hb : bs[i]? = some b) {A : Nat} (hA : b.at_ = A) (k : Nat) {K : Int} (hK : (k : Int) = K) (hk : k < b.len) {x a : Int} (hc : b.slots[k]? = some (pc x a)) :
    Calls Try.prog 36 #[.pointer (some ⟨A, 0, none⟩), .int .i64 K] w fun e w' => ∃ aK kK aV kV, e = .returned (.tuple #[.agg #[.int .i64 x, .int .i64 a, .int .i64 0, .slice aK 0 kK, .slice aV 0 kV], .int .i64 0]) ∧ Below w.heap.size w w' := by
  subst hA hK
  exact (get_at h hb k hk hc).mono fun e w' ⟨aK, kK, aV, kV, h1, _, h3⟩ => ⟨aK, kK, aV, kV, h1, h3⟩
theorem add_p (h : Sys base w bs) {i : Nat} {b : Bk} (hb : bs[i]? = some b) {A : Nat} (hA : b.at_ = A) (ho : b.opn = true) (hl : b.len < 4096) {n : Int} (hn : (b.len : Int) = n) (x a : Int) :
    Calls Try.prog 26 #[.pointer (some ⟨A, 0, none⟩), .agg #[.int .i64 x, .int .i64 a, .int .i64 0, .slice none 0 0, .slice none 0 0]] w fun e w' => e = .returned (.tuple #[.int .i64 n, .int .i64 0]) ∧
      ∃ b', Hid (Sys base w' (bs.set i b')) ∧ Hid (Added w.heap.size bs b (pc x a) b') ∧ Hid (Keep Four base w w') := by
  subst hA hn
  exact add_yes h hb ho hl (c := pc x a) (Parts.nil _ _ _ _ _)
theorem set_p (h : Sys base w bs) {i : Nat} {b : Bk} (hb : bs[i]? = some b) {A : Nat} (hA : b.at_ = A) (k : Nat) {K : Int} (hK : (k : Int) = K) (hk : k < b.len) (x a : Int) :
    Calls Try.prog 28 #[.pointer (some ⟨A, 0, none⟩), .int .i64 K, .agg #[.int .i64 x, .int .i64 a, .int .i64 0, .slice none 0 0, .slice none 0 0]] w fun e w' => e = .returned (.int .i64 0) ∧
      ∃ q, Hid (w.heap.size ≤ q) ∧ Hid (Sys base w' (bs.set i (upd bs b k (pc x a) q))) ∧ Hid (Keep Four base w w') := by
  subst hA hK
  exact set_yes h hb k hk (c := pc x a) (Parts.nil _ _ _ _ _)
/-- A book that is new. -/
structure Fresh (b : Bk) (A F : Nat) : Prop where
  at_ : b.at_ = A
  opn : b.opn = true
  len : b.len = 0
  pgs : b.pgs = []
  fam : b.fam = F
theorem new_p (h : Sys base w bs) (hf : bs.length < 1000) :
    Calls Try.prog 25 #[] w fun e w' => e = .returned (.pointer (some ⟨w.heap.size + 1, 0, none⟩)) ∧ ∃ b, Hid (Sys base w' (bs ++ [b])) ∧ Hid (Fresh b (w.heap.size + 1) w.heap.size) ∧ Hid (Below w.heap.size w w') :=
  (new_sys h hf).mono fun e w' ⟨h1, h2, h3⟩ => ⟨h1, _, h2, ⟨rfl, rfl, rfl, rfl, rfl⟩, h3⟩
end
theorem live_one (b : Bk) : live [b] b.fam = dist b.pgs := by simp [live, fall]
set_option maxRecDepth 100000 in
set_option maxHeartbeats 2000000 in
theorem awake_any (w : World) : Calls Try.prog 24 #[] w fun e w' => e = .returned (.bool true) ∧ Below w.heap.size w w' := by
  go_enter Try.func24, Try.ntmps24
  go_wp2_with fail
  refine Calls.mono (new_p (sys_nil w) (by simp)) ?_
  rintro e w1 ⟨rfl, b, HS1, HF, HB1⟩
  have HL1 : Hid (_) := live_is HS1.out (i := 0) (n := 0) rfl HF.out.at_ (by simp [live_one, HF.out.pgs, dist])
  have HA1 : Hid (_) := add_p HS1.out (i := 0) rfl HF.out.at_ HF.out.opn (by rw [HF.out.len]; omega) (n := 0) (by rw [HF.out.len]; rfl) 3 0
  have HBA : Hid (b.at_ = w.heap.size + 1) := HF.out.at_
  generalize w.heap.size + 1 = A at *
  go_wp2_with (first | (go_at_call 44; refine Calls.mono HL1.out ?_; rintro e w2 ⟨rfl, rfl⟩))
  refine Calls.mono HA1.out ?_
  rintro e w2 ⟨rfl, b2, HS2, HD2, HK2⟩
  have hl2 : b2.len = 1 := by rw [HD2.out.len, HF.out.len]
  have ha2 : b2.at_ = A := by rw [HD2.out.at_, HBA.out]
  have hc2 : b2.slots[0]? = some (pc 3 0) := by have := HD2.out.new; rwa [HF.out.len] at this
  have hp2 : ∃ q, b2.pgs = [q] := by
    obtain ⟨q, _, h⟩ := HD2.out.pgs
    rw [HF.out.pgs, HF.out.len] at h
    exact ⟨q, h⟩
  have HG2 : Hid (_) := get_p HS2.out (i := 0) rfl ha2 0 (K := 0) rfl (by omega) hc2
  clear HL1 HA1
  go_wp2_with (first | (go_at_call 36; refine Calls.mono HG2.out ?_; rintro e w3 ⟨aK, kK, aV, kV, rfl, hb3⟩; have HB3 : Hid (_) := hb3; clear hb3))
  have hs4 := (HS2.out.below HB3.out).below ((Below.refl w3.heap.size w3).alloc (Nat.le_refl _) (.cells #[.int .i64 3, .int .i64 0, .int .i64 0, .slice aK 0 kK, .slice aV 0 kV] 30))
  obtain ⟨q, hq⟩ := hp2
  have HL4 : Hid (_) := live_is hs4 (i := 0) (n := 1) rfl ha2 (by simp [live_one, hq, dist])
  have HN4 : Hid (_) := len_is hs4 (i := 0) (n := 1) rfl ha2 (by rw [hl2]; rfl)
  have HEND : Hid (Below w.heap.size w (w3.alloc (.cells #[.int .i64 3, .int .i64 0, .int .i64 0, .slice aK 0 kK, .slice aV 0 kV] 30))) :=
    Below.chain (Below.chain (HB1.out.trans HK2.out.bel) HB3.out (Nat.le_trans HB1.out.size HK2.out.size)) ((Below.refl w3.heap.size w3).alloc (Nat.le_refl _) _) (Nat.le_trans (Nat.le_trans HB1.out.size HK2.out.size) HB3.out.size)
  clear hs4 hq hl2 ha2 hc2
  go_wp2_with (first | (go_at_call 12; refine Calls.mono (err_any _ _) ?_; rintro e w9 ⟨rfl, rfl⟩) | (go_at_call 44; refine Calls.mono HL4.out ?_; rintro e w9 ⟨rfl, rfl⟩) | (go_at_call 37; refine Calls.mono HN4.out ?_; rintro e w9 ⟨rfl, rfl⟩))
  go_ret
  exact ⟨rfl, HEND.out⟩
end Go.Proofs.Ytmipgpkeegggpaa.P
