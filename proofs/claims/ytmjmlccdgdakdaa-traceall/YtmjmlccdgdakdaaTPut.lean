-- PROVED: trace.Put by its contract.
import Derived.Test.YtmjmlccdgdakdaaTMay
import Derived.Test.YtmjmlccdgdakdaaFAll
import Derived.Deep.RegionHeld3
namespace Go.Proofs.Ytmjmlccdgdakdaa.T
open Go.RowKit
def recV (r : Tm.Rec) : Value := .agg #[.int .i64 r.step, .int .i64 r.kind, .int .i64 r.n, .string ⟨r.s.toArray⟩]
/-- Cells of two blocks that stand. -/
def Two (w : World) (bx bz : Nat) (st k n : Int) (s : ByteArray) (W : World) : Prop :=
  W.cell? ⟨bx, 0, none⟩ = some (.int .i64 st) ∧ W.cell? ⟨bz, 0, none⟩ = some (.int .i64 k) ∧ W.cell? ⟨bz, 1, none⟩ = some (.int .i64 n) ∧ W.cell? ⟨bz, 2, none⟩ = some (.string s) ∧ Hid (Below w.heap.size w W) ∧ Hid (bx < W.heap.size) ∧ Hid (bz < W.heap.size)
theorem Two.go {w : World} {bx bz : Nat} {st k n : Int} {s : ByteArray} {W W' : World} (h : Two w bx bz st k n s W) (hb : Below W.heap.size W W') : Two w bx bz st k n s W' := by
  obtain ⟨h1, h2, h3, h4, h5, h6, h7⟩ := h
  exact ⟨(hb.cell (p := ⟨bx, 0, none⟩) h6.out).trans h1, (hb.cell (p := ⟨bz, 0, none⟩) h7.out).trans h2, (hb.cell (p := ⟨bz, 1, none⟩) h7.out).trans h3, (hb.cell (p := ⟨bz, 2, none⟩) h7.out).trans h4, C.below_chain h5.out hb, Nat.lt_of_lt_of_le h6.out hb.size, Nat.lt_of_lt_of_le h7.out hb.size⟩
theorem Two.drew {w : World} {bx bz : Nat} {st k n : Int} {s : ByteArray} {W : World} (h : Two w bx bz st k n s W) : Two w bx bz st k n s W.drew := h.go (Below.refl _ _).drew
set_option maxRecDepth 100000 in
set_option maxHeartbeats 1000000 in
theorem put_no (r : Tm.Rec) (w : World) (hs : r.s.length ≤ maxLen) (ho : Tm.ok r = false) :
    Calls Try.prog 9 #[recV r] w fun e w' => e = .returned (.tuple #[.string ⟨#[]⟩, .int .i64 1]) ∧ Below w.heap.size w w' := by
  obtain ⟨st, k, n, sl⟩ := r
  unfold recV
  simp only [] at hs ho ⊢
  have hm : ∀ W, Calls Try.prog 11 #[.agg #[.int .i64 k, .int .i64 n, .string ⟨sl.toArray⟩]] W fun e w' => e = .returned (.bool (Tm.may k n sl)) ∧ Below W.heap.size W w' :=
    fun W => may_any k n ⟨sl.toArray⟩ W (by rw [← V.size_list]; exact hs)
  unfold Tm.ok at ho
  simp only [] at ho
  generalize Tm.may k n sl = m at hm ho
  generalize (⟨sl.toArray⟩ : ByteArray) = s at hm ⊢
  clear hs
  by_cases h0 : st < 0
  · clear hm ho
    go_enter Try.func9, Try.ntmps9
    go_wp2_with fail
    go_ret2
    exact ⟨rfl, (Below.refl _ _).alloc (Nat.le_refl _) _⟩
  · have hm0 : m = false := by
      rw [Bool.and_eq_false_iff] at ho
      rcases ho with ho | ho
      · simp at ho; omega
      · exact ho
    subst hm0
    have HM : Hid (_) := hm
    clear hm ho
    go_enter Try.func9, Try.ntmps9
    go_wp2_with fail
    refine Calls.mono (HM.out _) ?_
    rintro e w1 ⟨rfl, hb⟩
    go_wp2_with fail
    go_ret2
    exact ⟨rfl, C.below_chain ((Below.refl _ _).alloc (Nat.le_refl _) _) hb⟩
def putB (m : Int) : ByteArray := ⟨(Vn.put m).toArray⟩
theorem putB_size (m : Int) : (putB m).size ≤ 10 := by
  rw [← V.size_list]; exact (Vn.put_len m).2
set_option maxRecDepth 100000 in
set_option maxHeartbeats 1000000 in
theorem put_ok (r : Tm.Rec) (w : World) (hf : Tm.fits r) (ho : Tm.ok r = true) :
    Calls Try.prog 9 #[recV r] w fun e w' => e = .returned (.tuple #[.string ⟨(Tm.put r).toArray⟩, .int .i64 0]) ∧ Below w.heap.size w w' := by
  have hbd := Tm.ok_bd ho
  have hl4 := (Vn.put_len (r.s.length : Int)).2
  have hl5 := Vn.text_len r.s
  have HV : Hid (_) := (show (⟨(Tm.put r).toArray⟩ : ByteArray) = putB r.step ++ putB r.kind ++ putB r.n ++ ⟨(Vn.text r.s).toArray⟩ from by
    unfold putB; rw [F.cat_eq, F.cat_eq, F.cat_eq]; rfl)
  obtain ⟨f1, f2, f3, f4, f5, f6⟩ := hf
  have hm : ∀ W, Calls Try.prog 11 #[.agg #[.int .i64 r.kind, .int .i64 r.n, .string ⟨r.s.toArray⟩]] W fun e w' => e = .returned (.bool (Tm.may r.kind r.n r.s)) ∧ Below W.heap.size W w' :=
    fun W => may_any r.kind r.n ⟨r.s.toArray⟩ W (by rw [← V.size_list]; unfold maxLen; simp; omega)
  have ht : ∀ W, Calls Try.prog 27 #[.string ⟨r.s.toArray⟩] W fun e w' => e = .returned (.string ⟨(Vn.text r.s).toArray⟩) ∧ Below W.heap.size W w' :=
    fun W => V.text_any ⟨r.s.toArray⟩ W (by rw [← V.size_list]; simp; omega)
  have HP : Hid (_) := (show ∀ m, (m = r.step ∨ m = r.kind ∨ m = r.n) → ∀ W, Calls Try.prog 26 #[.int .i64 m] W fun e w' => e = .returned (.string (putB m)) ∧ Below W.heap.size W w' from
    fun m hm W => V.put_any m W (by rcases hm with rfl | rfl | rfl <;> assumption) (by rcases hm with rfl | rfl | rfl <;> assumption))
  have hmt : Tm.may r.kind r.n r.s = true := by
    unfold Tm.ok at ho
    rw [Bool.and_eq_true] at ho
    exact ho.2
  rw [hmt] at hm
  unfold recV
  have hs0 : ¬ r.step < 0 := by omega
  have z4 : (⟨(Vn.text r.s).toArray⟩ : ByteArray).size ≤ 2000 := by rw [← V.size_list]; simp only []; omega
  clear hl4 hl5 hbd f1 f2 f3 f4 f5 f6 ho hmt
  generalize (⟨(Tm.put r).toArray⟩ : ByteArray) = res at HV ⊢
  generalize (⟨(Vn.text r.s).toArray⟩ : ByteArray) = P4 at *
  generalize (⟨r.s.toArray⟩ : ByteArray) = s at *
  generalize r.step = st at *
  generalize r.kind = k at *
  generalize r.n = n at *
  clear r
  have HM : Hid (_) := hm
  have HT : Hid (_) := ht
  clear hm ht
  go_enter Try.func9, Try.ntmps9
  go_wp2_with fail
  refine Calls.mono (HM.out _) ?_
  rintro e w1 ⟨rfl, hb⟩
  have hbB := C.below_chain ((Below.refl w.heap.size w).alloc (Nat.le_refl _) _) hb
  have x0 := hb.cell (p := ⟨w.heap.size, 0, none⟩) (by simp)
  have x1 := hb.cell (p := ⟨w.heap.size, 1, none⟩) (by simp)
  have x2 := hb.cell (p := ⟨w.heap.size, 2, none⟩) (by simp)
  have x3 := hb.cell (p := ⟨w.heap.size, 3, none⟩) (by simp)
  have x4 := hb.size
  simp at x0 x1 x2 x3 x4
  clear hb HM
  go_wp2_with fail
  have y0 : (w1.alloc (.cells #[.int .i64 k, .int .i64 n, .string s] 25)).cell? ⟨w1.heap.size, 0, none⟩ = some (.int .i64 k) := by simp
  have y1 : (w1.alloc (.cells #[.int .i64 k, .int .i64 n, .string s] 25)).cell? ⟨w1.heap.size, 1, none⟩ = some (.int .i64 n) := by simp
  have y2 : (w1.alloc (.cells #[.int .i64 k, .int .i64 n, .string s] 25)).cell? ⟨w1.heap.size, 2, none⟩ = some (.string s) := by simp
  have y3 : w1.heap.size < (w1.alloc (.cells #[.int .i64 k, .int .i64 n, .string s] 25)).heap.size := by simp
  have yb : Below w1.heap.size w1 (w1.alloc (.cells #[.int .i64 k, .int .i64 n, .string s] 25)) := (Below.refl _ _).alloc (Nat.le_refl _) _
  generalize w1.alloc (.cells #[.int .i64 k, .int .i64 n, .string s] 25) = w6 at y0 y1 y2 y3 yb ⊢
  have hW6 : Two w w.heap.size w1.heap.size st k n s w6 := ⟨(yb.cell (p := ⟨w.heap.size, 0, none⟩) (Nat.lt_of_lt_of_le (Nat.lt_succ_self _) x4)).trans x0, y0, y1, y2, C.below_chain hbB yb, Nat.lt_of_lt_of_le (Nat.lt_of_lt_of_le (Nat.lt_succ_self _) x4) yb.size, y3⟩
  clear x0 x1 x2 x3 y0 y1 y2 y3 yb hbB
  generalize w1.heap.size = bz at hW6 x4 ⊢
  generalize w.heap.size = bx at *
  have n1 : ¬ 9223372036854775807 < (putB st).size + (putB k).size := by have := putB_size st; have := putB_size k; omega
  have n2 : ¬ 9223372036854775807 < (putB st).size + (putB k).size + (putB n).size := by have := putB_size st; have := putB_size k; have := putB_size n; omega
  have n3 : ¬ 9223372036854775807 < (putB st).size + (putB k).size + (putB n).size + P4.size := by have := putB_size st; have := putB_size k; have := putB_size n; omega
  have C26 : Hid (∀ W m, (m = st ∨ m = k ∨ m = n) → Two w bx bz st k n s W → Calls Try.prog 26 #[.int .i64 m] W fun e w' => e = .returned (.string (putB m)) ∧ Two w bx bz st k n s w') := fun W m hm hW => (HP.out m hm W).mono fun _ _ ⟨he, hb⟩ => ⟨he, hW.go hb⟩
  have C27 : Hid (∀ W, Two w bx bz st k n s W → Calls Try.prog 27 #[.string s] W fun e w' => e = .returned (.string P4) ∧ Two w bx bz st k n s w') := fun W hW => (HT.out W).mono fun _ _ ⟨he, hb⟩ => ⟨he, hW.go hb⟩
  clear HP HT
  go_region_held3 (fun W => W.cell? ⟨bx, 0, none⟩ = some (.int .i64 st) ∧ W.cell? ⟨bz, 0, none⟩ = some (.int .i64 k) ∧ W.cell? ⟨bz, 1, none⟩ = some (.int .i64 n) ∧ W.cell? ⟨bz, 2, none⟩ = some (.string s) ∧ Hid (Below w.heap.size w W) ∧ Hid (bx < W.heap.size) ∧ Hid (bz < W.heap.size)) (first | assumption | exact Two.drew (by assumption)) (first | (go_at_call 26; refine Calls.mono (C26.out _ _ (by simp) (by assumption)) ?_; rintro e w7 ⟨rfl, hW7⟩) | (go_at_call 27; refine Calls.mono (C27.out _ (by assumption)) ?_; rintro e w7 ⟨rfl, hW7⟩))
  have hfin : Hid (Below w.heap.size w w7) := hW7.2.2.2.2.1
  go_wp2
  go_ret2
  exact ⟨by rw [HV.out]; rfl, hfin.out⟩
end Go.Proofs.Ytmjmlccdgdakdaa.T
