/- The walk of CrcAll. -/
import Derived.Test.YtljbldcamihmiaaCRefGet
namespace Go.Proofs.Ytljbldcamihmiaa
open Go.RowKit
attribute [local go_sem ↓] Go.wp_at_zero Go.wp_at_succ
/-- What is held while the last statement is reckoned: the struct's cells; what was there is as it was. -/
def HeldC (w1 : World) (bz : Nat) (XX : ByteArray) (F : Nat) (W : World) : Prop :=
  W.cell? ⟨bz, 0, none⟩ = some (.string XX) ∧ W.cell? ⟨bz, 2, none⟩ = some (.int .i64 (F : Int)) ∧ Hid (Below w1.heap.size w1 W) ∧ Hid (bz < W.heap.size)
theorem HeldC.go {w1 : World} {bz : Nat} {XX : ByteArray} {F : Nat} {W W' : World} (h : HeldC w1 bz XX F W) (hb : Below W.heap.size W W') : HeldC w1 bz XX F W' := by
  obtain ⟨b0, b2, c, e⟩ := h
  exact ⟨(hb.cell (p := ⟨bz, 0, none⟩) e).trans b0, (hb.cell (p := ⟨bz, 2, none⟩) e).trans b2, below_chain c.out hb, Nat.lt_of_lt_of_le e hb.size⟩
theorem HeldC.drew {w1 : World} {bz : Nat} {XX : ByteArray} {F : Nat} {W : World} (h : HeldC w1 bz XX F W) : HeldC w1 bz XX F W.drew := by
  obtain ⟨b0, b2, c, e⟩ := h
  exact ⟨b0, b2, c.out.drew, e⟩
set_option maxRecDepth 100000 in
set_option maxHeartbeats 1000000 in
theorem all_walk (s t : ByteArray) (hs : s.size ≤ maxLen) (ht : t.size ≤ maxLen) (w : World) :
    Calls Try.prog 3 #[.string s, .string t] w fun e w' => e = .returned (.bool true) ∧ Below w.heap.size w w' := by
  unfold maxLen at ht hs
  by_cases k1 : 400 < s.size
  · go_enter Try.func3, Try.ntmps3
    go_wp2_with fail
    refine (awake_any _).mono ?_
    rintro e w1 ⟨rfl, hb⟩
    go_wp2
    go_ret
    exact ⟨rfl, hb⟩
  by_cases k2 : 400 < t.size
  · go_enter Try.func3, Try.ntmps3
    go_wp2_with fail
    refine (awake_any _).mono ?_
    rintro e w1 ⟨rfl, hb⟩
    go_wp2
    go_ret
    exact ⟨rfl, hb⟩
  have G3 : Hid (∀ w, _) := fun w => get_any t w (by omega)
  have G4 : Hid (∀ w, _) := fun w => rget_any t w (by omega)
  have G5 : Hid (∀ w, _) := fun w => sum_any s w (by unfold maxLen; omega)
  have G6 : Hid (∀ w, _) := fun w => rsum_any s w (by unfold maxLen; omega)
  have G7 : Hid (∀ w, _) := fun w => put_any s w (by omega)
  have G8 : Hid (∀ w, _) := fun w => rput_any s w (by omega)
  generalize Cm.get t.data.toList = x at G3 G4
  generalize (⟨(Cm.put s.data.toList).toArray⟩ : ByteArray) = P at G7 G8
  generalize Cm.sum s.data.toList = n at G5 G6
  obtain ⟨X, F⟩ := x
  generalize (⟨(X, F).1.toArray⟩ : ByteArray) = XX at G3 G4
  simp only at G3 G4
  go_enter Try.func3, Try.ntmps3
  go_wp2_with fail
  refine Calls.mono (G3.out _) ?_
  rintro e w4 ⟨rfl, hb4⟩
  go_wp2_with fail
  refine Calls.mono (G4.out _) ?_
  rintro e w5 ⟨rfl, hb5⟩
  have ob := below_chain hb4 hb5
  clear hb4 hb5
  go_wp2_with fail
  have y0 : (w5.alloc (.cells #[.string XX, .int .i64 0, .int .i64 (F : Int)] 27)).cell? ⟨w5.heap.size, 0, none⟩ = some (.string XX) := by simp
  have y2 : (w5.alloc (.cells #[.string XX, .int .i64 0, .int .i64 (F : Int)] 27)).cell? ⟨w5.heap.size, 2, none⟩ = some (.int .i64 (F : Int)) := by simp
  have y3 : w5.heap.size < (w5.alloc (.cells #[.string XX, .int .i64 0, .int .i64 (F : Int)] 27)).heap.size := by simp
  have yb : Below w5.heap.size w5 (w5.alloc (.cells #[.string XX, .int .i64 0, .int .i64 (F : Int)] 27)) := (Below.refl _ _).alloc (Nat.le_refl _) _
  generalize w5.alloc (.cells #[.string XX, .int .i64 0, .int .i64 (F : Int)] 27) = w6 at y0 y2 y3 yb ⊢
  replace ob := below_chain ob yb
  clear yb
  generalize w5.heap.size = bz at y0 y2 y3 ⊢
  clear G3 G4 ht hs k1 k2
  have C10 : Hid (∀ W, HeldC w bz XX F W → Calls Try.prog 10 #[.string s] W fun e w' => e = .returned (.int .u32 (n : Int)) ∧ HeldC w bz XX F w') := fun W hW => (G5.out W).mono fun _ _ ⟨he, hb⟩ => ⟨he, hW.go hb⟩
  have C11 : Hid (∀ W, HeldC w bz XX F W → Calls Try.prog 11 #[.string s] W fun e w' => e = .returned (.int .u32 (n : Int)) ∧ HeldC w bz XX F w') := fun W hW => (G6.out W).mono fun _ _ ⟨he, hb⟩ => ⟨he, by rw [hb]; exact hW⟩
  have C12 : Hid (∀ W, HeldC w bz XX F W → Calls Try.prog 12 #[.string s] W fun e w' => e = .returned (.string P) ∧ HeldC w bz XX F w') := fun W hW => (G7.out W).mono fun _ _ ⟨he, hb⟩ => ⟨he, hW.go hb⟩
  have C13 : Hid (∀ W, HeldC w bz XX F W → Calls Try.prog 13 #[.string s] W fun e w' => e = .returned (.string P) ∧ HeldC w bz XX F w') := fun W hW => (G8.out W).mono fun _ _ ⟨he, hb⟩ => ⟨he, hW.go hb⟩
  have C7 : Hid (∀ W, HeldC w bz XX F W → Calls Try.prog 7 #[] W fun e w' => e = .returned (.bool true) ∧ HeldC w bz XX F w') := fun W hW => (awake_any W).mono fun _ _ ⟨he, hb⟩ => ⟨he, hW.go hb⟩
  have C14 : Hid (∀ W a, HeldC w bz XX F W → Calls Try.prog 14 #[.int .i64 a] W fun e w' => e = .returned (.int .i64 a) ∧ HeldC w bz XX F w') := fun W a hW => (err_any a W).mono fun _ _ ⟨he, hb⟩ => ⟨he, by rw [hb]; exact hW⟩
  have hW6 : HeldC w bz XX F w6 := ⟨y0, y2, ob, y3⟩
  clear G5 G6 G7 G8
  go_region_held3 (fun W => W.cell? ⟨bz, 0, none⟩ = some (.string XX) ∧ W.cell? ⟨bz, 2, none⟩ = some (.int .i64 (F : Int)) ∧ Hid (Below w.heap.size w W) ∧ Hid (bz < W.heap.size)) (first | assumption | exact HeldC.drew (by assumption)) (first | (go_at_call 10; refine Calls.mono (C10.out _ (by assumption)) ?_; rintro e w7 ⟨rfl, hW7⟩) | (go_at_call 11; refine Calls.mono (C11.out _ (by assumption)) ?_; rintro e w7 ⟨rfl, hW7⟩) | (go_at_call 12; refine Calls.mono (C12.out _ (by assumption)) ?_; rintro e w7 ⟨rfl, hW7⟩) | (go_at_call 13; refine Calls.mono (C13.out _ (by assumption)) ?_; rintro e w7 ⟨rfl, hW7⟩) | (go_at_call 7; refine Calls.mono (C7.out _ (by assumption)) ?_; rintro e w7 ⟨rfl, hW7⟩) | (go_at_call 14; refine Calls.mono (C14.out _ _ (by assumption)) ?_; rintro e w7 ⟨rfl, hW7⟩))
  have hfin : Hid (Below w.heap.size w w7) := hW7.2.2.1
  go_wp2
  go_ret
  exact ⟨rfl, hfin.out⟩
end Go.Proofs.Ytljbldcamihmiaa
