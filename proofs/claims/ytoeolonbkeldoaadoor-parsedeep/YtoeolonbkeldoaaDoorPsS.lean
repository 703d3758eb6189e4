/- The parser's jump, inner, while, throw, let by their contracts. -/
import Derived.Test.YtoeolonbkeldoaaDoorPsY
namespace Go.Proofs.YtoeolonbkeldoaaDoor.R
open Go.RowKit
open L (tkA)
set_option linter.unusedVariables false
open Ps in
theorem jump_ru {k : Nat} {s s' : Ps.St} {r : Nat} (h : Ru (jump k) s r s') : ∃ T s1 u s2, Ru skip s T s1 ∧ Ru endS s1 u s2 ∧ Ru (add { k := k, a := T.a }) s2 r s' := by
  obtain ⟨e, n⟩ := h
  unfold jump at e
  simp only [] at e
  rcases e0 : skip s with ⟨T, s1⟩
  simp only [e0] at e
  rcases e1 : endS s1 with ⟨u, s2⟩
  simp only [e1] at e
  have n2 := gb (gr_add _) e n
  have n1 := gb gr_endS e1 n2
  exact ⟨T, s1, u, s2, ⟨e0, n1⟩, ⟨e1, n2⟩, ⟨e, n⟩⟩
open Ps in
theorem whileS_ru {L : Lv} (g : GrL L) {s s' : Ps.St} {r : Nat} (h : Ru (whileS L) s r s') : ∃ T s1 c s2 y s3, Ru skip s T s1 ∧ Ru (inParens L) s1 c s2 ∧ Ru (inner L) s2 y s3 ∧ Ru (add { k := 27, a := T.a, kids := [c, y] }) s3 r s' := by
  obtain ⟨e, n⟩ := h
  unfold whileS at e
  simp only [] at e
  rcases e0 : skip s with ⟨T, s1⟩
  simp only [e0] at e
  rcases e1 : inParens L s1 with ⟨c, s2⟩
  simp only [e1] at e
  rcases e2 : inner L s2 with ⟨y, s3⟩
  simp only [e2] at e
  have n3 := gb (gr_add _) e n
  have n2 := gb (gr_inner g) e2 n3
  have n1 := gb (gr_inParens g) e1 n2
  exact ⟨T, s1, c, s2, y, s3, ⟨e0, n1⟩, ⟨e1, n2⟩, ⟨e2, n3⟩, ⟨e, n⟩⟩
section
variable {F : Nat → Prop} {base B dep : Nat} {L : Ps.Lv} {s s' : Ps.St} {nv : Value} {w : World} {r : Nat}
set_option maxRecDepth 100000 in
set_option maxHeartbeats 2000000 in
theorem c_jump {k : Nat} (E : Ru (Ps.jump k) s r s') (h : RS F base B dep s nv w) : Calls Tryd.prog 50 #[.pointer (some ⟨B, 0, none⟩), .int .i64 (k : Int)] w (Tells F base B dep nv w s' (.int .i64 (r : Int))) := by
  obtain ⟨⟨tk, tt, tn, ta, tl, te⟩, s1, u, s2, E1, E2, E3⟩ := jump_ru E
  have hfl := run_field3
  go_enter Tryd.func50, Tryd.ntmps50
  go_wp2_with fail
  refine Calls.mono (c_skip E1 h) ?_
  rintro e w1 ⟨rfl, nv1, hr1, hc1⟩
  simp only [tkA] at *
  go_wp2_with fail
  refine Calls.mono (c_endS E2 hr1) ?_
  rintro e w2 ⟨rfl, nv2, hr2, hc2⟩
  go_wp2_with fail
  refine Calls.mono (c_addV E3 hr2 (NV.nil _ _ _ _) (KV.nil _ _ _ _)) ?_
  rintro e w3 ⟨rfl, nv3, hr3, hc3⟩
  go_wp2_with fail
  go_ret
  exact ⟨rfl, nv3, hr3, (hc1.trans hc2).trans hc3⟩
set_option maxRecDepth 100000 in
set_option maxHeartbeats 2000000 in
theorem c_inner (hL : ∀ F, LvC F base B dep L) (E : Ru (Ps.inner L) s r s') (h : RS F base B dep s nv w) : Calls Tryd.prog 64 #[.pointer (some ⟨B, 0, none⟩)] w (Tells F base B dep nv w s' (.int .i64 (r : Int))) := by
  have HM : Hid (_) := c_mark h
  have HN : Hid ((Ps.mark s = [108, 101, 116] ∨ Ps.mark s = [99, 111, 110, 115, 116] ∨ Ps.mark s = [102, 117, 110, 99, 116, 105, 111, 110]) → Ru Ps.fail s r s') := fun hc => by
    have := E.eq; unfold Ps.inner at this; rw [if_pos hc] at this; exact ⟨this, E.small⟩
  have HS : Hid (¬ (Ps.mark s = [108, 101, 116] ∨ Ps.mark s = [99, 111, 110, 115, 116] ∨ Ps.mark s = [102, 117, 110, 99, 116, 105, 111, 110]) → Ru L.s s r s') := fun hc => by
    have := E.eq; unfold Ps.inner at this; rw [if_neg hc] at this; exact ⟨this, E.small⟩
  clear E h
  generalize Ps.mark s = m at *
  by_cases hc : m = [108, 101, 116] ∨ m = [99, 111, 110, 115, 116] ∨ m = [102, 117, 110, 99, 116, 105, 111, 110]
  · have E := HN.out hc
    clear HN HS
    rcases hc with rfl | rfl | rfl
    all_goals
      go_enter Tryd.func64, Tryd.ntmps64
      go_wp2_with fail
      refine Calls.mono HM.out ?_
      rintro e w1 ⟨rfl, nv1, hr1, hc1⟩
      go_wp2_with fail
      refine Calls.mono (c_fail E hr1) ?_
      rintro e w2 ⟨rfl, nv2, hr2, hc2⟩
      go_wp2_with fail
      go_ret
      exact ⟨rfl, nv2, hr2, hc1.trans hc2⟩
  · have E := HS.out hc
    clear HN HS
    have n1 : (m == [108, 101, 116]) = false := by simp_all
    have n2 : (m == [99, 111, 110, 115, 116]) = false := by simp_all
    have n3 : (m == [102, 117, 110, 99, 116, 105, 111, 110]) = false := by simp_all
    clear hc
    go_enter Tryd.func64, Tryd.ntmps64
    go_wp2_with fail
    refine Calls.mono HM.out ?_
    rintro e w1 ⟨rfl, nv1, hr1, hc1⟩
    go_wp2_with fail
    refine Calls.mono (c_s hL E hr1) ?_
    rintro e w2 ⟨rfl, nv2, hr2, hc2⟩
    go_wp2_with fail
    go_ret
    exact ⟨rfl, nv2, hr2, hc1.trans hc2⟩
set_option maxRecDepth 100000 in
set_option maxHeartbeats 2000000 in
theorem c_whileS (hL : ∀ F, LvC F base B dep L) (E : Ru (Ps.whileS L) s r s') (h : RS F base B dep s nv w) : Calls Tryd.prog 49 #[.pointer (some ⟨B, 0, none⟩)] w (Tells F base B dep nv w s' (.int .i64 (r : Int))) := by
  obtain ⟨⟨tk, tt, tn, ta, tl, te⟩, s1, c, s2, y, s3, E1, E2, E3, E4⟩ := whileS_ru (hL F).gr E
  have hfl := run_field3
  go_enter Tryd.func49, Tryd.ntmps49
  go_wp2_with fail
  refine Calls.mono (c_skip E1 h) ?_
  rintro e w1 ⟨rfl, nv1, hr1, hc1⟩
  simp only [tkA] at *
  go_wp2_with fail
  refine Calls.mono (c_inParens hL E2 hr1) ?_
  rintro e w2 ⟨rfl, nv2, hr2, hc2⟩
  go_wp2_with fail
  refine Calls.mono (c_inner hL E3 hr2) ?_
  rintro e w3 ⟨rfl, nv3, hr3, hc3⟩
  go_wp2_with fail
  refine Calls.mono (c_addL E4 hr3 #[.int .i64 (c : Int), .int .i64 (y : Int)] 2 rfl (fun j hj => by
    have : j = 0 ∨ j = 1 := by simp at hj; omega
    rcases this with rfl | rfl <;> rfl)) ?_
  rintro e w4 ⟨rfl, nv4, hr4, hc4⟩
  go_wp2_with fail
  go_ret
  exact ⟨rfl, nv4, hr4, ((hc1.trans hc2).trans hc3).trans hc4⟩
end
end Go.Proofs.YtoeolonbkeldoaaDoor.R
