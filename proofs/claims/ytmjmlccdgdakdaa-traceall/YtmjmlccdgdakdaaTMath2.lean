-- PROVED: what is told of any bytes are records that stand there.
import Derived.Test.YtmjmlccdgdakdaaTMath
namespace Go.Proofs.Ytmjmlccdgdakdaa.Fm
theorem one_back {l : List UInt8} (h : (one l).2.2 = 0) : put (one l).1 = l.take (one l).2.1 ∧ (one l).1.length ≤ 4096 := by
  unfold one at h ⊢
  by_cases h1 : (Vn.getU l).2.2 = 0
  · rw [if_pos h1] at h ⊢
    have hk := Vn.getU_ok (l := l) (v := (Vn.getU l).1) (c := (Vn.getU l).2.1) (by rw [← h1])
    generalize hv : (Vn.getU l).1 = v at *
    generalize hc : (Vn.getU l).2.1 = c at *
    have hb := body_ok h
    obtain ⟨b1, b2, b3, b4⟩ := hb
    rw [b3]
    unfold body at h ⊢
    rw [if_neg (by omega), if_neg (by omega)] at h ⊢
    generalize hn : Vn.unzig v = n at *
    obtain ⟨m, rfl⟩ := Int.eq_ofNat_of_zero_le b1
    rw [Int.toNat_natCast] at h ⊢ b4
    have hlen : ((l.drop c).take (m + 4)).length = m + 4 := by rw [List.length_take, List.length_drop]; omega
    by_cases h3 : (Cm.get ((l.drop c).take (m + 4))).2 = 0
    · rw [if_pos h3]
      unfold Cm.get at h3 ⊢
      rw [if_neg (by omega)] at h3 ⊢
      by_cases h4 : Cm.tail (((l.drop c).take (m + 4)).take (((l.drop c).take (m + 4)).length - 4)) = ((l.drop c).take (m + 4)).drop (((l.drop c).take (m + 4)).length - 4)
      · rw [if_pos h4]
        rw [hlen, show m + 4 - 4 = m by omega] at h4 ⊢
        simp only []
        have hx : (((l.drop c).take (m + 4)).take m).length = m := by rw [List.length_take, hlen]; omega
        refine ⟨?_, by omega⟩
        unfold put Cm.put
        rw [h4, hx, List.take_append_drop]
        unfold Vn.put
        rw [← hn, Vn.zig_unzig, hk.2.2.2.2, show c + m + 4 = c + (m + 4) by omega]
        exact List.take_add.symm
      · rw [if_neg h4] at h3; simp at h3
    · rw [if_neg h3] at h; exact absurd h h3
  · rw [if_neg h1] at h; exact absurd h h1
theorem all_back (n : Nat) : ∀ l : List UInt8, l.length ≤ n → (∀ t ∈ (all l).1, t.length ≤ 4096) ∧ puts (all l).1 = l.take (all l).2.1 ∧ (all l).2.1 ≤ l.length := by
  induction n with
  | zero =>
    intro l hl
    have : l = [] := List.length_eq_zero_iff.1 (by omega)
    subst this
    rw [all_nil]; simp [puts]
  | succ n ih =>
    intro l hl
    by_cases hn : l = []
    · subst hn
      rw [all_nil]; simp [puts]
    · by_cases h0 : (one l).2.2 = 0
      · have hs := all_step h0
        have hk := one_ok h0
        have hb := one_back h0
        obtain ⟨i1, i2, i3⟩ := ih (l.drop (one l).2.1) (by rw [List.length_drop]; omega)
        rw [hs]
        refine ⟨?_, ?_, ?_⟩
        · intro t ht
          rcases List.mem_cons.1 ht with rfl | ht
          · exact hb.2
          · exact i1 t ht
        · simp only [puts]
          rw [hb.1, i2, List.take_add]
        · simp only []
          rw [List.length_drop] at i3
          omega
      · rw [all_err hn h0]
        simp [puts]
theorem all_texts (l : List UInt8) : ∀ t ∈ (all l).1, t.length ≤ 4096 := (all_back l.length l (Nat.le_refl _)).1
theorem all_puts_take (l : List UInt8) : puts (all l).1 = l.take (all l).2.1 := (all_back l.length l (Nat.le_refl _)).2.1
theorem all_used (l : List UInt8) : (all l).2.1 = (puts (all l).1).length := by
  have h := all_back l.length l (Nat.le_refl _)
  rw [h.2.1, List.length_take]; omega
theorem puts_ge (L : List (List UInt8)) : 5 * L.length ≤ (puts L).length := by
  induction L with
  | nil => simp
  | cons t L ih => have := put_bounds t; simp [puts]; omega
theorem all_length (l : List UInt8) : 5 * (all l).1.length ≤ l.length := by
  have h1 := puts_ge (all l).1
  have h2 := all_used l
  have h3 := (all_back l.length l (Nat.le_refl _)).2.2
  omega
end Go.Proofs.Ytmjmlccdgdakdaa.Fm
