/- What digits say. -/
import Derived.Test.YtbciecmikcloaaaDoorLxR
namespace Go.Proofs.YtbciecmikcloaaaDoor.Lx
set_option linter.unusedVariables false
/-- The digits of a number. -/
def dg (n : Nat) : List UInt8 := if n < 10 then [UInt8.ofNat (48 + n)] else dg (n / 10) ++ [UInt8.ofNat (48 + n % 10)]
theorem dg_small {n : Nat} (h : n < 10) : dg n = [UInt8.ofNat (48 + n)] := by rw [dg, if_pos h]
theorem dg_big {n : Nat} (h : ¬ n < 10) : dg n = dg (n / 10) ++ [UInt8.ofNat (48 + n % 10)] := by rw [dg, if_neg h]
theorem ofDigit {d : Nat} (h : d < 10) : (UInt8.ofNat (48 + d)).toNat = 48 + d := by
  rw [UInt8.toNat_ofNat']; omega
theorem dg_all : ∀ (n : Nat), ∀ c ∈ dg n, digit c = true := by
  intro n
  induction n using Nat.strongRecOn with
  | _ n ih =>
    intro c hc
    by_cases h : n < 10
    · rw [dg_small h] at hc
      rw [List.mem_singleton] at hc; subst hc
      unfold digit; rw [ofDigit h]; simp; omega
    · rw [dg_big h] at hc
      rcases List.mem_append.1 hc with hc | hc
      · exact ih _ (by omega) c hc
      · rw [List.mem_singleton] at hc; subst hc
        unfold digit; rw [ofDigit (Nat.mod_lt _ (by omega))]; simp; omega
theorem dg_val : ∀ (n : Nat), val (dg n) = n := by
  intro n
  induction n using Nat.strongRecOn with
  | _ n ih =>
    by_cases h : n < 10
    · rw [dg_small h]
      show 10 * 0 + ((UInt8.ofNat (48 + n)).toNat - 48) = n
      rw [ofDigit h]; omega
    · rw [dg_big h, val_snoc, ih _ (by omega), ofDigit (Nat.mod_lt _ (by omega))]; omega
theorem dg_len : ∀ (n : Nat), 1 ≤ (dg n).length ∧ (n < 10 → (dg n).length = 1) := by
  intro n
  by_cases h : n < 10
  · rw [dg_small h]; simp
  · rw [dg_big h]; simp; omega
theorem dg_max : ∀ (m n : Nat), n < 10 ^ m → 1 ≤ m → (dg n).length ≤ m
  | 0, n, h, h1 => by omega
  | 1, n, h, h1 => by rw [(dg_len n).2 (by simpa using h)]; omega
  | m + 2, n, h, h1 => by
    by_cases h2 : n < 10
    · rw [(dg_len n).2 h2]; omega
    · rw [dg_big h2, List.length_append]
      have := dg_max (m + 1) (n / 10) (by rw [Nat.pow_succ] at h; omega) (by omega)
      simp; omega
/-- The first digit of a number that has more than one is not a nought. -/
theorem dg_head : ∀ (n : Nat), 1 < (dg n).length → ∃ c l, dg n = c :: l ∧ c.toNat ≠ 48 := by
  intro n
  induction n using Nat.strongRecOn with
  | _ n ih =>
    intro h
    by_cases h2 : n < 10
    · rw [(dg_len n).2 h2] at h; omega
    · rw [dg_big h2]
      by_cases h3 : n / 10 < 10
      · rw [dg_small h3]
        exact ⟨_, _, rfl, by rw [ofDigit h3]; omega⟩
      · have h4 : 1 < (dg (n / 10)).length := by
          rw [dg_big h3, List.length_append]
          have := (dg_len (n / 10 / 10)).1
          simp; omega
        obtain ⟨c, l, e, hc⟩ := ih (n / 10) (by omega) h4
        exact ⟨c, l ++ [_], by rw [e]; rfl, hc⟩
theorem hd_digits (a r : List UInt8) (ha : ∀ c ∈ a, digit c = true) (hr : beg digit r = false) : hd digit (a ++ r) = a.length := by
  refine hd_eq _ _ _ (by simp) (fun j h hj => ?_) (fun h => ?_)
  · rw [List.getElem_append_left hj]; exact ha _ (List.getElem_mem hj)
  · rw [List.getElem_append_right (Nat.le_refl _)]
    cases r with
    | nil => simp at h
    | cons c r => simp only [Nat.sub_self, List.getElem_cons_zero]; exact hr
theorem blk_digit (c : UInt8) (l : List UInt8) (h : digit c = true) : blk false (c :: l) = (0, false) := by
  unfold digit at h
  simp at h
  rw [blk, if_neg (by omega), if_neg (by omega), if_neg (by omega)]
/-- Digits, and what is no digit behind them. -/
theorem tok_digits (c : UInt8) (a r : List UInt8) (ha : ∀ x ∈ c :: a, digit x = true) (hr : beg digit r = false) :
    tok (c :: a ++ r) 0 = tokOf 0 false (if 2147483647 < val (c :: a) ∨ (c.toNat = 48 ∧ 1 < (c :: a).length) ∨ beg letter r = true then none else some ⟨1, c :: a, val (c :: a), (c :: a).length⟩) := by
  have hc := ha c List.mem_cons_self
  have e : c :: a ++ r = c :: (a ++ r) := rfl
  unfold tok
  rw [e, List.drop_zero, blk_digit c _ hc]
  simp only [Nat.add_zero, List.drop_zero]
  rw [piece_digit c _ hc, pNum_is c _ hc, ← e, hd_digits _ _ ha hr, List.take_left, List.drop_left]
end Go.Proofs.YtbciecmikcloaaaDoor.Lx
