/- The walk of VintSizes. -/
import Derived.Test.YtfelgifhendbbaaAwake
namespace Go.Proofs.Ytfelgifhendbbaa
open Go.RowKit
theorem sz_step {j M : Nat} (h : 64 ≤ M) (hj : j ≤ 9) (hM : M < 64 * 128 ^ (9 - j)) : j < 9 ∧ Vn.sz (10 - j) M = Vn.sz (10 - (j + 1)) (M / 128) + 1 ∧ M / 128 < 64 * 128 ^ (9 - (j + 1)) := by
  have hj9 : j < 9 := by
    rcases Nat.lt_or_ge j 9 with h9 | h9
    · exact h9
    · have : j = 9 := by omega
      subst this; simp at hM; omega
  refine ⟨hj9, ?_, ?_⟩
  · rw [show 10 - j = (10 - (j + 1)) + 1 by omega, Vn.sz, if_pos h]
  · rw [show 9 - j = (9 - (j + 1)) + 1 by omega, Nat.pow_succ, ← Nat.mul_assoc, Nat.mul_comm] at hM
    exact Nat.div_lt_of_lt_mul hM
theorem sz_last {j M : Nat} (h : M < 64) (hj : j ≤ 9) : Vn.sz (10 - j) M = 1 := by
  rw [show 10 - j = (9 - j) + 1 by omega, Vn.sz, if_neg (by omega)]
theorem two_pow {k : Nat} (hk : k < 62) : ∃ m : Nat, wrap64 (2 ^ k) = (m : Int) + 1 ∧ (m : Int) ≤ 2305843009213693951 := by
  have h1 : (2 : Nat) ^ k ≤ 2 ^ 61 := Nat.pow_le_pow_right (by omega) (by omega)
  have h2 : 0 < (2 : Nat) ^ k := Nat.pow_pos (by omega)
  have e : ((2 : Int) ^ k) = ((2 ^ k : Nat) : Int) := by simp
  refine ⟨2 ^ k - 1, ?_, by omega⟩
  rw [e]
  generalize 2 ^ k = x at *
  rw [IntWalk.wrap64_in _ (by omega)]
  omega
set_option maxRecDepth 100000 in
set_option maxHeartbeats 400000 in
theorem sizes_walk (a0 : Int) (a1 : Bool) (h0 : 0 ≤ a0) (h1 : a0 ≤ 255) (w : World) :
    Calls Try.prog 7 #[.int .u8 a0, .bool a1] w fun e w' => e = .returned (.bool true) ∧ Below w.heap.size w w' := by
  obtain ⟨k, hk⟩ : ∃ k : Nat, a0 % 62 = (k : Int) := ⟨(a0 % 62).toNat, by omega⟩
  have hk1 : k < 62 := by omega
  obtain ⟨m, he, hm⟩ := two_pow hk1
  cases a1
  · have hp := Vn.put_sz ((m : Int) + 1) (by omega)
    rw [show (((m : Int) + 1)).toNat = (m + 1) by omega] at hp
    have HP : Hid (_) := hp
    clear hp
    have hlim : (m + 1) < 64 * 128 ^ (9 - 0) := by omega
    go_enter Try.func7, Try.ntmps7
    go_wp2_with fail
    refine (put_any _ _ (by omega) (by omega)).mono ?_
    rintro e w1 ⟨rfl, hb1⟩
    go_wp2_with fail
    refine (put_any _ _ (by omega) (by omega)).mono ?_
    rintro e w2 ⟨rfl, hb2⟩
    go_wp2_with fail
    go_loop [9, 10] (fun t u => ∃ j M : Nat, t = .int .i64 ((j : Int) + 1) ∧ u = .int .i64 (M : Int) ∧ j ≤ 9 ∧ (M : Int) ≤ 2305843009213693952 ∧ M < 64 * 128 ^ (9 - j) ∧ Vn.sz 10 ((m + 1)) = j + Vn.sz (10 - j) M) (fun _ u => (intOf u).toNat)
    case atStart => exact ⟨0, (m + 1), by go_num, by go_num, by omega, by omega, hlim, (Nat.zero_add _).symm⟩
    case round =>
      obtain ⟨j, M, rfl, rfl, hj, hM, hMj, hsz⟩ := hrel
      have HJ : Hid (_) := hMj
      have HS : Hid (_) := hsz
      clear hMj hsz hlim
      by_cases hlt : M < 64
      · have e := sz_last (j := j) hlt hj
        have e1 : (Vn.put ((m : Int) + 1)).length = j + 1 := by rw [HP.out.1, HS.out, e]
        have e2 : (Vn.put (-((m : Int) + 1) - 1)).length = j + 1 := by rw [HP.out.2, HS.out, e]
        have b1 : (((Vn.put ((m : Int) + 1)).length : Int) == (j : Int) + 1) = true := by rw [beq_iff_eq]; omega
        have b2 : (((Vn.put (-((m : Int) + 1) - 1)).length : Int) == (j : Int) + 1) = true := by rw [beq_iff_eq]; omega
        clear e e1 e2
        go_wp2_with (go_at_call 9; refine (awake_any _).mono ?_; rintro e w3 ⟨rfl, hb3⟩)
        go_ret
        exact ⟨rfl, (hb1.trans (hb2.mono hb1.size)).trans (hb3.mono (Nat.le_trans hb1.size hb2.size))⟩
      · obtain ⟨g1, g2, g3⟩ := sz_step (by omega) hj HJ.out
        have HG : Hid (_) := g2
        have HH : Hid (_) := g3
        clear g2 g3
        go_wp2_with fail
        go_round
        case rel => exact ⟨j + 1, M / 128, by go_num, by go_num, by omega, by omega, HH.out, by rw [HS.out, HG.out]; omega⟩
        case measure => simp [intOf]; omega
  · have hp := Vn.put_sz (m : Int) (by omega)
    rw [show ((m : Int)).toNat = m by omega] at hp
    have HP : Hid (_) := hp
    clear hp
    have hlim : m < 64 * 128 ^ (9 - 0) := by omega
    go_enter Try.func7, Try.ntmps7
    go_wp2_with fail
    refine (put_any _ _ (by omega) (by omega)).mono ?_
    rintro e w1 ⟨rfl, hb1⟩
    go_wp2_with fail
    refine (put_any _ _ (by omega) (by omega)).mono ?_
    rintro e w2 ⟨rfl, hb2⟩
    go_wp2_with fail
    go_loop [9, 10] (fun t u => ∃ j M : Nat, t = .int .i64 ((j : Int) + 1) ∧ u = .int .i64 (M : Int) ∧ j ≤ 9 ∧ (M : Int) ≤ 2305843009213693952 ∧ M < 64 * 128 ^ (9 - j) ∧ Vn.sz 10 (m) = j + Vn.sz (10 - j) M) (fun _ u => (intOf u).toNat)
    case atStart => exact ⟨0, m, by go_num, by go_num, by omega, by omega, hlim, (Nat.zero_add _).symm⟩
    case round =>
      obtain ⟨j, M, rfl, rfl, hj, hM, hMj, hsz⟩ := hrel
      have HJ : Hid (_) := hMj
      have HS : Hid (_) := hsz
      clear hMj hsz hlim
      by_cases hlt : M < 64
      · have e := sz_last (j := j) hlt hj
        have e1 : (Vn.put (m : Int)).length = j + 1 := by rw [HP.out.1, HS.out, e]
        have e2 : (Vn.put (-(m : Int) - 1)).length = j + 1 := by rw [HP.out.2, HS.out, e]
        have b1 : (((Vn.put (m : Int)).length : Int) == (j : Int) + 1) = true := by rw [beq_iff_eq]; omega
        have b2 : (((Vn.put (-(m : Int) - 1)).length : Int) == (j : Int) + 1) = true := by rw [beq_iff_eq]; omega
        clear e e1 e2
        go_wp2_with (go_at_call 9; refine (awake_any _).mono ?_; rintro e w3 ⟨rfl, hb3⟩)
        go_ret
        exact ⟨rfl, (hb1.trans (hb2.mono hb1.size)).trans (hb3.mono (Nat.le_trans hb1.size hb2.size))⟩
      · obtain ⟨g1, g2, g3⟩ := sz_step (by omega) hj HJ.out
        have HG : Hid (_) := g2
        have HH : Hid (_) := g3
        clear g2 g3
        go_wp2_with fail
        go_round
        case rel => exact ⟨j + 1, M / 128, by go_num, by go_num, by omega, by omega, HH.out, by rw [HS.out, HG.out]; omega⟩
        case measure => simp [intOf]; omega
end Go.Proofs.Ytfelgifhendbbaa
