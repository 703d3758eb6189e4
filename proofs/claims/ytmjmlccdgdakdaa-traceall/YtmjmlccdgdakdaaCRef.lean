/- The reference: its sum, its bytes with a sum, what bytes with one say. -/
import Derived.Test.YtmjmlccdgdakdaaCGet
namespace Go.Proofs.Ytmjmlccdgdakdaa.C
open Go.RowKit
attribute [local go_sem ↓] Go.wp_at_zero Go.wp_at_succ
theorem u32_mask1 (x : Nat) (hx : x < 4294967296) : bits .and .u32 (x : Int) 1 = ((x % 2 : Nat) : Int) := by
  have := u32_and_nat x 1 hx (by decide)
  rw [nat_mask1] at this
  exact this
set_option maxRecDepth 100000 in
set_option maxHeartbeats 1000000 in
theorem rsum_any (s : ByteArray) (w : World) (hs : s.size ≤ maxLen) :
    Calls Try.prog 47 #[.string s] w fun e w' => e = .returned (.int .u32 ((Cm.sum s.data.toList : Nat) : Int)) ∧ w' = w := by
  have hsm : (s.size : Int) ≤ 9223372036854775807 := by have := hs; simp only [maxLen] at this; omega
  go_enter Try.func47, Try.ntmps47
  go_wp2
  go_loop [3, 4] (fun n c => ∃ i : Nat, i ≤ s.size ∧ c = .int .i64 (i : Int) ∧ n = .int .u32 ((Cm.run Cm.ones (s.data.toList.take i) : Nat) : Int)) (fun _ c => ((s.size : Int) - intOf c).toNat)
  case atStart => exact ⟨0, by omega, rfl, rfl⟩
  case round =>
    obtain ⟨i, hi, rfl, rfl⟩ := hrel
    by_cases hlt : i < s.size
    · have hlt' : (i : Int) < (s.size : Int) := by omega
      have hi64 : (i : Int) + 1 ≤ 9223372036854775807 := by omega
      have htk := take_snoc s i hlt
      have hc := Cm.run_lt (c := Cm.ones) (by decide) (s.data.toList.take i)
      obtain ⟨c, hcd⟩ : ∃ c, Cm.run Cm.ones (s.data.toList.take i) = c := ⟨_, rfl⟩
      rw [hcd] at hc
      rw [hcd]
      obtain ⟨a, ha⟩ : ∃ a, s[i] = a := ⟨_, rfl⟩
      have ha256 := a.toNat_lt
      obtain ⟨x, hx, hxd, hx2⟩ : ∃ x : Nat, bits .xor .u32 (c : Int) (a.toNat : Int) = (x : Int) ∧ x = c ^^^ a.toNat ∧ x < 4294967296 :=
        ⟨_, u32_xor_nat c a.toNat hc (by omega), rfl, Nat.xor_lt_two_pow (n := 32) hc (by omega)⟩
      have HZ : Hid (Cm.run Cm.ones (s.data.toList.take (i + 1)) = Cm.halves 8 x) := (show Cm.run Cm.ones (s.data.toList.take (i + 1)) = Cm.halves 8 x from by
        rw [htk, run_snoc, hcd, ha, hxd])
      clear hxd htk hcd hc
      go_wp2
      go_loop [3, 5] (fun n k => ∃ m : Nat, m ≤ 8 ∧ k = .int .i64 (m : Int) ∧ n = .int .u32 ((Cm.halves m x : Nat) : Int)) (fun _ c => (8 - intOf c).toNat)
      case atStart => exact ⟨0, by omega, rfl, rfl⟩
      case round =>
        obtain ⟨m, hm, rfl, rfl⟩ := hrel
        by_cases hlm : m < 8
        · have hlm' : (m : Int) < 8 := by omega
          have hv := Cm.halves_lt m hx2
          have HN : Hid (_) := halves_next m x
          generalize Cm.halves m x = v at hv HN ⊢
          have hmk := u32_mask1 v hv
          have hxo := u32_xor_nat (v / 2) 2197175160 (by omega) (by decide)
          rw [show ((v / 2 : Nat) : Int) = (v : Int) / 2 by omega] at hxo
          by_cases ho : v % 2 = 1
          · have hb : (((v % 2 : Nat) : Int) == 1) = true := by rw [beq_iff_eq]; omega
            obtain ⟨y, hy⟩ : ∃ y, (v / 2) ^^^ 2197175160 = y := ⟨_, rfl⟩
            have HY : Hid (y = Cm.half v) := (show y = Cm.half v from by unfold Cm.half; rw [if_pos ho, ← hy]; rfl)
            rw [hy] at hxo
            have hxo' : bits .xor .u32 ((v : Int) / 2) 2197175160 = (y : Int) := hxo
            rw [show v % 2 = 1 from ho] at hmk
            have hmk' : bits .and .u32 (v : Int) 1 = 1 := hmk
            clear hxo hmk ho hy hb
            go_wp2
            go_round
            case rel => exact ⟨m + 1, by omega, by simp, by rw [HN.out, HY.out]⟩
            case measure => simp [intOf]; omega
          · have HY : Hid (v / 2 = Cm.half v) := (show v / 2 = Cm.half v from by unfold Cm.half; rw [if_neg ho])
            have hmk' : bits .and .u32 (v : Int) 1 = 0 := by rw [hmk]; omega
            clear hxo hmk ho
            go_wp2
            go_round
            case rel => exact ⟨m + 1, by omega, by simp, by rw [HN.out, ← HY.out]; rfl⟩
            case measure => simp [intOf]; omega
        · have hlm' : ¬ ((m : Int) < 8) := by omega
          have HM : Hid (Cm.halves m x = Cm.halves 8 x) := (show Cm.halves m x = Cm.halves 8 x from by rw [show m = 8 by omega])
          go_wp2
          go_round
          case rel => exact ⟨i + 1, by omega, by simp, by rw [HZ.out, HM.out]⟩
          case measure => simp [intOf]; omega
    · have hlt' : ¬ ((i : Int) < (s.size : Int)) := by omega
      have hc := Cm.run_lt (c := Cm.ones) (by decide) (s.data.toList.take i)
      have hR : Cm.sum s.data.toList = Cm.run Cm.ones (s.data.toList.take i) ^^^ 4294967295 := by
        rw [List.take_of_length_le (by rw [Array.length_toList]; show s.size ≤ i; omega)]; rfl
      generalize Cm.run Cm.ones (s.data.toList.take i) = c at hc hR ⊢
      have HR : Hid (_) := hR
      clear hR
      go_wp2
      go_ret
      exact ⟨ret_int (by rw [HR.out, Nat.xor_comm]; exact u32_xor_nat 4294967295 c (by decide) hc), rfl⟩

set_option maxRecDepth 100000 in
set_option maxHeartbeats 1000000 in
theorem rput_any (s : ByteArray) (w : World) (hs : s.size ≤ 9223372036854775803) :
    Calls Try.prog 38 #[.string s] w fun e w' => e = .returned (.string ⟨(Cm.put s.data.toList).toArray⟩) ∧ Below w.heap.size w w' := by
  have hn := Cm.sum_lt s.data.toList
  have HS : Hid (_) := rsum_any s w (by simp only [maxLen]; omega)
  have hl : (ByteArray.mk (Cm.tail s.data.toList).toArray).size = 4 := rfl
  have hE : s ++ (ByteArray.mk (Cm.tail s.data.toList).toArray) = ⟨(Cm.put s.data.toList).toArray⟩ := by
    apply ByteArray.ext
    simp [Cm.put]
  have hcv := conv4 _ hn
  rw [show Cm.bytes4 (Cm.sum s.data.toList) = Cm.tail s.data.toList from rfl] at hcv
  generalize Cm.sum s.data.toList = n at hn HS hcv
  generalize ByteArray.mk (Cm.tail s.data.toList).toArray = t at hcv hl hE
  have hn' : (n : Int) < 4294967296 := by omega
  have hsum : s.size + t.size ≤ maxLen := by simp only [maxLen]; omega
  go_enter Try.func38, Try.ntmps38
  go_wp2_with (go_at_call 47; refine Calls.mono HS.out ?_; rintro e w1 ⟨rfl, rfl⟩)
  go_ret
  exact ⟨rfl, (Below.refl _ _).alloc (Nat.le_refl _) _⟩
end Go.Proofs.Ytmjmlccdgdakdaa.C
