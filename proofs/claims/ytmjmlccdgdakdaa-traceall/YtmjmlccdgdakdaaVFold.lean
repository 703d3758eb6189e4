/- vint.folded by its contract: what the bytes at a place say. -/
import Derived.Test.YtmjmlccdgdakdaaVPut
namespace Go.Proofs.Ytmjmlccdgdakdaa.V
open Go.RowKit
def nxt (i : Nat) (r : Nat × Nat × Nat) : Nat := if r.2.2 = 0 then i + r.2.1 else 0
theorem mask127 {c : Int} (h₀ : 0 ≤ c) (h₁ : c < 256) : bits .and .u8 c 127 = c % 128 := bits_mask .u8 8 (by decide) wraps_u8 7 (by decide) c h₀ (by omega)
theorem orv (acc i c : Nat) (hi : i < 10) (hacc : acc < 2 ^ (7 * i)) (hc : c < 256) (hfit : i < 9 ∨ c % 128 ≤ 1) :
    bits .or .u64 (acc : Int) (IntKind.u64.wrap (IntKind.u64.wrap (bits .and .u8 (c : Int) 127) * 2 ^ (7 * i))) = ((acc + c % 128 * 2 ^ (7 * i) : Nat) : Int) := by
  rw [mask127 (by omega) (by omega)]
  have e1 : IntKind.u64.wrap ((c : Int) % 128) = ((c % 128 : Nat) : Int) := by rw [wraps_u64 _ (by omega) (by omega)]; omega
  have hx : c % 128 * 2 ^ (7 * i) < 2 ^ 64 := by
    rcases hfit with h | h
    · have h1 : (2 : Nat) ^ 64 = 2 ^ (64 - 7 * i) * 2 ^ (7 * i) := by rw [← Nat.pow_add]; congr 1; omega
      rw [h1]
      have h2 : (2 : Nat) ^ 8 ≤ 2 ^ (64 - 7 * i) := Nat.pow_le_pow_right (by omega) (by omega)
      exact Nat.mul_lt_mul_of_pos_right (by omega) (Nat.pow_pos (by omega))
    · have h2 : (2 : Nat) ^ (7 * i) ≤ 2 ^ 63 := Nat.pow_le_pow_right (by omega) (by omega)
      have h3 : c % 128 * 2 ^ (7 * i) ≤ 1 * 2 ^ 63 := Nat.mul_le_mul h h2
      omega
  have e2 : ((c % 128 : Nat) : Int) * 2 ^ (7 * i) = ((c % 128 * 2 ^ (7 * i) : Nat) : Int) := by simp
  rw [e1, e2, wraps_u64 _ (by omega) (by exact_mod_cast hx)]
  have hb : acc < 2 ^ 64 := Nat.lt_of_lt_of_le hacc (Nat.pow_le_pow_right (by omega) (by omega))
  rw [bits_join_low .u64 64 (by decide) wraps_u64 (7 * i) (acc : Int) _ (by omega) (by exact_mod_cast hacc) (by exact_mod_cast hb) (by omega) ?_ (by exact_mod_cast hx)]
  · simp
  · have : c % 128 * 2 ^ (7 * i) % 2 ^ (7 * i) = 0 := Nat.mul_mod_left _ _
    exact_mod_cast this
theorem drop_step (s : ByteArray) (k : Nat) (h : k < s.size) : s.data.toList.drop k = s[k] :: s.data.toList.drop (k + 1) := by
  rw [List.drop_eq_getElem_cons (by simpa using h)]; rfl
theorem drop_end (s : ByteArray) (k : Nat) (h : k = s.size) : s.data.toList.drop k = [] := by
  apply List.drop_eq_nil_of_le; simp; exact Nat.le_of_eq h.symm
theorem d_end (i acc : Nat) (h : i < 10) : Vn.dec (10 - i) i acc [] = (0, 0, 3) := by
  obtain ⟨k, hk⟩ : ∃ k, 10 - i = k + 1 := ⟨9 - i, by omega⟩
  rw [hk]; simp [Vn.dec]
theorem d_more (i acc : Nat) (b : UInt8) (r : List UInt8) (h : i < 10) (hb : 128 ≤ (b.toNat : Int)) : Vn.dec (10 - i) i acc (b :: r) = Vn.dec (10 - (i + 1)) (i + 1) (acc + b.toNat % 128 * 2 ^ (7 * i)) r := by
  obtain ⟨k, hk⟩ : ∃ k, 10 - i = k + 1 := ⟨9 - i, by omega⟩
  have hb2 := b.toNat_lt
  rw [hk, Vn.dec, if_pos (by omega), show 10 - (i + 1) = k by omega, show b.toNat - 128 = b.toNat % 128 by omega]
theorem d_last (i acc : Nat) (b : UInt8) (r : List UInt8) (h : i < 10) (hb : (b.toNat : Int) < 128) : Vn.dec (10 - i) i acc (b :: r) = if mayB b.toNat i = true then (acc + b.toNat % 128 * 2 ^ (7 * i), i + 1, 0) else (0, 0, 4) := by
  obtain ⟨k, hk⟩ : ∃ k, 10 - i = k + 1 := ⟨9 - i, by omega⟩
  have e : (mayB b.toNat i = true) ↔ ¬ ((0 < i ∧ b.toNat = 0) ∨ (9 ≤ i ∧ 1 < b.toNat)) := by
    unfold mayB; simp; omega
  rw [hk, Vn.dec, if_neg (by omega), show b.toNat % 128 = b.toNat by omega]
  by_cases hm : (0 < i ∧ b.toNat = 0) ∨ (9 ≤ i ∧ 1 < b.toNat)
  · rw [if_pos hm, if_neg (fun h => (e.1 h) hm)]
  · rw [if_neg hm, if_pos (by rw [e]; exact hm)]
theorem may_fit {b i : Nat} (h : mayB b i = true) (hb : b < 128) : i < 9 ∨ b % 128 ≤ 1 := by
  unfold mayB at h; simp at h; omega
theorem acc_step {acc i c : Nat} (h : acc < 2 ^ (7 * i)) : acc + c % 128 * 2 ^ (7 * i) < 2 ^ (7 * (i + 1)) := by
  rw [show 7 * (i + 1) = 7 + 7 * i by omega, Nat.pow_add]
  have h1 : c % 128 + 1 ≤ 128 := by omega
  have h2 := Nat.mul_le_mul_right (2 ^ (7 * i)) h1
  rw [Nat.add_mul] at h2
  generalize 2 ^ (7 * i) = P at *
  omega
theorem tup3 {a a' b b' c c' : Value} (h1 : a = a') (h2 : b = b') (h3 : c = c') : Ending.returned (.tuple #[a, b, c]) = .returned (.tuple #[a', b', c']) := by rw [h1, h2, h3]

set_option maxRecDepth 100000 in
set_option maxHeartbeats 400000 in
theorem folded_any (s : ByteArray) (i0 : Nat) (w : World) (hs : s.size ≤ maxLen) (h0 : i0 ≤ s.size) :
    Calls Try.prog 60 #[.string s, .int .i64 (i0 : Int)] w fun e w' => e = .returned (.tuple #[.int .u64 ((Vn.getU (s.data.toList.drop i0)).1 : Int), .int .i64 (nxt i0 (Vn.getU (s.data.toList.drop i0)) : Int), .int .i64 ((Vn.getU (s.data.toList.drop i0)).2.2 : Int)]) ∧ w' = w := by
  unfold maxLen at hs
  generalize hr : Vn.getU (s.data.toList.drop i0) = r
  have HR : Hid (_) := hr
  clear hr
  go_enter Try.func60, Try.ntmps60
  go_wp2
  go_loop [4, 9] (fun u t => ∃ (i : Nat) (U : Int), i ≤ 10 ∧ t = .int .i64 (i : Int) ∧ u = .int .u64 U ∧ (i = 10 → r = (0, 0, 4)) ∧ (i < 10 → i0 + i ≤ s.size ∧ ∃ acc : Nat, U = acc ∧ acc < 2 ^ (7 * i) ∧ r = Vn.dec (10 - i) i acc (s.data.toList.drop (i0 + i)))) (fun _ t => 10 - (intOf t).toNat)
  case atStart => exact ⟨0, 0, by omega, rfl, rfl, by omega, fun _ => ⟨h0, 0, rfl, by simp, HR.out.symm⟩⟩
  case round =>
    obtain ⟨i, U, hi, rfl, rfl, hten, hless⟩ := hrel
    have HT : Hid (_) := hten
    have HL : Hid (_) := hless
    clear hten hless
    by_cases h10 : i < 10
    · obtain ⟨hle, acc, rfl, hacc, hdec⟩ := HL.out h10
      have HA : Hid (_) := hacc
      have HD : Hid (_) := hdec
      clear hacc hdec HL HT
      by_cases hend : i0 + i = s.size
      · have HV : Hid (r = (0, 0, 3)) := (show r = (0, 0, 3) from by rw [HD.out, drop_end s _ hend, d_end _ _ h10])
        have hb : (((i0 : Int) + (i : Int)) == (s.size : Int)) = true := by rw [beq_iff_eq]; omega
        clear hend
        go_wp2_with fail
        go_ret3
        exact ⟨by rw [HV.out]; rfl, rfl⟩
      · have hb : (((i0 : Int) + (i : Int)) == (s.size : Int)) = false := by rw [beq_eq_false_iff_ne]; omega
        have hlt : i0 + i < s.size := by omega
        have hbl := s[i0 + i].toNat_lt
        have HS : Hid (r = Vn.dec (10 - i) i acc (s[i0 + i] :: s.data.toList.drop (i0 + (i + 1)))) := (show r = Vn.dec (10 - i) i acc (s[i0 + i] :: s.data.toList.drop (i0 + (i + 1))) from by rw [HD.out, drop_step s _ hlt]; rfl)
        clear hend HD
        by_cases hc : 128 ≤ (s[i0 + i].toNat : Int)
        · have HV : Hid (_) := HS.out.trans (d_more _ _ _ _ h10 hc)
          go_wp2_with fail
          go_round
          case rel =>
            refine ⟨i + 1, _, by omega, by go_num, rfl, ?_, ?_⟩
            · intro h; rw [HV.out, h]; simp [Vn.dec]
            · intro h
              exact ⟨by omega, _, orv acc i _ h10 HA.out hbl (.inl (by omega)), acc_step HA.out, HV.out⟩
          case measure => simp [intOf]; omega
        · have hc2 : (s[i0 + i].toNat : Int) < 128 := by omega
          have HV : Hid (_) := HS.out.trans (d_last _ _ _ _ h10 hc2)
          cases hm : mayB s[i0 + i].toNat i with
          | true =>
            have HF : Hid (_) := orv acc i _ h10 HA.out hbl (may_fit hm (by omega))
            have HM : Hid (_) := hm
            clear hm
            go_wp2_with (go_at_call 67; refine (mayEnd_any _ _ _).mono ?_; rintro e w' ⟨rfl, rfl⟩; rw [HM.out])
            go_ret3
            exact ⟨by rw [HV.out, if_pos HM.out, HF.out]; rfl, rfl⟩
          | false =>
            have HM : Hid (_) := hm
            clear hm
            go_wp2_with (go_at_call 67; refine (mayEnd_any _ _ _).mono ?_; rintro e w' ⟨rfl, rfl⟩; rw [HM.out])
            go_ret3
            exact ⟨by rw [HV.out, if_neg (by rw [HM.out]; simp)]; rfl, rfl⟩
    · have HV : Hid (_) := HT.out (by omega)
      clear HT HL
      go_wp2_with fail
      go_ret3
      exact ⟨by rw [HV.out]; rfl, rfl⟩
end Go.Proofs.Ytmjmlccdgdakdaa.V
