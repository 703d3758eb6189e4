/- Bits side by side turned: what Get says of the bytes then. -/
import Derived.Test.YtmjmlccdgdakdaaCRow
namespace Go.Proofs.Ytmjmlccdgdakdaa.C
end Go.Proofs.Ytmjmlccdgdakdaa.C
namespace Go.Proofs.Ytmjmlccdgdakdaa.Cm
theorem le_inj : ∀ (l m : List UInt8), l.length = m.length → le l = le m → l = m
  | [], [], _, _ => rfl
  | [], _ :: _, h, _ => by simp at h
  | _ :: _, [], h, _ => by simp at h
  | a :: l, b :: m, h, e => by
    have ha := a.toNat_lt
    have hb := b.toNat_lt
    simp only [le] at e
    have h1 : a.toNat = b.toNat := by omega
    have h2 : le l = le m := by omega
    rw [UInt8.toNat_inj.mp h1, le_inj l m (by simpa using h) h2]
theorem get_put (s : List UInt8) : get (put s) = (s, 0) := by
  unfold get
  rw [put_length, if_neg (by omega), Nat.add_sub_cancel]
  have h1 : (put s).take s.length = s := by unfold put; rw [List.take_left]
  have h2 : (put s).drop s.length = tail s := by unfold put; rw [List.drop_left]
  rw [h1, h2, if_pos rfl]
theorem run_put (s : List UInt8) : run ones (put s) = rest := (run_behind s (tail s) (tail_length s)).2 rfl
theorem get_burst (s l : List UInt8) (k Y : Nat) (hl : l.length = (put s).length) (hk : k ≤ 8 * (put s).length) (hY : Y < 4294967296) (hle : le l = le (put s) ^^^ 2 ^ k * Y) :
    get l = if Y = 0 then (s, 0) else ([], 5) := by
  by_cases h0 : Y = 0
  · rw [if_pos h0]
    have : l = put s := le_inj _ _ hl (by rw [hle, h0, Nat.mul_zero, Nat.xor_zero])
    rw [this, get_put]
  · rw [if_neg h0]
    have hpl := put_length s
    unfold get
    rw [if_neg (by omega), if_neg]
    intro e
    have hd : (l.drop (l.length - 4)).length = 4 := by rw [List.length_drop]; omega
    have hr := (run_behind (l.take (l.length - 4)) (l.drop (l.length - 4)) hd).2 e.symm
    rw [List.take_append_drop] at hr
    exact h0 (run_burst (put s) l hl k Y hk hY hle (by rw [hr, run_put]))
theorem two_pow_xor (k a b : Nat) : 2 ^ k * (a ^^^ b) = 2 ^ k * a ^^^ 2 ^ k * b := by
  simp only [Nat.mul_comm (2 ^ k), ← Nat.shiftLeft_eq]
  exact Nat.shiftLeft_xor_distrib
/-- One bit more of Y is turned, at its place. -/
theorem le_turn (l p : List UInt8) (k i Y : Nat) (b x : UInt8) (hb : l[(k + i) / 8]? = some b) (hx : x.toNat = Y / 2 ^ i % 2 * 2 ^ ((k + i) % 8)) (hle : le l = le p ^^^ 2 ^ k * (Y % 2 ^ i)) :
    le (l.set ((k + i) / 8) (b ^^^ x)) = le p ^^^ 2 ^ k * (Y % 2 ^ (i + 1)) := by
  rw [le_set l _ x b hb, hle, hx, Nat.xor_assoc]
  congr 1
  have e1 : Y % 2 ^ (i + 1) = Y % 2 ^ i + 2 ^ i * (Y / 2 ^ i % 2) := by rw [Nat.pow_succ, Nat.mod_mul]
  have e2 : Y / 2 ^ i % 2 * 2 ^ ((k + i) % 8) * 256 ^ ((k + i) / 8) = 2 ^ k * (2 ^ i * (Y / 2 ^ i % 2)) := by
    rw [show (256 : Nat) = 2 ^ 8 by rfl, ← Nat.pow_mul, Nat.mul_assoc, ← Nat.pow_add, Nat.mul_comm, show (k + i) % 8 + 8 * ((k + i) / 8) = k + i by omega, Nat.pow_add, Nat.mul_assoc]
  rw [e2, e1, add_xor i _ _ (Nat.mod_lt _ (Nat.two_pow_pos i)), two_pow_xor k, Nat.xor_comm]
end Go.Proofs.Ytmjmlccdgdakdaa.Cm
namespace Go.Proofs.Ytmjmlccdgdakdaa.C
open Go.RowKit
end Go.Proofs.Ytmjmlccdgdakdaa.C
