-- PROVED: a record whose bits are turned, behind its number, is none.
import Derived.Test.YtpkeeoeghdmagaaFMath
namespace Go.Proofs.Ytpkeeoeghdmagaa.Fm
theorem small_one (n : Nat) (h : n < 64) : (Vn.put (n : Int)).length = 1 := by
  have hz : Vn.zig (n : Int) < 128 := (Vn.zig_small _).2 (by omega)
  unfold Vn.put Vn.encF
  rw [if_pos hz]
  rfl
theorem le_cons (a : UInt8) (l : List UInt8) : Cm.le (a :: l) = a.toNat + 256 * Cm.le l := rfl
theorem spoilt (s l q : List UInt8) (k Y : Nat) (hs : s.length ≤ 4096) (h1 : (Vn.put (s.length : Int)).length = 1) (hl : l.length = s.length + 5) (hk0 : 8 ≤ k) (hk : k ≤ 8 * (s.length + 5)) (hY : Y < 4294967296) (hY0 : Y ≠ 0)
    (hle : Cm.le l = Cm.le (put s) ^^^ 2 ^ k * Y) : all (l ++ q) = ([], 0, 5) := by
  obtain ⟨b0, hb0⟩ : ∃ b, Vn.put (s.length : Int) = [b] := List.length_eq_one_iff.1 h1
  obtain ⟨c0, l', rfl⟩ : ∃ c l', l = c :: l' := by
    cases l with
    | nil => simp at hl
    | cons c l' => exact ⟨c, l', rfl⟩
  have hl' : l'.length = s.length + 4 := by simpa using hl
  have hp : put s = b0 :: Cm.put s := by unfold put; rw [hb0]; rfl
  rw [hp, le_cons, le_cons] at hle
  have hk2 : 2 ^ k * Y = 2 ^ 8 * (2 ^ (k - 8) * Y) := by rw [← Nat.mul_assoc, ← Nat.pow_add, show 8 + (k - 8) = k by omega]
  have hb := b0.toNat_lt
  have hc := c0.toNat_lt
  have e1 : b0.toNat + 256 * Cm.le (Cm.put s) = 2 ^ 8 * Cm.le (Cm.put s) ^^^ b0.toNat := Cm.add_xor 8 _ _ hb
  have e2 : c0.toNat + 256 * Cm.le l' = 2 ^ 8 * Cm.le l' ^^^ c0.toNat := Cm.add_xor 8 _ _ hc
  have e3 : 2 ^ 8 * Cm.le (Cm.put s) ^^^ b0.toNat ^^^ 2 ^ 8 * (2 ^ (k - 8) * Y) = b0.toNat + 2 ^ 8 * (Cm.le (Cm.put s) ^^^ 2 ^ (k - 8) * Y) := by
    rw [Cm.add_xor 8 _ _ hb, Cm.two_pow_xor 8, Nat.xor_assoc, Nat.xor_comm b0.toNat, ← Nat.xor_assoc]
  rw [hk2, e1, e3] at hle
  have hc0 : c0 = b0 := UInt8.toNat_inj.1 (by omega)
  have hle' : Cm.le l' = Cm.le (Cm.put s) ^^^ 2 ^ (k - 8) * Y := by
    generalize Cm.le (Cm.put s) ^^^ 2 ^ (k - 8) * Y = z at hle ⊢
    omega
  subst hc0
  have hg := Cm.get_burst s l' (k - 8) Y (by rw [hl', Cm.put_length]) (by rw [Cm.put_length]; omega) hY hle'
  rw [if_neg hY0] at hg
  have hu := Vn.getU_put (s.length : Int) (l' ++ q) (by omega) (by omega)
  rw [hb0] at hu
  have ho : one (c0 :: l' ++ q) = ([], 0, 5) := by
    unfold one
    rw [show c0 :: l' ++ q = [c0] ++ (l' ++ q) from rfl, hu]
    simp only [if_true, unzig_len]
    unfold body
    have hd : (([c0] ++ (l' ++ q)).drop [c0].length).take ((s.length : Int).toNat + 4) = l' := by
      rw [List.drop_left, Int.toNat_natCast, ← hl', List.take_left]
    rw [hd, hg, if_neg (by omega), if_neg (by simp; omega), if_neg (by decide)]
  rw [all_err (by simp) (by rw [ho]; decide), ho]
end Go.Proofs.Ytpkeeoeghdmagaa.Fm
