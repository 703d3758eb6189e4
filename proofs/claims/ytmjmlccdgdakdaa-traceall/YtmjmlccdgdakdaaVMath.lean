/- Plain facts on numbers seven bits a byte, with no program in sight: what is written is read again, whatever stands behind; cut, more is needed; what is read is what would be written. -/
import Derived.WalkKit
namespace Go.Proofs.Ytmjmlccdgdakdaa
namespace Vn

def zig (n : Int) : Nat := if 0 ≤ n then (2 * n).toNat else (-2 * n - 1).toNat
def unzig (u : Nat) : Int := if u % 2 = 0 then ((u / 2 : Nat) : Int) else -((u / 2 : Nat) : Int) - 1

theorem unzig_zig (n : Int) : unzig (zig n) = n := by
  unfold unzig zig
  split <;> split <;> omega
theorem zig_unzig (u : Nat) : zig (unzig u) = u := by
  unfold unzig zig
  split <;> split <;> omega
theorem zig_lt (n : Int) (h1 : -9223372036854775808 ≤ n) (h2 : n ≤ 9223372036854775807) : zig n < 18446744073709551616 := by
  unfold zig; split <;> omega
theorem unzig_bd (u : Nat) (h : u < 18446744073709551616) : -9223372036854775808 ≤ unzig u ∧ unzig u ≤ 9223372036854775807 := by
  unfold unzig; split <;> omega
theorem zig_small (n : Int) : zig n < 128 ↔ -64 ≤ n ∧ n < 64 := by
  unfold zig; split <;> omega

def encF : Nat → Nat → List UInt8
  | 0, _ => []
  | k + 1, u => if u < 128 then [UInt8.ofNat u] else UInt8.ofNat (u % 128 + 128) :: encF k (u / 128)
def put (n : Int) : List UInt8 := encF 10 (zig n)

theorem ofNat_toNat {m : Nat} (h : m < 256) : (UInt8.ofNat m).toNat = m := by
  simp [UInt8.toNat_ofNat']; omega

theorem encF_len_pos (k u : Nat) : 0 < (encF (k + 1) u).length := by
  unfold encF; split <;> simp
theorem encF_len_le : ∀ (k u : Nat), (encF k u).length ≤ k
  | 0, _ => by simp [encF]
  | k + 1, u => by
    unfold encF; split
    · simp
    · have := encF_len_le k (u / 128); simp; omega
theorem put_len (n : Int) : 1 ≤ (put n).length ∧ (put n).length ≤ 10 := ⟨encF_len_pos 9 _, encF_len_le 10 _⟩
theorem put_ne (n : Int) : put n ≠ [] := by
  intro h; have := (put_len n).1; rw [h] at this; simp at this

/-- The reading: how many rounds are left, how many have been, the number so far, the bytes: the number, how many bytes, the error. -/
def dec : Nat → Nat → Nat → List UInt8 → Nat × Nat × Nat
  | 0, _, _, _ => (0, 0, 4)
  | _ + 1, _, _, [] => (0, 0, 3)
  | k + 1, i, u, b :: r =>
    if 128 ≤ b.toNat then dec k (i + 1) (u + (b.toNat - 128) * 2 ^ (7 * i)) r
    else if (0 < i ∧ b.toNat = 0) ∨ (9 ≤ i ∧ 1 < b.toNat) then (0, 0, 4)
    else (u + b.toNat * 2 ^ (7 * i), i + 1, 0)
def getU (l : List UInt8) : Nat × Nat × Nat := dec 10 0 0 l

theorem dec_enc : ∀ (k i acc u : Nat) (rest : List UInt8), k + i = 10 → 0 < k → u < 2 ^ (64 - 7 * i) → (0 < i → 0 < u) →
    dec k i acc (encF k u ++ rest) = (acc + u * 2 ^ (7 * i), i + (encF k u).length, 0)
  | 0, _, _, _, _, _, h, _, _ => absurd h (by omega)
  | k + 1, i, acc, u, rest, hk, _, hu, hp => by
    unfold encF
    by_cases h : u < 128
    · rw [if_pos h]
      have e := ofNat_toNat (m := u) (by omega)
      have g : ¬ ((0 < i ∧ u = 0) ∨ (9 ≤ i ∧ 1 < u)) := by
        rintro (⟨a, b⟩ | ⟨a, b⟩)
        · have := hp a; omega
        · have : i = 9 := by omega
          subst this; simp at hu; omega
      simp only [List.cons_append, List.nil_append, dec, e, if_neg (show ¬ 128 ≤ u by omega), if_neg g, List.length_cons, List.length_nil]
    · rw [if_neg h]
      have e := ofNat_toNat (m := u % 128 + 128) (by omega)
      have hi : i < 9 := by
        rcases Nat.lt_or_ge i 9 with h9 | h9
        · exact h9
        · have : i = 9 := by omega
          subst this; simp at hu; omega
      simp only [List.cons_append, dec, e, if_pos (show 128 ≤ u % 128 + 128 by omega)]
      have hs : (2 : Nat) ^ (64 - 7 * i) = 128 * 2 ^ (64 - 7 * (i + 1)) := by
        rw [show 64 - 7 * i = 7 + (64 - 7 * (i + 1)) by omega, Nat.pow_add]
      rw [dec_enc k (i + 1) _ (u / 128) rest (by omega) (by omega) (by rw [hs] at hu; exact Nat.div_lt_of_lt_mul hu) (by intro; omega)]
      have hm : acc + (u % 128 + 128 - 128) * 2 ^ (7 * i) + u / 128 * 2 ^ (7 * (i + 1)) = acc + u * 2 ^ (7 * i) := by
        rw [show 7 * (i + 1) = 7 * i + 7 by omega, Nat.pow_add]
        have hd := Nat.div_add_mod u 128
        generalize 2 ^ (7 * i) = P
        have h2 : u / 128 * (P * 2 ^ 7) = (128 * (u / 128)) * P := by
          rw [show (2 : Nat) ^ 7 = 128 by rfl, Nat.mul_comm P 128, ← Nat.mul_assoc, Nat.mul_comm (u / 128) 128]
        have h1 : u % 128 + 128 - 128 = u % 128 := by omega
        rw [h2, h1, Nat.add_assoc, ← Nat.add_mul, Nat.add_comm (u % 128), hd]
      rw [hm]; simp; omega

theorem getU_put (n : Int) (rest : List UInt8) (h1 : -9223372036854775808 ≤ n) (h2 : n ≤ 9223372036854775807) :
    getU (put n ++ rest) = (zig n, (put n).length, 0) := by
  have := dec_enc 10 0 0 (zig n) rest rfl (by omega) (by simpa using zig_lt n h1 h2) (by omega)
  simpa [getU, put] using this

/-- A piece of what was written, cut: more is needed. -/
theorem dec_cut : ∀ (k i acc u m : Nat), m < (encF k u).length → dec k i acc ((encF k u).take m) = (0, 0, 3)
  | 0, _, _, _, _, h => absurd h (by simp [encF])
  | k + 1, i, acc, u, m, h => by
    unfold encF at h ⊢
    by_cases hu : u < 128
    · rw [if_pos hu] at h ⊢
      have : m = 0 := by simp at h; exact h
      subst this; simp [dec]
    · rw [if_neg hu] at h ⊢
      have e := ofNat_toNat (m := u % 128 + 128) (by omega)
      cases m with
      | zero => simp [dec]
      | succ m =>
        simp only [List.take_succ_cons, dec, e, if_pos (show 128 ≤ u % 128 + 128 by omega)]
        exact dec_cut k (i + 1) _ (u / 128) m (by simp at h; exact h)
theorem getU_cut (n : Int) (m : Nat) (h : m < (put n).length) : getU ((put n).take m) = (0, 0, 3) := dec_cut 10 0 0 _ m h

/-- What is read without an error is what would be written of it. -/
theorem dec_ok : ∀ (k i acc : Nat) (l : List UInt8) (v c : Nat), k + i = 10 → dec k i acc l = (v, c, 0) →
    ∃ u, v = acc + u * 2 ^ (7 * i) ∧ u < 2 ^ (64 - 7 * i) ∧ i < c ∧ c ≤ i + l.length ∧ c ≤ 10 ∧ encF k u = l.take (c - i) ∧ (0 < i → 0 < u)
  | 0, _, _, _, _, _, _, h => by simp [dec] at h
  | _ + 1, _, _, [], _, _, _, h => by simp [dec] at h
  | k + 1, i, acc, b :: r, v, c, hk, h => by
    unfold dec at h
    have hb := b.toNat_lt
    by_cases h1 : 128 ≤ b.toNat
    · rw [if_pos h1] at h
      obtain ⟨u, e1, e2, e3, e4, e5, e6, e7⟩ := dec_ok k (i + 1) _ r v c (by omega) h
      have hi : i < 9 := by omega
      have hup := e7 (by omega)
      refine ⟨b.toNat - 128 + 128 * u, ?_, ?_, by omega, by simp; omega, e5, ?_, by omega⟩
      · rw [e1, show 7 * (i + 1) = 7 * i + 7 by omega, Nat.pow_add]
        generalize 2 ^ (7 * i) = P
        rw [Nat.add_mul, show (2 : Nat) ^ 7 = 128 by rfl, Nat.add_assoc, Nat.mul_comm P 128, ← Nat.mul_assoc, Nat.mul_comm u 128]
      · have hs : (2 : Nat) ^ (64 - 7 * i) = 128 * 2 ^ (64 - 7 * (i + 1)) := by
          rw [show 64 - 7 * i = 7 + (64 - 7 * (i + 1)) by omega, Nat.pow_add]
        rw [hs]; omega
      · have hc : c - i = (c - (i + 1)) + 1 := by omega
        rw [hc, List.take_succ_cons, ← e6]
        have hne : ¬ b.toNat - 128 + 128 * u < 128 := by omega
        have hm : (b.toNat - 128 + 128 * u) % 128 + 128 = b.toNat := by omega
        have hq : (b.toNat - 128 + 128 * u) / 128 = u := by omega
        rw [encF, if_neg hne, hm, hq]; simp
    · rw [if_neg h1] at h
      by_cases h2 : (0 < i ∧ b.toNat = 0) ∨ (9 ≤ i ∧ 1 < b.toNat)
      · rw [if_pos h2] at h; simp at h
      · rw [if_neg h2] at h
        simp only [Prod.mk.injEq, and_true] at h
        obtain ⟨rfl, rfl⟩ := h
        refine ⟨b.toNat, rfl, ?_, by omega, by simp, by omega, ?_, by omega⟩
        · rcases Nat.lt_or_ge i 9 with h9 | h9
          · have : (2 : Nat) ^ 8 ≤ 2 ^ (64 - 7 * i) := Nat.pow_le_pow_right (by omega) (by omega)
            omega
          · have : i = 9 := by omega
            subst this; simp; omega
        · rw [encF, if_pos (by omega), show i + 1 - i = 1 by omega]; simp

theorem getU_ok {l : List UInt8} {v c : Nat} (h : getU l = (v, c, 0)) : v < 18446744073709551616 ∧ 0 < c ∧ c ≤ l.length ∧ c ≤ 10 ∧ encF 10 v = l.take c := by
  obtain ⟨u, e1, e2, e3, e4, e5, e6, _⟩ := dec_ok 10 0 0 l v c rfl h
  simp at e1 e2 e6
  subst e1
  exact ⟨by simpa using e2, e3, by omega, e5, e6⟩

/-- What errors there are. -/
theorem dec_err : ∀ (k i acc : Nat) (l : List UInt8), (dec k i acc l).2.2 = 0 ∨ dec k i acc l = (0, 0, 3) ∨ dec k i acc l = (0, 0, 4)
  | 0, _, _, _ => by simp [dec]
  | _ + 1, _, _, [] => by simp [dec]
  | k + 1, i, acc, b :: r => by
    unfold dec
    split
    · exact dec_err k _ _ r
    · split <;> simp
theorem getU_err (l : List UInt8) : (getU l).2.2 = 0 ∨ getU l = (0, 0, 3) ∨ getU l = (0, 0, 4) := dec_err 10 0 0 l

/-- With 128 added to the last byte, and a nought behind it, nothing is said. -/
theorem dec_nought : ∀ (k i acc u : Nat), k + i = 10 → 0 < k → u < 2 ^ (64 - 7 * i) → ∀ (c : UInt8) (p : List UInt8) (b : UInt8), encF k u = p ++ [b] → c.toNat = b.toNat + 128 → dec k i acc (p ++ [c] ++ [0]) = (0, 0, 4)
  | 0, _, _, _, _, h, _, _, _, _, _, _ => absurd h (by omega)
  | k + 1, i, acc, u, hk, _, hu, c, p, b, he, hc => by
    unfold encF at he
    by_cases h : u < 128
    · rw [if_pos h] at he
      have hp : p = [] := by
        cases p with
        | nil => rfl
        | cons x p => simp at he
      subst hp
      simp only [List.nil_append, List.cons_append, dec, if_pos (show 128 ≤ c.toNat by omega)]
      cases k with
      | zero => simp [dec]
      | succ k => simp [dec]
    · rw [if_neg h] at he
      have hi : i < 9 := by
        rcases Nat.lt_or_ge i 9 with h9 | h9
        · exact h9
        · have : i = 9 := by omega
          subst this; simp at hu; omega
      cases p with
      | nil =>
        exfalso
        have hl := encF_len_pos (k - 1) (u / 128)
        rw [show k - 1 + 1 = k by omega] at hl
        simp at he
        rw [he.2] at hl; simp at hl
      | cons x p =>
        simp only [List.cons_append, List.cons.injEq] at he
        have e := ofNat_toNat (m := u % 128 + 128) (by omega)
        have hx : x.toNat = u % 128 + 128 := by rw [← he.1, e]
        simp only [List.cons_append, dec, hx, if_pos (show 128 ≤ u % 128 + 128 by omega)]
        have hs : (2 : Nat) ^ (64 - 7 * i) = 128 * 2 ^ (64 - 7 * (i + 1)) := by
          rw [show 64 - 7 * i = 7 + (64 - 7 * (i + 1)) by omega, Nat.pow_add]
        exact dec_nought k (i + 1) _ (u / 128) (by omega) (by omega) (by rw [hs] at hu; exact Nat.div_lt_of_lt_mul hu) c p b he.2 hc

/-- How many bytes: as the law reckons it. -/
def sz : Nat → Nat → Nat
  | 0, _ => 0
  | k + 1, m => if 64 ≤ m then sz k (m / 128) + 1 else 1
theorem encF_sz : ∀ (k u : Nat), (encF k u).length = sz k (u / 2)
  | 0, _ => by simp [encF, sz]
  | k + 1, u => by
    unfold encF sz
    by_cases h : u < 128
    · rw [if_pos h, if_neg (by omega)]; simp
    · rw [if_neg h, if_pos (by omega)]
      simp only [List.length_cons, encF_sz k]
      rw [show u / 128 / 2 = u / 2 / 128 by omega]
theorem put_sz (n : Int) (h : 0 ≤ n) : (put n).length = sz 10 n.toNat ∧ (put (-n - 1)).length = sz 10 n.toNat := by
  unfold put
  rw [encF_sz, encF_sz]
  unfold zig
  constructor
  · rw [if_pos h, show (2 * n).toNat / 2 = n.toNat by omega]
  · rw [if_neg (by omega), show (-2 * (-n - 1) - 1).toNat / 2 = n.toNat by omega]
end Vn
end Go.Proofs.Ytmjmlccdgdakdaa
