/- Sums of 32 bits, as numbers: halving and turning is linear; what bytes side by side come to. -/
namespace Go.Proofs.Ytmjmlccdgdakdaa.Cm

def poly : Nat := 2197175160
def ones : Nat := 4294967295
def half (n : Nat) : Nat := if n % 2 = 1 then (n / 2) ^^^ poly else n / 2
def halves : Nat → Nat → Nat
  | 0, n => n
  | k + 1, n => halves k (half n)
def le : List UInt8 → Nat
  | [] => 0
  | a :: l => a.toNat + 256 * le l
/-- The state behind the bytes l, from state c. -/
def byteStep (c : Nat) (a : UInt8) : Nat := halves 8 (c ^^^ a.toNat)
def run (c : Nat) (l : List UInt8) : Nat := l.foldl byteStep c
theorem run_nil (c : Nat) : run c [] = c := rfl
theorem run_cons (c : Nat) (a : UInt8) (l : List UInt8) : run c (a :: l) = run (halves 8 (c ^^^ a.toNat)) l := rfl
def sum (l : List UInt8) : Nat := run ones l ^^^ ones

theorem half_zero : half 0 = 0 := by decide
theorem half_even (m : Nat) : half (2 * m) = m := by
  unfold half
  rw [if_neg (by omega)]; omega
theorem half_xor (a b : Nat) : half (a ^^^ b) = half a ^^^ half b := by
  have hm : (a ^^^ b) % 2 = (a % 2 + b % 2) % 2 := by
    have := Nat.xor_mod_two_pow (a := a) (b := b) (n := 1)
    rw [show (2 : Nat) ^ 1 = 2 from rfl] at this
    rw [this]
    rcases Nat.mod_two_eq_zero_or_one a with ha | ha <;> rcases Nat.mod_two_eq_zero_or_one b with hb | hb <;> simp [ha, hb]
  have hd : (a ^^^ b) / 2 = a / 2 ^^^ b / 2 := Nat.xor_div_two
  unfold half
  rw [hm, hd]
  rcases Nat.mod_two_eq_zero_or_one a with ha | ha <;> rcases Nat.mod_two_eq_zero_or_one b with hb | hb <;> simp [ha, hb]
  · rw [Nat.xor_assoc]
  · rw [Nat.xor_assoc, Nat.xor_comm (b / 2) poly, Nat.xor_assoc]
  · have : a / 2 ^^^ poly ^^^ (b / 2 ^^^ poly) = a / 2 ^^^ b / 2 ^^^ (poly ^^^ poly) := by
      rw [Nat.xor_assoc, Nat.xor_assoc, Nat.xor_comm poly, Nat.xor_assoc]
    rw [this, Nat.xor_self, Nat.xor_zero]
theorem halves_xor (k a b : Nat) : halves k (a ^^^ b) = halves k a ^^^ halves k b := by
  induction k generalizing a b with
  | zero => rfl
  | succ k ih => simp only [halves, half_xor, ih]
theorem halves_add (j k n : Nat) : halves (j + k) n = halves k (halves j n) := by
  induction j generalizing n with
  | zero => simp [halves]
  | succ j ih => rw [show j + 1 + k = (j + k) + 1 by omega]; simp only [halves]; exact ih _
theorem halves_even (k m : Nat) : halves k (2 ^ k * m) = m := by
  induction k generalizing m with
  | zero => simp [halves]
  | succ k ih => simp only [halves]; rw [show 2 ^ (k + 1) * m = 2 * (2 ^ k * m) by rw [Nat.pow_succ, Nat.mul_comm (2 ^ k) 2, Nat.mul_assoc], half_even, ih]
theorem half_lt {n : Nat} (h : n < 4294967296) : half n < 4294967296 := by
  unfold half
  split
  · exact Nat.xor_lt_two_pow (n := 32) (by omega) (by decide)
  · omega
theorem halves_lt (k : Nat) {n : Nat} (h : n < 4294967296) : halves k n < 4294967296 := by
  induction k generalizing n with
  | zero => exact h
  | succ k ih => exact ih (half_lt h)
theorem half_eq_zero {n : Nat} (h : n < 4294967296) (h0 : half n = 0) : n = 0 := by
  unfold half at h0
  split at h0
  · have : n / 2 = poly := by
      have e : n / 2 ^^^ poly ^^^ poly = 0 ^^^ poly := by rw [h0]
      rw [Nat.xor_assoc, Nat.xor_self, Nat.xor_zero, Nat.zero_xor] at e
      exact e
    unfold poly at this
    omega
  · omega
theorem halves_eq_zero (k : Nat) {n : Nat} (h : n < 4294967296) (h0 : halves k n = 0) : n = 0 := by
  induction k generalizing n with
  | zero => exact h0
  | succ k ih => exact half_eq_zero h (ih (half_lt h) h0)
theorem xor_eq_zero {a b : Nat} (h : a ^^^ b = 0) : a = b := by
  have e : a ^^^ b ^^^ b = 0 ^^^ b := by rw [h]
  rwa [Nat.xor_assoc, Nat.xor_self, Nat.xor_zero, Nat.zero_xor] at e
theorem halves_inj (k : Nat) {a b : Nat} (ha : a < 4294967296) (hb : b < 4294967296) (h : halves k a = halves k b) : a = b := by
  apply xor_eq_zero
  apply halves_eq_zero k (Nat.xor_lt_two_pow (n := 32) ha hb)
  rw [halves_xor, h, Nat.xor_self]

theorem add_xor (k a m : Nat) (ha : a < 2 ^ k) : a + 2 ^ k * m = 2 ^ k * m ^^^ a := by
  rw [Nat.add_comm]
  apply Nat.eq_of_testBit_eq
  intro i
  rw [Nat.testBit_xor, Nat.testBit_two_pow_mul_add _ ha, Nat.testBit_two_pow_mul]
  by_cases h : i < k
  · have h' : ¬ i ≥ k := by omega
    simp [h, h']
  · have h' : i ≥ k := by omega
    have : a.testBit i = false := Nat.testBit_lt_two_pow (Nat.lt_of_lt_of_le ha (Nat.pow_le_pow_right (by omega) (by omega)))
    simp [h, h', this]

/-- A half byte off: four halvings are a shift and a look. -/
theorem nibble (n : Nat) : halves 4 n = (n / 16) ^^^ halves 4 (n % 16) := by
  have h := add_xor 4 (n % 16) (n / 16) (by omega)
  have e : n % 16 + 2 ^ 4 * (n / 16) = n := by omega
  rw [e] at h
  rw [h, halves_xor, halves_even, ← h]
theorem eight (n : Nat) : halves 8 n = halves 4 (halves 4 n) := halves_add 4 4 n

theorem run_le (c : Nat) (l : List UInt8) : run c l = halves (8 * l.length) (c ^^^ le l) := by
  induction l generalizing c with
  | nil => rw [show le [] = 0 from rfl, Nat.xor_zero, show 8 * ([] : List UInt8).length = 0 from rfl]; rfl
  | cons a l ih =>
    have ha : a.toNat < 2 ^ 8 := a.toNat_lt
    have h := add_xor 8 a.toNat (le l) ha
    have e1 : run c (a :: l) = run (halves 8 (c ^^^ a.toNat)) l := run_cons _ _ _
    have e2 : le (a :: l) = 2 ^ 8 * le l ^^^ a.toNat := h
    have e3 : c ^^^ (2 ^ 8 * le l ^^^ a.toNat) = (c ^^^ a.toNat) ^^^ 2 ^ 8 * le l := by
      rw [Nat.xor_comm (2 ^ 8 * le l), ← Nat.xor_assoc]
    have e4 : 8 * (a :: l).length = 8 + 8 * l.length := by rw [List.length_cons]; omega
    rw [e1, ih, e2, e3, e4, halves_add 8 (8 * l.length), halves_xor 8 (c ^^^ a.toNat), halves_even 8]
theorem run_append (c : Nat) (l m : List UInt8) : run c (l ++ m) = run (run c l) m := by
  induction l generalizing c with
  | nil => rfl
  | cons a l ih => rw [List.cons_append, run_cons, run_cons]; exact ih _
theorem run_lt {c : Nat} (h : c < 4294967296) (l : List UInt8) : run c l < 4294967296 := by
  induction l generalizing c with
  | nil => rw [run_nil]; exact h
  | cons a l ih => rw [run_cons]; exact ih (halves_lt 8 (Nat.xor_lt_two_pow (n := 32) h (by have := a.toNat_lt; omega)))
theorem sum_lt (l : List UInt8) : sum l < 4294967296 := Nat.xor_lt_two_pow (n := 32) (run_lt (by decide) l) (by decide)

/-- The four bytes of a number. -/
def bytes4 (n : Nat) : List UInt8 := [UInt8.ofNat (n % 256), UInt8.ofNat (n / 256 % 256), UInt8.ofNat (n / 65536 % 256), UInt8.ofNat (n / 16777216 % 256)]
theorem toNat_ofNat {m : Nat} (h : m < 256) : (UInt8.ofNat m).toNat = m := by simp [Nat.mod_eq_of_lt h]
theorem le_bytes4 {n : Nat} (h : n < 4294967296) : le (bytes4 n) = n := by
  unfold bytes4
  simp only [le]
  rw [toNat_ofNat (by omega), toNat_ofNat (by omega), toNat_ofNat (by omega), toNat_ofNat (by omega)]
  omega
theorem bytes4_le (a b c d : UInt8) : bytes4 (le [a, b, c, d]) = [a, b, c, d] := by
  have ha := a.toNat_lt; have hb := b.toNat_lt; have hc := c.toNat_lt; have hd := d.toNat_lt
  unfold bytes4
  simp only [le]
  rw [show (a.toNat + 256 * (b.toNat + 256 * (c.toNat + 256 * (d.toNat + 256 * 0)))) % 256 = a.toNat by omega,
    show (a.toNat + 256 * (b.toNat + 256 * (c.toNat + 256 * (d.toNat + 256 * 0)))) / 256 % 256 = b.toNat by omega,
    show (a.toNat + 256 * (b.toNat + 256 * (c.toNat + 256 * (d.toNat + 256 * 0)))) / 65536 % 256 = c.toNat by omega,
    show (a.toNat + 256 * (b.toNat + 256 * (c.toNat + 256 * (d.toNat + 256 * 0)))) / 16777216 % 256 = d.toNat by omega]
  simp
theorem le_lt (l : List UInt8) : le l < 256 ^ l.length := by
  induction l with
  | nil => simp [le]
  | cons a l ih =>
    have := a.toNat_lt
    simp only [le, List.length_cons, Nat.pow_succ]
    omega

def tail (s : List UInt8) : List UInt8 := bytes4 (sum s)
def put (s : List UInt8) : List UInt8 := s ++ tail s
theorem tail_length (s : List UInt8) : (tail s).length = 4 := rfl
theorem put_length (s : List UInt8) : (put s).length = s.length + 4 := by simp [put, tail_length]
def rest : Nat := halves 32 ones
/-- Whose last four bytes are the sum of those ahead of them: what bytes behind their own sum come to. -/
theorem run_behind (s m : List UInt8) (hm : m.length = 4) : run ones (s ++ m) = rest ↔ m = tail s := by
  match m, hm with
  | [a, b, c, d], _ =>
    have hl : le [a, b, c, d] < 4294967296 := by
      have ha := a.toNat_lt; have hb := b.toNat_lt; have hc := c.toNat_lt; have hd := d.toNat_lt
      simp only [le]; omega
    have hr := run_lt (c := ones) (by decide) s
    rw [run_append, run_le, show 8 * [a, b, c, d].length = 32 from rfl, show rest = halves 32 ones from rfl]
    constructor
    · intro h
      have e := halves_inj 32 (Nat.xor_lt_two_pow (n := 32) hr hl) (by decide) h
      unfold tail sum
      have : run ones s ^^^ ones = le [a, b, c, d] := by
        generalize run ones s = q at e
        rw [← e, ← Nat.xor_assoc, Nat.xor_self, Nat.zero_xor]
      rw [this, bytes4_le]
    · intro h
      rw [h]; unfold tail; rw [le_bytes4 (sum_lt s)]; unfold sum
      rw [← Nat.xor_assoc, Nat.xor_self, Nat.zero_xor]
theorem sum_put (s : List UInt8) : sum (put s) = rest ^^^ ones := by
  unfold sum put
  rw [(run_behind s (tail s) (tail_length s)).2 rfl]
theorem sum_last (s : List UInt8) (a b : UInt8) (h : sum (s ++ [a]) = sum (s ++ [b])) : a = b := by
  have hr := run_lt (c := ones) (by decide) s
  have ha := a.toNat_lt; have hb := b.toNat_lt
  unfold sum at h
  have h1 : run ones (s ++ [a]) = run ones (s ++ [b]) := by
    have e : run ones (s ++ [a]) ^^^ ones ^^^ ones = run ones (s ++ [b]) ^^^ ones ^^^ ones := by rw [h]
    rwa [Nat.xor_assoc, Nat.xor_assoc, Nat.xor_self, Nat.xor_zero, Nat.xor_zero] at e
  rw [run_append, run_append] at h1
  simp only [run_cons, run_nil] at h1
  have h2 := halves_inj 8 (Nat.xor_lt_two_pow (n := 32) hr (by omega)) (Nat.xor_lt_two_pow (n := 32) hr (by omega)) h1
  have h3 : a.toNat = b.toNat := by
    have e : run ones s ^^^ (run ones s ^^^ a.toNat) = run ones s ^^^ (run ones s ^^^ b.toNat) := by rw [h2]
    rwa [← Nat.xor_assoc, ← Nat.xor_assoc, Nat.xor_self, Nat.zero_xor, Nat.zero_xor] at e
  exact UInt8.toNat_inj.mp h3

theorem le_xor (l m : List UInt8) (h : l.length = m.length) : le (List.zipWith (· ^^^ ·) l m) = le l ^^^ le m := by
  induction l generalizing m with
  | nil => cases m with
    | nil => rfl
    | cons b m => simp at h
  | cons a l ih => cases m with
    | nil => simp at h
    | cons b m =>
      have ha : a.toNat < 2 ^ 8 := a.toNat_lt
      have hb : b.toNat < 2 ^ 8 := b.toNat_lt
      have hab : a.toNat ^^^ b.toNat < 2 ^ 8 := Nat.xor_lt_two_pow ha hb
      simp only [List.zipWith_cons_cons, le]
      rw [ih m (by simpa using h), UInt8.toNat_xor, show (256 : Nat) = 2 ^ 8 by rfl, add_xor 8 _ _ hab, add_xor 8 _ _ ha, add_xor 8 _ _ hb]
      have : 2 ^ 8 * (le l ^^^ le m) = 2 ^ 8 * le l ^^^ 2 ^ 8 * le m := by
        simp only [← Nat.shiftLeft_eq', Nat.mul_comm (2 ^ 8), ← Nat.shiftLeft_eq]
        exact Nat.shiftLeft_xor_distrib
      rw [this]
      simp only [Nat.xor_assoc]
      congr 1
      rw [← Nat.xor_assoc (2 ^ 8 * le m), Nat.xor_comm (2 ^ 8 * le m), Nat.xor_assoc]
theorem sum_mix (l m n : List UInt8) (h1 : l.length = m.length) (h2 : l.length = n.length) :
    sum l ^^^ sum m ^^^ sum n = sum (List.zipWith (· ^^^ ·) (List.zipWith (· ^^^ ·) l m) n) := by
  have hz : (List.zipWith (· ^^^ ·) l m).length = l.length := by simp [h1]
  have hz2 : (List.zipWith (· ^^^ ·) (List.zipWith (· ^^^ ·) l m) n).length = l.length := by simp [← h1, ← h2]
  unfold sum
  rw [run_le, run_le, run_le, run_le, hz2, ← h1, ← h2, le_xor _ n (by rw [hz, h2]), le_xor l m h1]
  simp only [halves_xor]
  generalize halves (8 * l.length) ones = o
  generalize halves (8 * l.length) (le l) = x
  generalize halves (8 * l.length) (le m) = y
  generalize halves (8 * l.length) (le n) = z
  apply Nat.eq_of_testBit_eq
  intro i
  simp only [Nat.testBit_xor]
  cases o.testBit i <;> cases x.testBit i <;> cases y.testBit i <;> cases z.testBit i <;> cases ones.testBit i <;> rfl

/-- One byte turned by x. -/
theorem le_set (l : List UInt8) (j : Nat) (x : UInt8) (b : UInt8) (hb : l[j]? = some b) : le (l.set j (b ^^^ x)) = le l ^^^ (x.toNat * 256 ^ j) := by
  induction l generalizing j with
  | nil => simp at hb
  | cons a l ih =>
    have hx : x.toNat < 2 ^ 8 := x.toNat_lt
    have ha : a.toNat < 2 ^ 8 := a.toNat_lt
    cases j with
    | zero =>
      simp at hb; subst hb
      have hab : a.toNat ^^^ x.toNat < 2 ^ 8 := Nat.xor_lt_two_pow ha hx
      simp only [List.set_cons_zero, le, UInt8.toNat_xor]
      rw [show (256 : Nat) = 2 ^ 8 by rfl, add_xor 8 _ _ hab, add_xor 8 _ _ ha, Nat.xor_assoc]
      simp
    | succ j =>
      have hb' : l[j]? = some b := by simpa using hb
      simp only [List.set_cons_succ, le]
      rw [ih j hb', show (256 : Nat) = 2 ^ 8 by rfl, add_xor 8 _ _ ha, add_xor 8 _ _ ha]
      have : 2 ^ 8 * (le l ^^^ x.toNat * (2 ^ 8) ^ j) = 2 ^ 8 * le l ^^^ x.toNat * (2 ^ 8) ^ (j + 1) := by
        rw [show x.toNat * (2 ^ 8) ^ (j + 1) = 2 ^ 8 * (x.toNat * (2 ^ 8) ^ j) by rw [Nat.pow_succ, ← Nat.mul_assoc, Nat.mul_comm]]
        simp only [Nat.mul_comm (2 ^ 8), ← Nat.shiftLeft_eq]
        exact Nat.shiftLeft_xor_distrib
      rw [this, Nat.xor_assoc, Nat.xor_assoc, Nat.xor_comm a.toNat]
/-- With up to 32 bits side by side turned the state behind all is another one. -/
theorem run_burst (l m : List UInt8) (hl : m.length = l.length) (k Y : Nat) (hk : k ≤ 8 * l.length) (hY : Y < 4294967296) (hm : le m = le l ^^^ 2 ^ k * Y) (h : run ones m = run ones l) : Y = 0 := by
  rw [run_le, run_le, hl, hm, ← Nat.xor_assoc, halves_xor _ (ones ^^^ le l)] at h
  have h0 : halves (8 * l.length) (2 ^ k * Y) = 0 := by
    generalize halves (8 * l.length) (ones ^^^ le l) = q at h
    have e : q ^^^ (q ^^^ halves (8 * l.length) (2 ^ k * Y)) = q ^^^ q := by rw [h]
    rwa [← Nat.xor_assoc, Nat.xor_self, Nat.zero_xor] at e
  rw [show 8 * l.length = k + (8 * l.length - k) by omega, halves_add, halves_even] at h0
  exact halves_eq_zero _ hY h0

theorem sum_none : sum [] = 0 := by decide
set_option maxRecDepth 10000 in
theorem sum_nine : sum [49, 50, 51, 52, 53, 54, 55, 56, 57] = 3808858755 := by decide

end Go.Proofs.Ytmjmlccdgdakdaa.Cm
