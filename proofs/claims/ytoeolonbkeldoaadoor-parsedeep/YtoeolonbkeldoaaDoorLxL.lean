/- Words of a program, by lists of bytes (7.1, 7.2), with no program in sight. -/
import Derived.WalkKit
namespace Go.Proofs.YtoeolonbkeldoaaDoor.Lx
set_option linter.unusedVariables false
def digit (c : UInt8) : Bool := decide (48 ≤ c.toNat) && decide (c.toNat ≤ 57)
def letter (c : UInt8) : Bool := (decide (97 ≤ c.toNat) && decide (c.toNat ≤ 122)) || (decide (65 ≤ c.toNat) && decide (c.toNat ≤ 90)) || decide (c.toNat = 95) || decide (c.toNat = 36)
def ofName (c : UInt8) : Bool := letter c || digit c
def blank (c : UInt8) : Bool := decide (c.toNat = 9) || decide (c.toNat = 10) || decide (c.toNat = 13) || decide (c.toNat = 32)
/-- How many bytes at the front are such ones. -/
def hd (p : UInt8 → Bool) : List UInt8 → Nat
  | [] => 0
  | c :: l => if p c then hd p l + 1 else 0
theorem hd_le (p : UInt8 → Bool) : ∀ l, hd p l ≤ l.length
  | [] => Nat.le_refl _
  | c :: l => by
    have := hd_le p l
    unfold hd
    split <;> simp <;> omega
/-- Within what is ahead all are such ones. -/
theorem hd_all (p : UInt8 → Bool) : ∀ (l : List UInt8) (i : Nat) (h : i < l.length), i < hd p l → p l[i] = true
  | [], i, h, _ => by simp at h
  | c :: l, 0, h, h1 => by
    unfold hd at h1
    split at h1
    · assumption
    · omega
  | c :: l, i + 1, h, h1 => by
    unfold hd at h1
    split at h1
    · exact hd_all p l i (by simpa using h) (by omega)
    · omega
theorem hd_stop (p : UInt8 → Bool) : ∀ (l : List UInt8) (h : hd p l < l.length), p l[hd p l] = false
  | [], h => by simp at h
  | c :: l, h => by
    by_cases hc : p c = true
    · have e : hd p (c :: l) = hd p l + 1 := by rw [hd, if_pos hc]
      have h' : hd p l < l.length := by rw [e] at h; simpa using h
      have := hd_stop p l h'
      simp only [e, List.getElem_cons_succ]
      exact this
    · have e : hd p (c :: l) = 0 := by rw [hd, if_neg hc]
      simp only [e, List.getElem_cons_zero]
      simpa using hc
/-- What is so of all ahead of i, and not at i, is how many there are. -/
theorem hd_eq (p : UInt8 → Bool) (l : List UInt8) (i : Nat) (hi : i ≤ l.length) (h1 : ∀ j (h : j < l.length), j < i → p l[j] = true) (h2 : ∀ (h : i < l.length), p l[i] = false) : hd p l = i := by
  rcases Nat.lt_trichotomy (hd p l) i with h | h | h
  · have hs := hd_stop p l (by omega)
    have := h1 (hd p l) (by omega) h
    rw [hs] at this; cases this
  · exact h
  · have hl : i < l.length := Nat.lt_of_lt_of_le h (hd_le p l)
    have := hd_all p l i hl h
    rw [h2 hl] at this; cases this
/-- Behind blanks and comments: how many bytes, and whether a line ends there; c: within a comment. -/
def blk : Bool → List UInt8 → Nat × Bool
  | _, [] => (0, false)
  | true, c :: l => if c.toNat = 10 then ((blk false l).1 + 1, true) else ((blk true l).1 + 1, (blk true l).2)
  | false, c :: l =>
    if c.toNat = 10 then ((blk false l).1 + 1, true)
    else if c.toNat = 9 ∨ c.toNat = 13 ∨ c.toNat = 32 then ((blk false l).1 + 1, (blk false l).2)
    else if c.toNat = 47 ∧ (l.head?.map (·.toNat)) = some 47 then ((blk true l).1 + 1, (blk true l).2)
    else (0, false)
theorem blk_le : ∀ (c : Bool) (l : List UInt8), (blk c l).1 ≤ l.length
  | c, [] => by cases c <;> simp [blk]
  | true, x :: l => by
    have h1 := blk_le false l; have h2 := blk_le true l
    unfold blk; split <;> simp <;> omega
  | false, x :: l => by
    have h1 := blk_le false l; have h2 := blk_le true l
    unfold blk
    split
    · simp; omega
    · split
      · simp; omega
      · split
        · simp; omega
        · simp
/-- The number that digits say. -/
def val (l : List UInt8) : Nat := l.foldl (fun n c => 10 * n + (c.toNat - 48)) 0
theorem foldl_ge : ∀ (l : List UInt8) (n : Nat), n ≤ l.foldl (fun n c => 10 * n + (c.toNat - 48)) n
  | [], n => Nat.le_refl _
  | c :: l, n => by
    have := foldl_ge l (10 * n + (c.toNat - 48))
    simp only [List.foldl_cons]
    omega
theorem val_take (l : List UInt8) (i : Nat) : val (l.take i) ≤ val l := by
  have e : val l = (l.drop i).foldl (fun n c => 10 * n + (c.toNat - 48)) (val (l.take i)) := by
    unfold val
    rw [← List.foldl_append, List.take_append_drop]
  rw [e]
  exact foldl_ge _ _
theorem val_snoc (l : List UInt8) (c : UInt8) : val (l ++ [c]) = 10 * val l + (c.toNat - 48) := by
  unfold val; rw [List.foldl_append]; rfl
/-- A piece of a program: its kind, text, number, and how many bytes it takes. -/
structure Pc where
  k : Nat
  t : List UInt8
  n : Nat
  z : Nat
def pEnd (l : List UInt8) : Option Pc := if l = [] then some ⟨0, [], 0, 0⟩ else none
/-- May digits say a number, and which? -/
def valB (d : List UInt8) : Bool := !d.isEmpty && !(decide ((d.head?.map (·.toNat)) = some 48) && decide (1 < d.length)) && decide (val d ≤ 2147483647)
def beg (p : UInt8 → Bool) (l : List UInt8) : Bool := match l with | [] => false | c :: _ => p c
def pNum (l : List UInt8) : Option Pc :=
  if valB (l.take (hd digit l)) && !beg ofName (l.drop (hd digit l)) then some ⟨1, l.take (hd digit l), val (l.take (hd digit l)), hd digit l⟩ else none
/-- What stands up to the next quote: its bytes, and how many bytes say them, the quote with them. -/
def quo : List UInt8 → Option (List UInt8 × Nat)
  | [] => none
  | [c] => if c.toNat = 34 then some ([], 1) else none
  | c :: d :: l =>
    if c.toNat = 34 then some ([], 1)
    else if c.toNat = 92 then
      if d.toNat = 34 ∨ d.toNat = 92 then (quo l).map fun r => (d :: r.1, r.2 + 2)
      else if d.toNat = 110 then (quo l).map fun r => (10 :: r.1, r.2 + 2)
      else none
    else if 32 ≤ c.toNat ∧ c.toNat ≤ 126 then (quo (d :: l)).map fun r => (c :: r.1, r.2 + 1)
    else none
def pTxt (l : List UInt8) : Option Pc := match l with
  | [] => none
  | c :: l => if c.toNat = 34 then (quo l).map fun r => ⟨2, r.1, 0, r.2 + 1⟩ else none
def words : List (List UInt8) := [[108,101,116],[99,111,110,115,116],[102,117,110,99,116,105,111,110],[114,101,116,117,114,110],[105,102],[101,108,115,101],[119,104,105,108,101],[98,114,101,97,107],[99,111,110,116,105,110,117,101],[116,104,114,111,119],[116,114,121],[99,97,116,99,104],[116,114,117,101],[102,97,108,115,101],[110,117,108,108],[117,110,100,101,102,105,110,101,100],[116,104,105,115],[116,121,112,101,111,102],[121,105,101,108,100]]
def isWord (l : List UInt8) : Bool := words.contains l
def pNam (l : List UInt8) : Option Pc :=
  if beg letter l then some ⟨if isWord (l.take (hd ofName l)) then 4 else 3, l.take (hd ofName l), 0, hd ofName l⟩ else none
def signs : List (List UInt8) := [[123],[125],[40],[41],[91],[93],[59],[44],[46],[63],[58],[61],[61,61,61],[33,61,61],[60],[60,61],[62],[62,61],[43],[45],[42],[47],[37],[33],[38,38],[124,124]]
def isPre (s l : List UInt8) : Bool := decide (s.length ≤ l.length) && decide (l.take s.length = s)
def longer (l a s : List UInt8) : List UInt8 := if a.length < s.length ∧ isPre s l = true then s else a
def sgn (l : List UInt8) : List UInt8 := signs.foldl (longer l) []
def pSgn (l : List UInt8) : Option Pc := if sgn l = [] then none else some ⟨5, sgn l, 0, (sgn l).length⟩
def piece (l : List UInt8) : Option Pc := (pEnd l).or ((pNum l).or ((pTxt l).or ((pNam l).or (pSgn l))))
/-- A token: its kind, text, number, place, whether a line ends ahead, the place behind. -/
structure Tk where
  k : Nat
  t : List UInt8
  n : Nat
  a : Nat
  ln : Bool
  e : Nat
def tokOf (a : Nat) (ln : Bool) : Option Pc → Tk
  | some p => ⟨p.k, p.t, p.n, a, ln, a + p.z⟩
  | none => ⟨6, [], 0, a, ln, a⟩
def tok (l : List UInt8) (p : Nat) : Tk := tokOf (p + (blk false (l.drop p)).1) (blk false (l.drop p)).2 (piece (l.drop (p + (blk false (l.drop p)).1)))
/-- All tokens, from a place on; f: enough. -/
def run (l : List UInt8) : Nat → Nat → List Tk
  | 0, p => [tok l p]
  | f + 1, p => if (tok l p).k = 0 ∨ (tok l p).k = 6 then [tok l p] else tok l p :: run l f (tok l p).e
def all (l : List UInt8) : List Tk := run l (l.length + 1) 0
end Go.Proofs.YtoeolonbkeldoaaDoor.Lx
