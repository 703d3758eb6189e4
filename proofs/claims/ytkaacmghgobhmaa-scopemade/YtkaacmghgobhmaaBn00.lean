/- Texts: LxL LxM PsM ScM LxR. -/
import Derived.WalkKit
section
namespace Go.Proofs.Ytkaacmghgobhmaa.Lx
set_option linter.unusedVariables false
def digit (c : UInt8) : Bool := decide (48 ≤ c.toNat) && decide (c.toNat ≤ 57)
def letter (c : UInt8) : Bool := (decide (97 ≤ c.toNat) && decide (c.toNat ≤ 122)) || (decide (65 ≤ c.toNat) && decide (c.toNat ≤ 90)) || decide (c.toNat = 95) || decide (c.toNat = 36)
def ofName (c : UInt8) : Bool := letter c || digit c
def blank (c : UInt8) : Bool := decide (c.toNat = 9) || decide (c.toNat = 10) || decide (c.toNat = 13) || decide (c.toNat = 32)
/-- How many bytes at the front are such ones. -/
def hd (p : UInt8 → Bool) : List UInt8 → Nat
  | [] => 0
  | c :: l => if p c then hd p l + 1 else 0
theorem hd_le (p : UInt8 → Bool) : ∀ l, hd p l ≤ l.length
  | [] => Nat.le_refl _
  | c :: l => by
    have := hd_le p l
    unfold hd
    split <;> simp <;> omega
/-- Within what is ahead all are such ones. -/
theorem hd_all (p : UInt8 → Bool) : ∀ (l : List UInt8) (i : Nat) (h : i < l.length), i < hd p l → p l[i] = true
  | [], i, h, _ => by simp at h
  | c :: l, 0, h, h1 => by
    unfold hd at h1
    split at h1
    · assumption
    · omega
  | c :: l, i + 1, h, h1 => by
    unfold hd at h1
    split at h1
    · exact hd_all p l i (by simpa using h) (by omega)
    · omega
theorem hd_stop (p : UInt8 → Bool) : ∀ (l : List UInt8) (h : hd p l < l.length), p l[hd p l] = false
  | [], h => by simp at h
  | c :: l, h => by
    by_cases hc : p c = true
    · have e : hd p (c :: l) = hd p l + 1 := by rw [hd, if_pos hc]
      have h' : hd p l < l.length := by rw [e] at h; simpa using h
      have := hd_stop p l h'
      simp only [e, List.getElem_cons_succ]
      exact this
    · have e : hd p (c :: l) = 0 := by rw [hd, if_neg hc]
      simp only [e, List.getElem_cons_zero]
      simpa using hc
/-- What is so of all ahead of i, and not at i, is how many there are. -/
theorem hd_eq (p : UInt8 → Bool) (l : List UInt8) (i : Nat) (hi : i ≤ l.length) (h1 : ∀ j (h : j < l.length), j < i → p l[j] = true) (h2 : ∀ (h : i < l.length), p l[i] = false) : hd p l = i := by
  rcases Nat.lt_trichotomy (hd p l) i with h | h | h
  · have hs := hd_stop p l (by omega)
    have := h1 (hd p l) (by omega) h
    rw [hs] at this; cases this
  · exact h
  · have hl : i < l.length := Nat.lt_of_lt_of_le h (hd_le p l)
    have := hd_all p l i hl h
    rw [h2 hl] at this; cases this
/-- Behind blanks and comments: how many bytes, and whether a line ends there; c: within a comment. -/
def blk : Bool → List UInt8 → Nat × Bool
  | _, [] => (0, false)
  | true, c :: l => if c.toNat = 10 then ((blk false l).1 + 1, true) else ((blk true l).1 + 1, (blk true l).2)
  | false, c :: l =>
    if c.toNat = 10 then ((blk false l).1 + 1, true)
    else if c.toNat = 9 ∨ c.toNat = 13 ∨ c.toNat = 32 then ((blk false l).1 + 1, (blk false l).2)
    else if c.toNat = 47 ∧ (l.head?.map (·.toNat)) = some 47 then ((blk true l).1 + 1, (blk true l).2)
    else (0, false)
theorem blk_le : ∀ (c : Bool) (l : List UInt8), (blk c l).1 ≤ l.length
  | c, [] => by cases c <;> simp [blk]
  | true, x :: l => by
    have h1 := blk_le false l; have h2 := blk_le true l
    unfold blk; split <;> simp <;> omega
  | false, x :: l => by
    have h1 := blk_le false l; have h2 := blk_le true l
    unfold blk
    split
    · simp; omega
    · split
      · simp; omega
      · split
        · simp; omega
        · simp
/-- The number that digits say. -/
def val (l : List UInt8) : Nat := l.foldl (fun n c => 10 * n + (c.toNat - 48)) 0
theorem foldl_ge : ∀ (l : List UInt8) (n : Nat), n ≤ l.foldl (fun n c => 10 * n + (c.toNat - 48)) n
  | [], n => Nat.le_refl _
  | c :: l, n => by
    have := foldl_ge l (10 * n + (c.toNat - 48))
    simp only [List.foldl_cons]
    omega
theorem val_take (l : List UInt8) (i : Nat) : val (l.take i) ≤ val l := by
  have e : val l = (l.drop i).foldl (fun n c => 10 * n + (c.toNat - 48)) (val (l.take i)) := by
    unfold val
    rw [← List.foldl_append, List.take_append_drop]
  rw [e]
  exact foldl_ge _ _
theorem val_snoc (l : List UInt8) (c : UInt8) : val (l ++ [c]) = 10 * val l + (c.toNat - 48) := by
  unfold val; rw [List.foldl_append]; rfl
/-- A piece of a program: its kind, text, number, and how many bytes it takes. -/
structure Pc where
  k : Nat
  t : List UInt8
  n : Nat
  z : Nat
def pEnd (l : List UInt8) : Option Pc := if l = [] then some ⟨0, [], 0, 0⟩ else none
/-- May digits say a number, and which? -/
def valB (d : List UInt8) : Bool := !d.isEmpty && !(decide ((d.head?.map (·.toNat)) = some 48) && decide (1 < d.length)) && decide (val d ≤ 2147483647)
def beg (p : UInt8 → Bool) (l : List UInt8) : Bool := match l with | [] => false | c :: _ => p c
def pNum (l : List UInt8) : Option Pc :=
  if valB (l.take (hd digit l)) && !beg ofName (l.drop (hd digit l)) then some ⟨1, l.take (hd digit l), val (l.take (hd digit l)), hd digit l⟩ else none
/-- What stands up to the next quote: its bytes, and how many bytes say them, the quote with them. -/
def quo : List UInt8 → Option (List UInt8 × Nat)
  | [] => none
  | [c] => if c.toNat = 34 then some ([], 1) else none
  | c :: d :: l =>
    if c.toNat = 34 then some ([], 1)
    else if c.toNat = 92 then
      if d.toNat = 34 ∨ d.toNat = 92 then (quo l).map fun r => (d :: r.1, r.2 + 2)
      else if d.toNat = 110 then (quo l).map fun r => (10 :: r.1, r.2 + 2)
      else none
    else if 32 ≤ c.toNat ∧ c.toNat ≤ 126 then (quo (d :: l)).map fun r => (c :: r.1, r.2 + 1)
    else none
def pTxt (l : List UInt8) : Option Pc := match l with
  | [] => none
  | c :: l => if c.toNat = 34 then (quo l).map fun r => ⟨2, r.1, 0, r.2 + 1⟩ else none
def words : List (List UInt8) := [[108,101,116],[99,111,110,115,116],[102,117,110,99,116,105,111,110],[114,101,116,117,114,110],[105,102],[101,108,115,101],[119,104,105,108,101],[98,114,101,97,107],[99,111,110,116,105,110,117,101],[116,104,114,111,119],[116,114,121],[99,97,116,99,104],[116,114,117,101],[102,97,108,115,101],[110,117,108,108],[117,110,100,101,102,105,110,101,100],[116,104,105,115],[116,121,112,101,111,102],[121,105,101,108,100]]
def isWord (l : List UInt8) : Bool := words.contains l
def pNam (l : List UInt8) : Option Pc :=
  if beg letter l then some ⟨if isWord (l.take (hd ofName l)) then 4 else 3, l.take (hd ofName l), 0, hd ofName l⟩ else none
def signs : List (List UInt8) := [[123],[125],[40],[41],[91],[93],[59],[44],[46],[63],[58],[61],[61,61,61],[33,61,61],[60],[60,61],[62],[62,61],[43],[45],[42],[47],[37],[33],[38,38],[124,124]]
def isPre (s l : List UInt8) : Bool := decide (s.length ≤ l.length) && decide (l.take s.length = s)
def longer (l a s : List UInt8) : List UInt8 := if a.length < s.length ∧ isPre s l = true then s else a
def sgn (l : List UInt8) : List UInt8 := signs.foldl (longer l) []
def pSgn (l : List UInt8) : Option Pc := if sgn l = [] then none else some ⟨5, sgn l, 0, (sgn l).length⟩
def piece (l : List UInt8) : Option Pc := (pEnd l).or ((pNum l).or ((pTxt l).or ((pNam l).or (pSgn l))))
/-- A token: its kind, text, number, place, whether a line ends ahead, the place behind. -/
structure Tk where
  k : Nat
  t : List UInt8
  n : Nat
  a : Nat
  ln : Bool
  e : Nat
def tokOf (a : Nat) (ln : Bool) : Option Pc → Tk
  | some p => ⟨p.k, p.t, p.n, a, ln, a + p.z⟩
  | none => ⟨6, [], 0, a, ln, a⟩
def tok (l : List UInt8) (p : Nat) : Tk := tokOf (p + (blk false (l.drop p)).1) (blk false (l.drop p)).2 (piece (l.drop (p + (blk false (l.drop p)).1)))
/-- All tokens, from a place on; f: enough. -/
def run (l : List UInt8) : Nat → Nat → List Tk
  | 0, p => [tok l p]
  | f + 1, p => if (tok l p).k = 0 ∨ (tok l p).k = 6 then [tok l p] else tok l p :: run l f (tok l p).e
def all (l : List UInt8) : List Tk := run l (l.length + 1) 0
end Go.Proofs.Ytkaacmghgobhmaa.Lx
end
section
namespace Go.Proofs.Ytkaacmghgobhmaa.Lx
set_option linter.unusedVariables false
theorem hd_pos {p : UInt8 → Bool} {l : List UInt8} (h : beg p l = true) : 1 ≤ hd p l := by
  cases l with
  | nil => simp [beg] at h
  | cons c l =>
    have hc : p c = true := h
    unfold hd
    rw [if_pos hc]; omega
theorem beg_or {p q : UInt8 → Bool} {l : List UInt8} (h : beg p l = true) (hpq : ∀ c, p c = true → q c = true) : beg q l = true := by
  cases l with
  | nil => simp [beg] at h
  | cons c l => exact hpq c h
theorem quo_le : ∀ (n : Nat) (l : List UInt8) (r : List UInt8 × Nat), l.length ≤ n → quo l = some r → 1 ≤ r.2 ∧ r.2 ≤ l.length
  | _, [], r, _, h => by simp [quo] at h
  | _, [c], r, _, h => by
    unfold quo at h
    split at h
    · cases h; simp
    · cases h
  | 0, c :: d :: l, r, hn, h => by simp at hn
  | n + 1, c :: d :: l, r, hn, h => by
    simp only [List.length_cons] at hn
    unfold quo at h
    split at h
    · cases h; simp
    · split at h
      · split at h
        · obtain ⟨r', h1, rfl⟩ := Option.map_eq_some_iff.1 h
          have := quo_le n l r' (by omega) h1
          simp; omega
        · split at h
          · obtain ⟨r', h1, rfl⟩ := Option.map_eq_some_iff.1 h
            have := quo_le n l r' (by omega) h1
            simp; omega
          · cases h
      · split at h
        · obtain ⟨r', h1, rfl⟩ := Option.map_eq_some_iff.1 h
          have := quo_le n (d :: l) r' (by simp; omega) h1
          simp at this ⊢; omega
        · cases h
theorem sgn_fold (l : List UInt8) : ∀ (L : List (List UInt8)) (a : List UInt8), (a = [] ∨ isPre a l = true) → (L.foldl (longer l) a = [] ∨ isPre (L.foldl (longer l) a) l = true)
  | [], a, h => h
  | s :: L, a, h => by
    refine sgn_fold l L (longer l a s) ?_
    unfold longer
    split
    · rename_i h1; exact .inr h1.2
    · exact h
theorem sgn_pre (l : List UInt8) : sgn l = [] ∨ isPre (sgn l) l = true := sgn_fold l signs [] (.inl rfl)
theorem isPre_le {s l : List UInt8} (h : isPre s l = true) : s.length ≤ l.length ∧ l.take s.length = s := by
  unfold isPre at h; simpa using h
/-- What a piece is: it lies within; all but the end take a byte at least. -/
theorem piece_ok {l : List UInt8} {q : Pc} (h : piece l = some q) : q.z ≤ l.length ∧ q.k ≤ 5 ∧ (q.k = 0 → l = []) ∧ (q.k ≠ 0 → 1 ≤ q.z) := by
  unfold piece at h
  rw [Option.or_eq_some_iff] at h
  rcases h with h | ⟨_, h⟩
  · unfold pEnd at h
    split at h
    · cases h; rename_i e; simp [e]
    · cases h
  rw [Option.or_eq_some_iff] at h
  rcases h with h | ⟨_, h⟩
  · unfold pNum at h
    split at h
    · cases h
      rename_i e
      have hl := hd_le digit l
      refine ⟨hl, by show 1 ≤ 5; omega, (fun e => by cases e), fun _ => ?_⟩
      rcases Nat.eq_zero_or_pos (hd digit l) with e0 | e0
      · rw [e0] at e; simp [valB] at e
      · exact e0
    · cases h
  rw [Option.or_eq_some_iff] at h
  rcases h with h | ⟨_, h⟩
  · unfold pTxt at h
    split at h
    · cases h
    · split at h
      · obtain ⟨r, h1, rfl⟩ := Option.map_eq_some_iff.1 h
        have := quo_le _ _ _ (Nat.le_refl _) h1
        simp; omega
      · cases h
  rw [Option.or_eq_some_iff] at h
  rcases h with h | ⟨_, h⟩
  · unfold pNam at h
    split at h
    · rename_i e
      have e2 : beg ofName l = true := beg_or e (fun c hc => by unfold ofName; rw [hc]; rfl)
      have := hd_pos e2
      have hl := hd_le ofName l
      cases h
      refine ⟨hl, by show (if _ then 4 else 3) ≤ 5; split <;> omega, (fun e => by revert e; show (if _ then 4 else 3) = 0 → _; split <;> (intro e; cases e)), fun _ => this⟩
    · cases h
  · unfold pSgn at h
    have hp := sgn_pre l
    generalize sgn l = S at *
    split at h
    · cases h
    · rename_i e
      have := (isPre_le (hp.resolve_left e)).1
      have hl : 1 ≤ S.length := List.length_pos_iff.2 e
      obtain rfl := Option.some.inj h
      exact ⟨this, Nat.le_refl _, fun e => absurd (show (5 : Nat) = 0 from e) (by decide), fun _ => hl⟩
theorem tok_ok (l : List UInt8) (p : Nat) (hp : p ≤ l.length) : p ≤ (tok l p).a ∧ (tok l p).a ≤ (tok l p).e ∧ (tok l p).e ≤ l.length ∧ (tok l p).k ≤ 6 ∧ ((tok l p).k ≠ 0 → (tok l p).k ≠ 6 → (tok l p).a < (tok l p).e) ∧ ((tok l p).k = 0 → (tok l p).a = l.length) := by
  have h := blk_le false (l.drop p)
  rw [List.length_drop] at h
  unfold tok
  generalize (blk false (l.drop p)).1 = b at *
  generalize (blk false (l.drop p)).2 = ln at *
  cases hq : piece (l.drop (p + b)) with
  | none =>
    simp only [tokOf]
    refine ⟨by omega, by omega, by omega, by omega, fun _ e => absurd rfl e, fun e => by cases e⟩
  | some q =>
    obtain ⟨h1, h2, h3, h4⟩ := piece_ok hq
    rw [List.length_drop] at h1
    simp only [tokOf]
    refine ⟨by omega, by omega, by omega, by omega, fun e _ => by have := h4 e; omega, fun e => ?_⟩
    have := h3 e
    have := congrArg List.length this
    rw [List.length_drop] at this
    simp at this; omega
/-- More than enough is enough. -/
theorem run_more (l : List UInt8) : ∀ (f g p : Nat), p ≤ l.length → l.length < p + f → l.length < p + g → run l f p = run l g p
  | 0, g, p, hp, hf, hg => by omega
  | f + 1, 0, p, hp, hf, hg => by omega
  | f + 1, g + 1, p, hp, hf, hg => by
    unfold run
    split
    · rfl
    · rename_i h
      have := tok_ok l p hp
      have h5 := this.2.2.2.2.1 (fun e => h (.inl e)) (fun e => h (.inr e))
      rw [run_more l f g _ (by omega) (by omega) (by omega)]
theorem all_step (l : List UInt8) (p : Nat) (hp : p ≤ l.length) : run l (l.length + 1) p = if (tok l p).k = 0 ∨ (tok l p).k = 6 then [tok l p] else tok l p :: run l (l.length + 1) (tok l p).e := by
  show (if _ then _ else _) = _
  split
  · rfl
  · rename_i h
    have := tok_ok l p hp
    have h5 := this.2.2.2.2.1 (fun e => h (.inl e)) (fun e => h (.inr e))
    rw [run_more l l.length (l.length + 1) _ (by omega) (by omega) (by omega)]
end Go.Proofs.Ytkaacmghgobhmaa.Lx
end
section
namespace Go.Proofs.Ytkaacmghgobhmaa.Ps
open Lx
set_option linter.unusedVariables false
/-- A node: kind, number, text, names, kids, place. -/
structure Nd where
  k : Nat := 0
  n : Nat := 0
  t : List UInt8 := []
  names : List (List UInt8) := []
  kids : List Nat := []
  a : Nat := 0
  deriving DecidableEq
/-- Where a reader is: tokens ahead, nodes behind, whether it failed, and where. -/
structure St where
  toks : List Tk
  nodes : List Nd
  failed : Bool
  at_ : Nat
abbrev M (α : Type) := St → α × St
def bad : Tk := ⟨6, [], 0, 0, false, 0⟩
def nxt (s : St) : Tk := s.toks.headD bad
def mark (s : St) : List UInt8 := if (nxt s).k = 4 ∨ (nxt s).k = 5 then (nxt s).t else []
def skip : M Tk := fun s => (nxt s, if 1 < s.toks.length then { s with toks := s.toks.tail } else s)
def take (m : List UInt8) : M Bool := fun s => if mark s = m then (true, (skip s).2) else (false, s)
def add (n : Nd) : M Nat := fun s => (s.nodes.length, { s with nodes := s.nodes ++ [n] })
def fail : M Nat := fun s => add {} (if s.failed then s else { s with failed := true, at_ := (nxt s).a, toks := [bad] })
def want (m : List UInt8) : M Unit := fun s => match take m s with
  | (true, s) => ((), s)
  | (false, s) => ((), (fail s).2)
def textOf (kinds : List Nat) : M (List UInt8) := fun s => if (nxt s).k ∈ kinds then ((nxt s).t, (skip s).2) else ([], (fail s).2)
def name : M (List UInt8) := textOf [3]
def over (n : Nd) (kids : List Nat) : M Nat := fun s => add { n with kids := kids, a := (s.nodes.getD (kids.headD 0) {}).a } s
/-- Items with a comma between, up to what ends them. -/
def itemsLoop {α : Type} (item : M α) : Nat → List α → M (List α)
  | 0, l => fun s => (l, s)
  | f + 1, l => fun s => match take [44] s with
    | (false, s) => (l, s)
    | (true, s) => itemsLoop item f (l ++ [(item s).1]) (item s).2
def items {α : Type} (behind : List UInt8) (item : M α) : M (List α) := fun s => match take behind s with
  | (true, s) => ([], s)
  | (false, s) =>
    let r := itemsLoop item (item s).2.toks.length [(item s).1] (item s).2
    (r.1, (want behind r.2).2)
/-- Parts with signs of one level between. -/
def chainLoop (lv : List UInt8 → Option Nd) (sub : M Nat) : Nat → Nat → M Nat
  | 0, left => fun s => (left, s)
  | f + 1, left => fun s => match lv (mark s) with
    | none => (left, s)
    | some n =>
      let r := sub (skip s).2
      let o := over n [left, r.1] r.2
      chainLoop lv sub f o.1 o.2
def chain (part : M Nat) : List (List UInt8 → Option Nd) → M Nat
  | [] => part
  | lv :: row => fun s =>
    let r := chain part row s
    chainLoop lv (chain part row) r.2.toks.length r.1 r.2
def logic (sign : List UInt8) (k : Nat) : List UInt8 → Option Nd := fun m => if m = sign then some { k := k } else none
def binary (l : List (List UInt8)) : List UInt8 → Option Nd := fun m => if m ∈ l then some { k := 15, t := m } else none
def logics : List (List UInt8 → Option Nd) := [logic [124, 124] 17, logic [38, 38] 16]
def binaries : List (List UInt8 → Option Nd) := [binary [[61, 61, 61], [33, 61, 61]], binary [[60], [60, 61], [62], [62, 61]], binary [[43], [45]], binary [[42], [47], [37]]]
/-- What may lie within: an e, a u, a p, a statement. -/
structure Lv where
  e : M Nat
  u : M Nat
  p : M Nat
  s : M Nat
def isTarget (k : Nat) : Bool := k == 3 || k == 11 || k == 12
def choice (L : Lv) : M Nat := fun s =>
  let f := chain (chain L.u binaries) logics s
  match take [63] f.2 with
  | (false, s) => (f.1, s)
  | (true, s) =>
    let y := L.e s
    let w := want [58] y.2
    let z := L.e w.2
    over { k := 18 } [f.1, y.1, z.1] z.2
def anyExpr (L : Lv) : M Nat := fun s =>
  match take [121, 105, 101, 108, 100] s with
  | (true, s') => let r := L.e s'; add { k := 20, a := (nxt s).a, kids := [r.1] } r.2
  | (false, s') =>
    let t := choice L s'
    if isTarget (t.2.nodes.getD t.1 {}).k then
      match take [61] t.2 with
      | (false, s) => (t.1, s)
      | (true, s) => let r := L.e s; over { k := 19 } [t.1, r.1] r.2
    else t
def anyUnary (L : Lv) : M Nat := fun s =>
  if mark s = [33] ∨ mark s = [45] ∨ mark s = [116, 121, 112, 101, 111, 102] then
    let x := skip s
    let r := L.u x.2
    add { k := 14, t := x.1.t, a := x.1.a, kids := [r.1] } r.2
  else L.p s
def leaf (n : Nd) : M Nat := fun s => let x := skip s; add { n with a := x.1.a } x.2
def inParens (L : Lv) : M Nat := fun s =>
  let r := L.e (want [40] s).2
  (r.1, (want [41] r.2).2)
def closes (s : St) : Bool := decide (mark s = [125]) || decide ((nxt s).k = 0)
def statementsLoop (L : Lv) : Nat → List Nat → M (List Nat)
  | 0, l => fun s => (l, s)
  | f + 1, l => fun s => if !s.failed && !closes s then let r := L.s s; statementsLoop L f (l ++ [r.1]) r.2 else (l, s)
def statements (L : Lv) : M (List Nat) := fun s => statementsLoop L (s.toks.length + 1) [] s
def body (L : Lv) : M (List Nat) := fun s =>
  let r := statements L (want [123] s).2
  (r.1, (want [125] r.2).2)
def func (L : Lv) (named : Bool) : M Nat := fun s =>
  let x := skip s
  let g := take [42] x.2
  let nm := if named || (nxt g.2).k = 3 then name g.2 else ([], g.2)
  let ps := items [41] name (want [40] nm.2).2
  let b := body L ps.2
  add { k := 10, n := if g.1 then 1 else 0, t := nm.1, names := ps.1, kids := b.1, a := x.1.a } b.2
def pair (L : Lv) : M (List UInt8 × Nat) := fun s =>
  let n := textOf [3, 4, 2] s
  let r := L.e (want [58] n.2).2
  ((n.1, r.1), r.2)
def alone (L : Lv) : M Nat := fun s =>
  let x := nxt s
  if x.k = 1 then leaf { k := 1, n := x.n } s
  else if x.k = 2 then leaf { k := 2, t := x.t } s
  else if x.k = 3 then leaf { k := 3, t := x.t } s
  else
    let m := mark s
    if m = [116, 114, 117, 101] then leaf { k := 4, n := 1 } s
    else if m = [102, 97, 108, 115, 101] then leaf { k := 4 } s
    else if m = [110, 117, 108, 108] then leaf { k := 5 } s
    else if m = [117, 110, 100, 101, 102, 105, 110, 101, 100] then leaf { k := 6 } s
    else if m = [116, 104, 105, 115] then leaf { k := 7 } s
    else if m = [40] then inParens L s
    else if m = [91] then
      let x := skip s
      let l := items [93] L.e x.2
      add { k := 9, a := x.1.a, kids := l.1 } l.2
    else if m = [123] then
      let x := skip s
      let l := items [125] (pair L) x.2
      add { k := 8, a := x.1.a, names := l.1.map (·.1), kids := l.1.map (·.2) } l.2
    else if m = [102, 117, 110, 99, 116, 105, 111, 110] then func L false s
    else fail s
def primaryLoop (L : Lv) : Nat → Nat → M Nat
  | 0, p => fun s => (p, s)
  | f + 1, p => fun s => match take [46] s with
    | (true, s) =>
      let t := textOf [3, 4] s
      let o := over { k := 11, t := t.1 } [p] t.2
      primaryLoop L f o.1 o.2
    | (false, s) => match take [91] s with
      | (true, s) =>
        let w := L.e s
        let o := over { k := 12 } [p, w.1] (want [93] w.2).2
        primaryLoop L f o.1 o.2
      | (false, s) => match take [40] s with
        | (true, s) =>
          let w := items [41] L.e s
          let o := over { k := 13 } (p :: w.1) w.2
          primaryLoop L f o.1 o.2
        | (false, s) => (p, s)
def primary (L : Lv) : M Nat := fun s =>
  let p := alone L s
  primaryLoop L p.2.toks.length p.1 p.2
def endS : M Unit := fun s => match take [59] s with
  | (true, s) => ((), s)
  | (false, s) => if !closes s && !(nxt s).ln then ((), (fail s).2) else ((), s)
def block (L : Lv) : M Nat := fun s => let b := body L s; add { k := 25, a := (nxt s).a, kids := b.1 } b.2
def inner (L : Lv) : M Nat := fun s =>
  if mark s = [108, 101, 116] ∨ mark s = [99, 111, 110, 115, 116] ∨ mark s = [102, 117, 110, 99, 116, 105, 111, 110] then fail s else L.s s
def ifS (L : Lv) : M Nat := fun s =>
  let x := skip s
  let c := inParens L x.2
  let y := inner L c.2
  match take [101, 108, 115, 101] y.2 with
  | (true, s) => let z := inner L s; add { k := 26, a := x.1.a, kids := [c.1, y.1, z.1] } z.2
  | (false, s) => add { k := 26, a := x.1.a, kids := [c.1, y.1] } s
def whileS (L : Lv) : M Nat := fun s =>
  let x := skip s
  let c := inParens L x.2
  let y := inner L c.2
  add { k := 27, a := x.1.a, kids := [c.1, y.1] } y.2
def jump (k : Nat) : M Nat := fun s => let x := skip s; add { k := k, a := x.1.a } (endS x.2).2
def returnS (L : Lv) : M Nat := fun s =>
  let x := skip s
  if !(nxt x.2).ln && !decide (mark x.2 = [59]) && !closes x.2 then
    let r := L.e x.2
    add { k := 30, a := x.1.a, kids := [r.1] } (endS r.2).2
  else add { k := 30, a := x.1.a } (endS x.2).2
def throwS (L : Lv) : M Nat := fun s =>
  let x := skip s
  if (nxt x.2).ln then fail x.2
  else
    let r := L.e x.2
    add { k := 31, a := x.1.a, kids := [r.1] } (endS r.2).2
def tryS (L : Lv) : M Nat := fun s =>
  let x := skip s
  let f := block L x.2
  let n := name (want [40] (want [99, 97, 116, 99, 104] f.2).2).2
  let g := block L (want [41] n.2).2
  add { k := 32, t := n.1, a := x.1.a, kids := [f.1, g.1] } g.2
def binding (L : Lv) (k : Nat) : M Nat := fun s =>
  let x := skip s
  let n := name x.2
  let r := L.e (want [61] n.2).2
  add { k := k, t := n.1, a := x.1.a, kids := [r.1] } (endS r.2).2
def definition (L : Lv) : M Nat := fun s => let f := func L true s; add { k := 23, a := (nxt s).a, kids := [f.1] } f.2
def exprS (L : Lv) : M Nat := fun s => let r := L.e s; over { k := 24 } [r.1] (endS r.2).2
def anyStatement (L : Lv) : M Nat := fun s =>
  let m := mark s
  if m = [123] then block L s
  else if m = [105, 102] then ifS L s
  else if m = [119, 104, 105, 108, 101] then whileS L s
  else if m = [98, 114, 101, 97, 107] then jump 28 s
  else if m = [99, 111, 110, 116, 105, 110, 117, 101] then jump 29 s
  else if m = [114, 101, 116, 117, 114, 110] then returnS L s
  else if m = [116, 104, 114, 111, 119] then throwS L s
  else if m = [116, 114, 121] then tryS L s
  else if m = [108, 101, 116] then binding L 21 s
  else if m = [99, 111, 110, 115, 116] then binding L 22 s
  else if m = [102, 117, 110, 99, 116, 105, 111, 110] then definition L s
  else exprS L s
/-- So many parts may yet lie within one another. -/
def lv : Nat → Lv
  | 0 => ⟨fail, fail, fail, fail⟩
  | d + 1 => ⟨anyExpr (lv d), anyUnary (lv d), primary (lv d), anyStatement (lv d)⟩
/-- A program's tree, or where there is no program any more. -/
def parse (src : List UInt8) : List Nd × Nat × Bool :=
  if 4096 < src.length then ([], 0, false)
  else
    let r := statements (lv 40) ⟨Lx.all src, [], false, 0⟩
    let s := if (nxt r.2).k = 0 then r.2 else (fail r.2).2
    let s := (add { k := 33, kids := r.1 } s).2
    if s.failed then ([], s.at_, false) else (s.nodes, 0, true)
end Go.Proofs.Ytkaacmghgobhmaa.Ps
end
section
namespace Go.Proofs.Ytkaacmghgobhmaa.Sc
open Ps (Nd)
set_option linter.unusedVariables false
/-- A scope: the number of the one around it, or -1, and its names. -/
structure Sp where
  around : Int
  names : List (List UInt8)
/-- What the finder has found. -/
structure Fs where
  scopes : List Sp
  inn : List Int
  own : List Int
/-- A kid of a node, if it stands ahead of it. -/
def kid (l : List Nd) (a p : Nat) : Option Nat :=
  match (l[a]?).bind (fun n => n.kids[p]?) with
  | some k => if k < a then some k else none
  | none => none
/-- The name that a statement makes. -/
def makes (l : List Nd) (a : Nat) : Option (List UInt8) :=
  match l[a]? with
  | none => none
  | some n => if n.k = 21 ∨ n.k = 22 then some n.t else if n.k = 23 then (kid l a 0).bind fun f => (l[f]?).map (fun m => m.t) else none
/-- One kid's name, if it makes one. -/
def one (l : List Nd) (a p : Nat) : Option (List UInt8) := (kid l a p).bind (makes l)
/-- The names that the kids from p on make. -/
def madeFrom (l : List Nd) (a : Nat) : Nat → Nat → List (List UInt8)
  | _, 0 => []
  | p, n + 1 => (one l a p).toList ++ madeFrom l a (p + 1) n
def kidsOf (l : List Nd) (a : Nat) : Nat := ((l[a]?).map (fun n => n.kids.length)).getD 0
def made (l : List Nd) (a : Nat) : List (List UInt8) := madeFrom l a 0 (kidsOf l a)
def openS (l : List Nd) (a : Nat) (ahead : List (List UInt8)) (s : Fs) : Fs :=
  { s with scopes := s.scopes ++ [⟨s.inn.getD a 0, ahead ++ made l a⟩], own := s.own.set a (s.scopes.length : Int) }
def enterKid (l : List Nd) (a p : Nat) (s : Fs) : Fs :=
  match kid l a p with
  | none => s
  | some k =>
    let s1 : Fs := { s with inn := s.inn.set k (if s.own.getD a 0 = -1 then s.inn.getD a 0 else s.own.getD a 0) }
    match l[a]? with
    | none => s1
    | some n => if n.k = 32 ∧ p = 1 then openS l k [n.t] s1 else s1
def kidsFrom (l : List Nd) (a : Nat) : Nat → Nat → Fs → Fs
  | _, 0, s => s
  | p, n + 1, s => kidsFrom l a (p + 1) n (enterKid l a p s)
def opens (l : List Nd) (a : Nat) (s : Fs) : Fs :=
  match l[a]? with
  | none => s
  | some n => if n.k = 33 then openS l a [] s else if n.k = 10 then openS l a n.names s else if n.k = 25 ∧ s.own.getD a 0 = -1 ∧ made l a ≠ [] then openS l a [] s else s
def enter (l : List Nd) (a : Nat) (s : Fs) : Fs := kidsFrom l a 0 (kidsOf l a) (opens l a s)
/-- From the node before a down to the first. -/
def down (l : List Nd) : Nat → Fs → Fs
  | 0, s => s
  | a + 1, s => down l a (enter l a s)
def found (l : List Nd) : Fs := down l l.length ⟨[], List.replicate l.length (-1), List.replicate l.length (-1)⟩
/-- Where a name is: how many scopes out, and its place there. -/
def find (S : List Sp) (nm : List UInt8) : Nat → Int → Nat → Option (Nat × Nat)
  | 0, _, _ => none
  | f + 1, num, d => if num = -1 then none else
    match S[num.toNat]? with
    | none => none
    | some s => match s.names.idxOf? nm with
      | some k => some (d, k)
      | none => find S nm f s.around (d + 1)
/-- The name that is asked for at a node. -/
def asked (l : List Nd) (a : Nat) : Option (List UInt8) :=
  match l[a]? with
  | none => none
  | some n => if n.k = 3 then some n.t else makes l a
def spot (l : List Nd) (s : Fs) (a : Nat) : Int × Int :=
  match asked l a with
  | none => (-1, 0)
  | some nm => match find s.scopes nm (s.scopes.length + 1) (s.inn.getD a 0) 0 with
    | none => (-1, 0)
    | some (d, k) => ((d : Int), (k : Int))
def spots (l : List Nd) : List (Int × Int) := (List.range l.length).map (spot l (found l))
def slots (l : List Nd) : List Int := (found l).own.map fun o => if o = -1 then -1 else (((found l).scopes[o.toNat]?.map (fun s => (s.names.length : Int))).getD 0)

/-! ## What holds of what is found -/
/-- The scopes' numbers are right: those around come first. -/
structure Ok (n : Nat) (s : Fs) : Prop where
  li : s.inn.length = n
  lo : s.own.length = n
  inn : ∀ x ∈ s.inn, -1 ≤ x ∧ x < s.scopes.length
  own : ∀ x ∈ s.own, -1 ≤ x ∧ x < s.scopes.length
  up : ∀ k (h : k < s.scopes.length), -1 ≤ (s.scopes[k]).around ∧ (s.scopes[k]).around < k
theorem mem_set {l : List Int} {i : Nat} {v x : Int} (h : x ∈ l.set i v) : x ∈ l ∨ x = v := by
  rcases List.mem_or_eq_of_mem_set h with h | h
  · exact .inl h
  · exact .inr h
theorem getD_mem {l : List Int} {i : Nat} (h : i < l.length) : l.getD i 0 ∈ l := by
  rw [List.getD_eq_getElem?_getD, List.getElem?_eq_getElem h]; exact List.getElem_mem h
theorem ok_open {l : List Nd} {n a : Nat} {ahead : List (List UInt8)} {s : Fs} (h : Ok n s) (ha : a < n) : Ok n (openS l a ahead s) := by
  have hi := h.inn _ (getD_mem (by rw [h.li]; exact ha))
  refine ⟨h.li, by show (s.own.set _ _).length = n; rw [List.length_set, h.lo], fun x hx => ?_, fun x hx => ?_, fun k hk => ?_⟩
  · have := h.inn x hx; show _ ∧ x < ((s.scopes ++ [_]).length : Nat); simp; omega
  · show _ ∧ x < ((s.scopes ++ [_]).length : Nat)
    rcases mem_set hx with hx | hx
    · have := h.own x hx; simp; omega
    · simp; omega
  · have hk : k < (s.scopes ++ [(⟨s.inn.getD a 0, ahead ++ made l a⟩ : Sp)]).length := hk
    show _ ≤ ((s.scopes ++ [(⟨s.inn.getD a 0, ahead ++ made l a⟩ : Sp)])[k]).around ∧ _
    rw [List.length_append, List.length_singleton] at hk
    show _ ∧ ((s.scopes ++ [(⟨s.inn.getD a 0, ahead ++ made l a⟩ : Sp)])[k]).around < _
    by_cases e : k < s.scopes.length
    · rw [List.getElem_append_left e]; exact h.up k e
    · have : k = s.scopes.length := by omega
      subst this
      rw [List.getElem_append_right (Nat.le_refl _)]
      simp only [Nat.sub_self, List.getElem_cons_zero]
      exact hi
theorem ok_inn {n k : Nat} {v : Int} {s : Fs} (h : Ok n s) (hv : -1 ≤ v ∧ v < s.scopes.length) : Ok n { s with inn := s.inn.set k v } := by
  refine ⟨by show (s.inn.set _ _).length = n; rw [List.length_set, h.li], h.lo, fun x hx => ?_, h.own, h.up⟩
  rcases mem_set hx with hx | hx
  · exact h.inn x hx
  · exact hx ▸ hv
theorem kid_lt {l : List Nd} {a p k : Nat} (h : kid l a p = some k) : k < a := by
  unfold kid at h
  split at h
  · split at h
    · cases h; assumption
    · cases h
  · cases h
theorem ok_enterKid {l : List Nd} {n a p : Nat} {s : Fs} (h : Ok n s) (ha : a < n) : Ok n (enterKid l a p s) := by
  unfold enterKid
  split
  · exact h
  · rename_i k hk
    have hk := kid_lt hk
    have h1 := ok_inn (k := k) (v := if s.own.getD a 0 = -1 then s.inn.getD a 0 else s.own.getD a 0) h (by
      split
      · exact h.inn _ (getD_mem (by rw [h.li]; exact ha))
      · exact h.own _ (getD_mem (by rw [h.lo]; exact ha)))
    simp only
    split
    · exact h1
    · split
      · exact ok_open h1 (by omega)
      · exact h1
theorem ok_kidsFrom {l : List Nd} {n a : Nat} (ha : a < n) : ∀ (m p : Nat) (s : Fs), Ok n s → Ok n (kidsFrom l a p m s)
  | 0, _, _, h => h
  | m + 1, p, s, h => ok_kidsFrom ha m (p + 1) _ (ok_enterKid h ha)
theorem ok_opens {l : List Nd} {n a : Nat} {s : Fs} (h : Ok n s) (ha : a < n) : Ok n (opens l a s) := by
  unfold opens
  split
  · exact h
  · split
    · exact ok_open h ha
    · split
      · exact ok_open h ha
      · split
        · exact ok_open h ha
        · exact h
theorem ok_enter {l : List Nd} {n a : Nat} {s : Fs} (h : Ok n s) (ha : a < n) : Ok n (enter l a s) := ok_kidsFrom ha _ _ _ (ok_opens h ha)
theorem ok_down {l : List Nd} {n : Nat} : ∀ (a : Nat) (s : Fs), a ≤ n → Ok n s → Ok n (down l a s)
  | 0, _, _, h => h
  | a + 1, s, ha, h => ok_down a _ (by omega) (ok_enter h (by omega))
theorem ok_start (n : Nat) : Ok n ⟨[], List.replicate n (-1), List.replicate n (-1)⟩ := by
  refine ⟨by simp, by simp, fun x hx => ?_, fun x hx => ?_, fun k hk => by simp at hk⟩
  · have := List.eq_of_mem_replicate hx; subst this; simp
  · have := List.eq_of_mem_replicate hx; subst this; simp
theorem ok_found (l : List Nd) : Ok l.length (found l) := ok_down _ _ (Nat.le_refl _) (ok_start _)
end Go.Proofs.Ytkaacmghgobhmaa.Sc
end
section
namespace Go.Proofs.Ytkaacmghgobhmaa.Lx
set_option linter.unusedVariables false
def osigns : List (List UInt8) := [[61,61,61],[33,61,61],[60,61],[62,61],[38,38],[124,124],[123],[125],[40],[41],[91],[93],[59],[44],[46],[63],[58],[61],[60],[62],[43],[45],[42],[47],[37],[33]]
def fst (l : List UInt8) : Option (List UInt8) := osigns.find? fun s => isPre s l
theorem fold_mem (l : List UInt8) : ∀ (L : List (List UInt8)) (a : List UInt8), L.foldl (longer l) a = a ∨ (L.foldl (longer l) a ∈ L ∧ isPre (L.foldl (longer l) a) l = true)
  | [], a => .inl rfl
  | s :: L, a => by
    have h := fold_mem l L (longer l a s)
    rw [List.foldl_cons]
    rcases h with h | h
    · rw [h]
      unfold longer
      split
      · rename_i h1; exact .inr ⟨List.mem_cons_self, h1.2⟩
      · exact .inl rfl
    · exact .inr ⟨List.mem_cons_of_mem _ h.1, h.2⟩
theorem fold_ge (l : List UInt8) : ∀ (L : List (List UInt8)) (a : List UInt8), a.length ≤ (L.foldl (longer l) a).length ∧ ∀ s ∈ L, isPre s l = true → s.length ≤ (L.foldl (longer l) a).length
  | [], a => ⟨Nat.le_refl _, fun s h => by cases h⟩
  | t :: L, a => by
    obtain ⟨h1, h2⟩ := fold_ge l L (longer l a t)
    rw [List.foldl_cons]
    have h3 : a.length ≤ (longer l a t).length := by unfold longer; split <;> omega
    refine ⟨by omega, fun s hs hp => ?_⟩
    rcases List.mem_cons.1 hs with rfl | hs
    · have h4 : s.length ≤ (longer l a s).length := by
        unfold longer
        split
        · exact Nat.le_refl _
        · rename_i h; exact Nat.le_of_not_lt fun e => h ⟨e, hp⟩
      omega
    · exact h2 s hs hp
theorem osigns_same : ∀ s, s ∈ osigns ↔ s ∈ signs := fun s => ⟨fun h => by revert s; decide, fun h => by revert s; decide⟩
theorem osigns_down : osigns.Pairwise fun a b => b.length ≤ a.length := by decide
theorem find_first {p : List UInt8 → Bool} : ∀ (L : List (List UInt8)) (s : List UInt8), L.Pairwise (fun a b => b.length ≤ a.length) → L.find? p = some s → ∀ t ∈ L, p t = true → t.length ≤ s.length
  | [], s, _, h, t, ht, _ => by cases ht
  | a :: L, s, hw, h, t, ht, hp => by
    rw [List.find?_cons] at h
    obtain ⟨h1, h2⟩ := List.pairwise_cons.1 hw
    cases ha : p a
    · rw [ha] at h
      rcases List.mem_cons.1 ht with rfl | ht
      · rw [ha] at hp; cases hp
      · exact find_first L s h2 h t ht hp
    · rw [ha] at h
      cases h
      rcases List.mem_cons.1 ht with rfl | ht
      · exact Nat.le_refl _
      · exact h1 t ht
theorem signs_pos : ∀ s ∈ signs, s ≠ [] := by decide
theorem pre_same {s t l : List UInt8} (hs : isPre s l = true) (ht : isPre t l = true) (h : s.length = t.length) : s = t := by
  rw [← (isPre_le hs).2, ← (isPre_le ht).2, h]
/-- The longest sign is the first of those in order. -/
theorem sgn_fst (l : List UInt8) : sgn l = (fst l).getD [] := by
  have hm := fold_mem l signs []
  have hg := fold_ge l signs []
  change sgn l = [] ∨ _ at hm
  cases hf : fst l with
  | none =>
    rcases hm with hm | ⟨hm, hp⟩
    · exact hm
    · have := List.find?_eq_none.1 hf _ ((osigns_same _).2 hm)
      exact absurd hp this
  | some s =>
    have hs : isPre s l = true := List.find?_some (p := fun s => isPre s l) hf
    have hms : s ∈ signs := (osigns_same _).1 (List.mem_of_find?_eq_some hf)
    have h1 := hg.2 s hms hs
    rcases hm with hm | ⟨hm, hp⟩
    · have e : (List.foldl (longer l) [] signs) = [] := hm
      rw [e] at h1
      have := List.length_pos_iff.2 (signs_pos s hms)
      simp at h1; exact absurd h1 (signs_pos s hms)
    · have h2 := find_first osigns s osigns_down hf _ ((osigns_same _).2 hm) hp
      exact pre_same hp hs (Nat.le_antisymm h2 h1)
theorem pSgn_fst (l : List UInt8) : pSgn l = (fst l).map fun s => ⟨5, s, 0, s.length⟩ := by
  unfold pSgn
  rw [sgn_fst]
  cases hf : fst l with
  | none => rfl
  | some s =>
    have hms : s ∈ signs := (osigns_same _).1 (List.mem_of_find?_eq_some hf)
    rw [Option.getD_some, if_neg (signs_pos s hms)]; rfl
theorem signs_front : ∀ s ∈ signs, beg digit s = false ∧ beg letter s = false ∧ beg (fun c => c.toNat == 34) s = false := by decide
theorem beg_pre {p : UInt8 → Bool} {s l : List UInt8} (h : isPre s l = true) (hs : s ≠ []) : beg p l = beg p s := by
  obtain ⟨h1, h2⟩ := isPre_le h
  cases s with
  | nil => exact absurd rfl hs
  | cons a s =>
    cases l with
    | nil => simp at h1
    | cons b l =>
      simp at h2
      rw [h2.1]; rfl
theorem pSgn_none (l : List UInt8) (h : beg digit l = true ∨ beg letter l = true ∨ beg (fun c => c.toNat == 34) l = true) : pSgn l = none := by
  rw [pSgn_fst]
  cases hf : fst l with
  | none => rfl
  | some s =>
    have hs : isPre s l = true := List.find?_some (p := fun s => isPre s l) hf
    have hms : s ∈ signs := (osigns_same _).1 (List.mem_of_find?_eq_some hf)
    obtain ⟨f1, f2, f3⟩ := signs_front s hms
    rw [beg_pre hs (signs_pos s hms), beg_pre hs (signs_pos s hms), beg_pre hs (signs_pos s hms), f1, f2, f3] at h
    simp at h
theorem digit_letter {c : UInt8} (h : digit c = true) : letter c = false := by
  unfold digit at h; unfold letter
  simp at h ⊢; omega
theorem pNum_none (c : UInt8) (l : List UInt8) (h : digit c = false) : pNum (c :: l) = none := by
  unfold pNum
  rw [hd, h]
  simp [valB]
theorem pTxt_none (c : UInt8) (l : List UInt8) (h : c.toNat ≠ 34) : pTxt (c :: l) = none := by
  simp only [pTxt]; rw [if_neg h]
theorem pNam_none (c : UInt8) (l : List UInt8) (h : letter c = false) : pNam (c :: l) = none := by
  unfold pNam
  rw [if_neg]
  show ¬ letter c = true
  rw [h]; simp
theorem piece_digit (c : UInt8) (l : List UInt8) (h : digit c = true) : piece (c :: l) = pNum (c :: l) := by
  have h34 : c.toNat ≠ 34 := by unfold digit at h; simp at h; omega
  unfold piece
  rw [pTxt_none c l h34, pNam_none c l (digit_letter h), pSgn_none (c :: l) (.inl h)]
  simp [pEnd]
theorem piece_text (c : UInt8) (l : List UInt8) (h : c.toNat = 34) : piece (c :: l) = (quo l).map fun r => ⟨2, r.1, 0, r.2 + 1⟩ := by
  have h1 : digit c = false := by unfold digit; simp; omega
  have h2 : letter c = false := by unfold letter; simp; omega
  have h3 : pTxt (c :: l) = (quo l).map fun r => ⟨2, r.1, 0, r.2 + 1⟩ := by simp only [pTxt]; rw [if_pos h]
  unfold piece
  rw [pNum_none c l h1, pNam_none c l h2, pSgn_none (c :: l) (.inr (.inr (by simp [beg, h]))), h3]
  simp [pEnd]
theorem piece_name (c : UInt8) (l : List UInt8) (h : letter c = true) : piece (c :: l) = some ⟨if isWord ((c :: l).take (hd ofName (c :: l))) then 4 else 3, (c :: l).take (hd ofName (c :: l)), 0, hd ofName (c :: l)⟩ := by
  have h1 : digit c = false := by
    cases hd : digit c
    · rfl
    · rw [digit_letter hd] at h; cases h
  have h34 : c.toNat ≠ 34 := by unfold letter at h; simp at h; omega
  unfold piece
  rw [pNum_none c l h1, pTxt_none c l h34, pNam, if_pos (show beg letter (c :: l) = true from h)]
  simp [pEnd]
theorem piece_sign (c : UInt8) (l : List UInt8) (h1 : digit c = false) (h2 : c.toNat ≠ 34) (h3 : letter c = false) : piece (c :: l) = (fst (c :: l)).map fun s => ⟨5, s, 0, s.length⟩ := by
  unfold piece
  rw [pNum_none c l h1, pTxt_none c l h2, pNam_none c l h3, pSgn_fst]
  simp [pEnd]
/-- What a number is, or why it is none. -/
theorem pNum_is (c : UInt8) (l : List UInt8) (h : digit c = true) : pNum (c :: l) = if 2147483647 < val ((c :: l).take (hd digit (c :: l))) ∨ (c.toNat = 48 ∧ 1 < hd digit (c :: l)) ∨ beg letter ((c :: l).drop (hd digit (c :: l))) = true then none else some ⟨1, (c :: l).take (hd digit (c :: l)), val ((c :: l).take (hd digit (c :: l))), hd digit (c :: l)⟩ := by
  have hpos : 1 ≤ hd digit (c :: l) := hd_pos (l := c :: l) h
  have hle := hd_le digit (c :: l)
  have hb : beg ofName ((c :: l).drop (hd digit (c :: l))) = beg letter ((c :: l).drop (hd digit (c :: l))) := by
    rcases Nat.lt_or_ge (hd digit (c :: l)) (c :: l).length with hlt | hge
    · rw [List.drop_eq_getElem_cons hlt]
      show ofName _ = letter _
      have := hd_stop digit (c :: l) hlt
      unfold ofName; rw [this]; simp
    · rw [List.drop_of_length_le hge]; rfl
  have hne : ((c :: l).take (hd digit (c :: l))).isEmpty = false := by
    cases hd' : hd digit (c :: l) with
    | zero => omega
    | succ n => rfl
  have hh : (((c :: l).take (hd digit (c :: l))).head?.map (·.toNat)) = some c.toNat := by
    cases hd' : hd digit (c :: l) with
    | zero => omega
    | succ n => rfl
  have hlen : ((c :: l).take (hd digit (c :: l))).length = hd digit (c :: l) := by rw [List.length_take]; omega
  unfold pNum valB
  rw [hb, hne, hh, hlen]
  generalize val ((c :: l).take (hd digit (c :: l))) = V
  generalize beg letter ((c :: l).drop (hd digit (c :: l))) = b
  generalize (c :: l).take (hd digit (c :: l)) = T
  clear hb hne hh hlen hle h
  generalize hd digit (c :: l) = D at *
  by_cases a1 : 2147483647 < V
  · have e : ¬ V ≤ 2147483647 := by omega
    simp [a1, e]
  have e1 : V ≤ 2147483647 := by omega
  by_cases a2 : c.toNat = 48
  · by_cases a3 : 1 < D
    · simp [a2, a3]
    · cases b <;> simp [a1, e1, a2, a3]
  · cases b <;> simp [a1, e1, a2]
end Go.Proofs.Ytkaacmghgobhmaa.Lx
end
