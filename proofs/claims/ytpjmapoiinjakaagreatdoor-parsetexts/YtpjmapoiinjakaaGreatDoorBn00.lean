/- Texts: LxL LSmall LHead LSkip LValue LWord. -/
import Derived.WalkKit
import Derived.Test.YtpjmapoiinjakaaGreatDoorRows
import Derived.WalkSpells
import Derived.WalkLawsBesides
import Derived.Lib.Bytealg
import Derived.Deep.DeepCutAuto
import Derived.Deep.CutBlock
section
namespace Go.Proofs.YtpjmapoiinjakaaGreatDoor.Lx
set_option linter.unusedVariables false
def digit (c : UInt8) : Bool := decide (48 ≤ c.toNat) && decide (c.toNat ≤ 57)
def letter (c : UInt8) : Bool := (decide (97 ≤ c.toNat) && decide (c.toNat ≤ 122)) || (decide (65 ≤ c.toNat) && decide (c.toNat ≤ 90)) || decide (c.toNat = 95) || decide (c.toNat = 36)
def ofName (c : UInt8) : Bool := letter c || digit c
def blank (c : UInt8) : Bool := decide (c.toNat = 9) || decide (c.toNat = 10) || decide (c.toNat = 13) || decide (c.toNat = 32)
/-- How many bytes at the front are such ones. -/
def hd (p : UInt8 → Bool) : List UInt8 → Nat
  | [] => 0
  | c :: l => if p c then hd p l + 1 else 0
theorem hd_le (p : UInt8 → Bool) : ∀ l, hd p l ≤ l.length
  | [] => Nat.le_refl _
  | c :: l => by
    have := hd_le p l
    unfold hd
    split <;> simp <;> omega
/-- Within what is ahead all are such ones. -/
theorem hd_all (p : UInt8 → Bool) : ∀ (l : List UInt8) (i : Nat) (h : i < l.length), i < hd p l → p l[i] = true
  | [], i, h, _ => by simp at h
  | c :: l, 0, h, h1 => by
    unfold hd at h1
    split at h1
    · assumption
    · omega
  | c :: l, i + 1, h, h1 => by
    unfold hd at h1
    split at h1
    · exact hd_all p l i (by simpa using h) (by omega)
    · omega
theorem hd_stop (p : UInt8 → Bool) : ∀ (l : List UInt8) (h : hd p l < l.length), p l[hd p l] = false
  | [], h => by simp at h
  | c :: l, h => by
    by_cases hc : p c = true
    · have e : hd p (c :: l) = hd p l + 1 := by rw [hd, if_pos hc]
      have h' : hd p l < l.length := by rw [e] at h; simpa using h
      have := hd_stop p l h'
      simp only [e, List.getElem_cons_succ]
      exact this
    · have e : hd p (c :: l) = 0 := by rw [hd, if_neg hc]
      simp only [e, List.getElem_cons_zero]
      simpa using hc
/-- What is so of all ahead of i, and not at i, is how many there are. -/
theorem hd_eq (p : UInt8 → Bool) (l : List UInt8) (i : Nat) (hi : i ≤ l.length) (h1 : ∀ j (h : j < l.length), j < i → p l[j] = true) (h2 : ∀ (h : i < l.length), p l[i] = false) : hd p l = i := by
  rcases Nat.lt_trichotomy (hd p l) i with h | h | h
  · have hs := hd_stop p l (by omega)
    have := h1 (hd p l) (by omega) h
    rw [hs] at this; cases this
  · exact h
  · have hl : i < l.length := Nat.lt_of_lt_of_le h (hd_le p l)
    have := hd_all p l i hl h
    rw [h2 hl] at this; cases this
/-- Behind blanks and comments: how many bytes, and whether a line ends there; c: within a comment. -/
def blk : Bool → List UInt8 → Nat × Bool
  | _, [] => (0, false)
  | true, c :: l => if c.toNat = 10 then ((blk false l).1 + 1, true) else ((blk true l).1 + 1, (blk true l).2)
  | false, c :: l =>
    if c.toNat = 10 then ((blk false l).1 + 1, true)
    else if c.toNat = 9 ∨ c.toNat = 13 ∨ c.toNat = 32 then ((blk false l).1 + 1, (blk false l).2)
    else if c.toNat = 47 ∧ (l.head?.map (·.toNat)) = some 47 then ((blk true l).1 + 1, (blk true l).2)
    else (0, false)
theorem blk_le : ∀ (c : Bool) (l : List UInt8), (blk c l).1 ≤ l.length
  | c, [] => by cases c <;> simp [blk]
  | true, x :: l => by
    have h1 := blk_le false l; have h2 := blk_le true l
    unfold blk; split <;> simp <;> omega
  | false, x :: l => by
    have h1 := blk_le false l; have h2 := blk_le true l
    unfold blk
    split
    · simp; omega
    · split
      · simp; omega
      · split
        · simp; omega
        · simp
/-- The number that digits say. -/
def val (l : List UInt8) : Nat := l.foldl (fun n c => 10 * n + (c.toNat - 48)) 0
theorem foldl_ge : ∀ (l : List UInt8) (n : Nat), n ≤ l.foldl (fun n c => 10 * n + (c.toNat - 48)) n
  | [], n => Nat.le_refl _
  | c :: l, n => by
    have := foldl_ge l (10 * n + (c.toNat - 48))
    simp only [List.foldl_cons]
    omega
theorem val_take (l : List UInt8) (i : Nat) : val (l.take i) ≤ val l := by
  have e : val l = (l.drop i).foldl (fun n c => 10 * n + (c.toNat - 48)) (val (l.take i)) := by
    unfold val
    rw [← List.foldl_append, List.take_append_drop]
  rw [e]
  exact foldl_ge _ _
theorem val_snoc (l : List UInt8) (c : UInt8) : val (l ++ [c]) = 10 * val l + (c.toNat - 48) := by
  unfold val; rw [List.foldl_append]; rfl
/-- A piece of a program: its kind, text, number, and how many bytes it takes. -/
structure Pc where
  k : Nat
  t : List UInt8
  n : Nat
  z : Nat
def pEnd (l : List UInt8) : Option Pc := if l = [] then some ⟨0, [], 0, 0⟩ else none
/-- May digits say a number, and which? -/
def valB (d : List UInt8) : Bool := !d.isEmpty && !(decide ((d.head?.map (·.toNat)) = some 48) && decide (1 < d.length)) && decide (val d ≤ 2147483647)
def beg (p : UInt8 → Bool) (l : List UInt8) : Bool := match l with | [] => false | c :: _ => p c
def pNum (l : List UInt8) : Option Pc :=
  if valB (l.take (hd digit l)) && !beg ofName (l.drop (hd digit l)) then some ⟨1, l.take (hd digit l), val (l.take (hd digit l)), hd digit l⟩ else none
/-- What stands up to the next quote: its bytes, and how many bytes say them, the quote with them. -/
def quo : List UInt8 → Option (List UInt8 × Nat)
  | [] => none
  | [c] => if c.toNat = 34 then some ([], 1) else none
  | c :: d :: l =>
    if c.toNat = 34 then some ([], 1)
    else if c.toNat = 92 then
      if d.toNat = 34 ∨ d.toNat = 92 then (quo l).map fun r => (d :: r.1, r.2 + 2)
      else if d.toNat = 110 then (quo l).map fun r => (10 :: r.1, r.2 + 2)
      else none
    else if 32 ≤ c.toNat ∧ c.toNat ≤ 126 then (quo (d :: l)).map fun r => (c :: r.1, r.2 + 1)
    else none
def pTxt (l : List UInt8) : Option Pc := match l with
  | [] => none
  | c :: l => if c.toNat = 34 then (quo l).map fun r => ⟨2, r.1, 0, r.2 + 1⟩ else none
def words : List (List UInt8) := [[108,101,116],[99,111,110,115,116],[102,117,110,99,116,105,111,110],[114,101,116,117,114,110],[105,102],[101,108,115,101],[119,104,105,108,101],[98,114,101,97,107],[99,111,110,116,105,110,117,101],[116,104,114,111,119],[116,114,121],[99,97,116,99,104],[116,114,117,101],[102,97,108,115,101],[110,117,108,108],[117,110,100,101,102,105,110,101,100],[116,104,105,115],[116,121,112,101,111,102],[121,105,101,108,100]]
def isWord (l : List UInt8) : Bool := words.contains l
def pNam (l : List UInt8) : Option Pc :=
  if beg letter l then some ⟨if isWord (l.take (hd ofName l)) then 4 else 3, l.take (hd ofName l), 0, hd ofName l⟩ else none
def signs : List (List UInt8) := [[123],[125],[40],[41],[91],[93],[59],[44],[46],[63],[58],[61],[61,61,61],[33,61,61],[60],[60,61],[62],[62,61],[43],[45],[42],[47],[37],[33],[38,38],[124,124]]
def isPre (s l : List UInt8) : Bool := decide (s.length ≤ l.length) && decide (l.take s.length = s)
def longer (l a s : List UInt8) : List UInt8 := if a.length < s.length ∧ isPre s l = true then s else a
def sgn (l : List UInt8) : List UInt8 := signs.foldl (longer l) []
def pSgn (l : List UInt8) : Option Pc := if sgn l = [] then none else some ⟨5, sgn l, 0, (sgn l).length⟩
def piece (l : List UInt8) : Option Pc := (pEnd l).or ((pNum l).or ((pTxt l).or ((pNam l).or (pSgn l))))
/-- A token: its kind, text, number, place, whether a line ends ahead, the place behind. -/
structure Tk where
  k : Nat
  t : List UInt8
  n : Nat
  a : Nat
  ln : Bool
  e : Nat
def tokOf (a : Nat) (ln : Bool) : Option Pc → Tk
  | some p => ⟨p.k, p.t, p.n, a, ln, a + p.z⟩
  | none => ⟨6, [], 0, a, ln, a⟩
def tok (l : List UInt8) (p : Nat) : Tk := tokOf (p + (blk false (l.drop p)).1) (blk false (l.drop p)).2 (piece (l.drop (p + (blk false (l.drop p)).1)))
/-- All tokens, from a place on; f: enough. -/
def run (l : List UInt8) : Nat → Nat → List Tk
  | 0, p => [tok l p]
  | f + 1, p => if (tok l p).k = 0 ∨ (tok l p).k = 6 then [tok l p] else tok l p :: run l f (tok l p).e
def all (l : List UInt8) : List Tk := run l (l.length + 1) 0
end Go.Proofs.YtpjmapoiinjakaaGreatDoor.Lx
end
section
namespace Go.Proofs.YtpjmapoiinjakaaGreatDoor.L
open Go.RowKit
set_option linter.unusedVariables false
theorem ret_int {k : IntKind} {a b : Int} (h : a = b) : Ending.returned (.int k a) = .returned (.int k b) := by rw [h]
theorem ret_bool {a b : Bool} (h : a = b) : Ending.returned (.bool a) = .returned (.bool b) := by rw [h]
def intOf : Value → Int | .int _ q => q | _ => 0
theorem size_list (s : ByteArray) : s.data.toList.length = s.size := Array.length_toList
theorem at_list (s : ByteArray) (i : Nat) (h : i < s.size) : s.data.toList[i]'(by rw [size_list]; exact h) = s[i] := rfl
theorem extract_eq (s : ByteArray) (q m : Nat) : s.extract q (q + m) = ⟨((s.data.toList.drop q).take m).toArray⟩ := by
  apply ByteArray.ext
  apply Array.ext'
  rw [ByteArray.data_extract, Array.toList_extract]
  simp [List.take_drop]
theorem digit_any (c : UInt8) (w : World) : Calls Tryz.prog 68 #[.int .u8 (c.toNat : Int)] w fun e w' => e = .returned (.bool (Lx.digit c)) ∧ w' = w := by
  have H : Hid (Lx.digit c = (decide (48 ≤ (c.toNat : Int)) && decide ((c.toNat : Int) ≤ 57))) := by
    unfold Lx.digit; congr 1 <;> (apply decide_eq_decide.2; omega)
  generalize (c.toNat : Int) = n at H ⊢
  by_cases h1 : 48 ≤ n
  all_goals
    by_cases h2 : n ≤ 57
    all_goals
      go_enter Tryz.func68, Tryz.ntmps68
      go_wp2
      go_ret
      exact ⟨ret_bool (by rw [H.out]; simp [h1, h2]), rfl⟩
theorem blank_any (c : UInt8) (w : World) : Calls Tryz.prog 64 #[.int .u8 (c.toNat : Int)] w fun e w' => e = .returned (.bool (Lx.blank c)) ∧ w' = w := by
  have H : Hid (Lx.blank c = (decide ((c.toNat : Int) = 9) || decide ((c.toNat : Int) = 10) || decide ((c.toNat : Int) = 13) || decide ((c.toNat : Int) = 32))) := by
    unfold Lx.blank; congr 1; congr 1; congr 1
    all_goals (apply decide_eq_decide.2; omega)
  generalize (c.toNat : Int) = n at H ⊢
  by_cases h1 : n = 9
  · subst h1
    go_enter Tryz.func64, Tryz.ntmps64
    go_wp2
    go_ret
    exact ⟨ret_bool (by rw [H.out]; rfl), rfl⟩
  by_cases h2 : n = 10
  · subst h2
    go_enter Tryz.func64, Tryz.ntmps64
    go_wp2
    go_ret
    exact ⟨ret_bool (by rw [H.out]; rfl), rfl⟩
  by_cases h3 : n = 13
  · subst h3
    go_enter Tryz.func64, Tryz.ntmps64
    go_wp2
    go_ret
    exact ⟨ret_bool (by rw [H.out]; rfl), rfl⟩
  by_cases h4 : n = 32
  · subst h4
    go_enter Tryz.func64, Tryz.ntmps64
    go_wp2
    go_ret
    exact ⟨ret_bool (by rw [H.out]; rfl), rfl⟩
  have e1 : (n == 9) = false := by simpa using h1
  have e2 : (n == 10) = false := by simpa using h2
  have e3 : (n == 13) = false := by simpa using h3
  have e4 : (n == 32) = false := by simpa using h4
  go_enter Tryz.func64, Tryz.ntmps64
  go_wp2
  go_ret
  exact ⟨ret_bool (by rw [H.out]; simp [h1, h2, h3, h4]), rfl⟩
theorem letter_any (c : UInt8) (w : World) : Calls Tryz.prog 76 #[.int .u8 (c.toNat : Int)] w fun e w' => e = .returned (.bool (Lx.letter c)) ∧ w' = w := by
  have H : Hid (Lx.letter c = ((decide (97 ≤ (c.toNat : Int)) && decide ((c.toNat : Int) ≤ 122)) || (decide (65 ≤ (c.toNat : Int)) && decide ((c.toNat : Int) ≤ 90)) || decide ((c.toNat : Int) = 95) || decide ((c.toNat : Int) = 36))) := by
    unfold Lx.letter; congr 1; congr 1; congr 1; congr 1
    all_goals first | (apply decide_eq_decide.2; omega) | (congr 1 <;> (apply decide_eq_decide.2; omega))
  generalize (c.toNat : Int) = n at H ⊢
  by_cases h5 : n = 95
  · subst h5
    go_enter Tryz.func76, Tryz.ntmps76
    go_wp2
    go_ret
    exact ⟨ret_bool (by rw [H.out]; rfl), rfl⟩
  by_cases h6 : n = 36
  · subst h6
    go_enter Tryz.func76, Tryz.ntmps76
    go_wp2
    go_ret
    exact ⟨ret_bool (by rw [H.out]; rfl), rfl⟩
  have e5 : (n == 95) = false := by simpa using h5
  have e6 : (n == 36) = false := by simpa using h6
  by_cases h1 : 97 ≤ n
  all_goals
    by_cases h2 : n ≤ 122
    all_goals
      by_cases h3 : 65 ≤ n
      all_goals
        by_cases h4 : n ≤ 90
        all_goals
          first
          | (exfalso; omega)
          | (go_enter Tryz.func76, Tryz.ntmps76
             go_wp2
             go_ret
             exact ⟨ret_bool (by rw [H.out]; simp [h1, h2, h3, h4, h5, h6]), rfl⟩)
theorem ofName_any (c : UInt8) (w : World) : Calls Tryz.prog 71 #[.int .u8 (c.toNat : Int)] w fun e w' => e = .returned (.bool (Lx.ofName c)) ∧ w' = w := by
  have H1 : Hid (_) := fun W => letter_any c W
  have H2 : Hid (_) := fun W => digit_any c W
  have H : Hid (Lx.ofName c = (Lx.letter c || Lx.digit c)) := rfl
  generalize Lx.ofName c = o at H ⊢
  generalize Lx.letter c = a at H H1
  generalize Lx.digit c = b at H H2
  generalize (c.toNat : Int) = n at *
  cases a
  all_goals
    go_enter Tryz.func71, Tryz.ntmps71
    go_wp2_with (first | (go_at_call 76; refine Calls.mono (H1.out _) ?_; rintro e w' ⟨rfl, rfl⟩) | (go_at_call 68; refine Calls.mono (H2.out _) ?_; rintro e w' ⟨rfl, rfl⟩))
    go_ret
    exact ⟨ret_bool (by rw [H.out]; simp), rfl⟩
set_option maxHeartbeats 400000 in
theorem pre_any (s p : ByteArray) (w : World) (hs : s.size ≤ 281474976710656) (hp : p.size ≤ 100) :
    Calls Tryz.prog 65 #[.string s, .string p] w fun e w' => e = .returned (.bool (Lx.isPre p.data.toList s.data.toList)) ∧ w' = w := by
  have H : Hid (Lx.isPre p.data.toList s.data.toList = (decide (p.size ≤ s.size) && decide (s.data.toList.take p.size = p.data.toList))) := by
    show _ = _
    unfold Lx.isPre; rw [size_list, size_list]
  have hin : ∀ W, Calls Tryz.prog 89 #[.string s, .string p] W fun e w' => e = .returned (.bool (Lx.isPre p.data.toList s.data.toList)) ∧ w' = W := by
    intro W
    by_cases h : p.size ≤ s.size
    · have hx : Hid ((s.extract 0 p.size).toList = s.data.toList.take p.size) := by
        have := extract_eq s 0 p.size
        rw [Nat.zero_add] at this
        show _ = _
        rw [this]
        simp [ByteArray.toList_eq]
      have h' : (p.size : Int) ≤ s.size := by omega
      have hb : Hid (((s.extract 0 p.size).toList == p.toList) = decide (s.data.toList.take p.size = p.data.toList)) := by
        show _ = _
        rw [hx.out, ByteArray.toList_eq]
        by_cases e : s.data.toList.take p.size = p.data.toList <;> simp [e]
      go_enter Tryz.func89, Tryz.ntmps89
      go_wp2
      go_ret
      refine ⟨ret_bool ?_, rfl⟩
      rw [H.out, ← hb.out]
      simp [h]
    · have h' : ¬ (p.size : Int) ≤ s.size := by omega
      go_enter Tryz.func89, Tryz.ntmps89
      go_wp2
      go_ret
      refine ⟨ret_bool ?_, rfl⟩
      rw [H.out]
      simp [h]
  have HI : Hid (_) := hin
  clear hin H
  generalize Lx.isPre p.data.toList s.data.toList = b at *
  go_enter Tryz.func65, Tryz.ntmps65
  go_wp2_with (go_at_call 89; refine Calls.mono (HI.out _) ?_; rintro e w' ⟨rfl, rfl⟩)
  go_ret
  exact ⟨rfl, rfl⟩
end Go.Proofs.YtpjmapoiinjakaaGreatDoor.L
end
section
namespace Go.Proofs.YtpjmapoiinjakaaGreatDoor.L
open Go.RowKit
set_option linter.unusedVariables false
theorem mk_list (s : ByteArray) : (⟨s.data.toList.toArray⟩ : ByteArray) = s := by
  obtain ⟨⟨l⟩⟩ := s
  rfl
theorem empty_of {s : ByteArray} (h : s.size = 0) : s = ⟨#[]⟩ := by
  obtain ⟨⟨l⟩⟩ := s
  have : l.length = 0 := h
  rw [List.length_eq_zero_iff.1 this]
set_option maxHeartbeats 400000 in
theorem head_digit (s : ByteArray) (w : World) (hs : s.size ≤ 281474976710656) :
    Calls Tryz.prog 67 #[.string s, .func (.func 68) #[] #[]] w fun e w' => e = .returned (.string ⟨(s.data.toList.take (Lx.hd Lx.digit s.data.toList)).toArray⟩) ∧ w' = w := by
  go_enter Tryz.func67, Tryz.ntmps67
  go_wp2
  go_loop [8] (fun i => ∃ k : Nat, k ≤ s.size ∧ i = .int .i64 k ∧ Hid (∀ j (h : j < s.size), j < k → Lx.digit s[j] = true)) (fun i => s.size - (intOf i).toNat)
  case atStart => exact ⟨0, Nat.zero_le _, rfl, fun j h h' => absurd h' (by omega)⟩
  case round =>
    obtain ⟨k, hk, rfl, HA⟩ := hrel
    by_cases hlt : k < s.size
    · have hlt' : (k : Int) < s.size := by omega
      have H : Hid (_) := fun W => digit_any s[k] W
      by_cases hp : Lx.digit s[k] = true
      · rw [hp] at H
        have HP : Hid (_) := hp
        clear hp
        go_wp2_with (go_at_call 68; refine Calls.mono (H.out _) ?_; rintro e w' ⟨rfl, rfl⟩)
        go_round
        case rel => exact ⟨k + 1, by omega, by go_num, fun j h h' => by
          by_cases e : j = k
          · subst e; exact HP.out
          · exact HA.out j h (by omega)⟩
        case measure => simp [intOf]; omega
      · have hp' : Lx.digit s[k] = false := by simpa using hp
        rw [hp'] at H
        have HP : Hid (Lx.hd Lx.digit s.data.toList = k) := Lx.hd_eq _ _ _ (by rw [size_list]; exact hk) (fun j h h' => HA.out j (by rw [size_list] at h; exact h) h') (fun h => hp')
        clear hp hp'
        go_wp2_with (go_at_call 68; refine Calls.mono (H.out _) ?_; rintro e w' ⟨rfl, rfl⟩)
        go_ret
        refine ⟨?_, rfl⟩
        rw [HP.out]
        have := extract_eq s 0 k
        rw [Nat.zero_add, List.drop_zero] at this
        exact congrArg (fun x => Ending.returned (.string x)) this
    · have hlt' : ¬ (k : Int) < s.size := by omega
      have HP : Hid (Lx.hd Lx.digit s.data.toList = s.size) := Lx.hd_eq _ _ _ (by rw [size_list]; exact Nat.le_refl _) (fun j h h' => HA.out j (by rw [size_list] at h; exact h) (by omega)) (fun h => absurd h (by rw [size_list]; omega))
      go_wp2
      go_ret
      refine ⟨?_, rfl⟩
      rw [HP.out, ← size_list, List.take_length, mk_list]
      rfl
set_option maxHeartbeats 400000 in
theorem head_ofName (s : ByteArray) (w : World) (hs : s.size ≤ 281474976710656) :
    Calls Tryz.prog 67 #[.string s, .func (.func 71) #[] #[]] w fun e w' => e = .returned (.string ⟨(s.data.toList.take (Lx.hd Lx.ofName s.data.toList)).toArray⟩) ∧ w' = w := by
  go_enter Tryz.func67, Tryz.ntmps67
  go_wp2
  go_loop [8] (fun i => ∃ k : Nat, k ≤ s.size ∧ i = .int .i64 k ∧ Hid (∀ j (h : j < s.size), j < k → Lx.ofName s[j] = true)) (fun i => s.size - (intOf i).toNat)
  case atStart => exact ⟨0, Nat.zero_le _, rfl, fun j h h' => absurd h' (by omega)⟩
  case round =>
    obtain ⟨k, hk, rfl, HA⟩ := hrel
    by_cases hlt : k < s.size
    · have hlt' : (k : Int) < s.size := by omega
      have H : Hid (_) := fun W => ofName_any s[k] W
      by_cases hp : Lx.ofName s[k] = true
      · rw [hp] at H
        have HP : Hid (_) := hp
        clear hp
        go_wp2_with (go_at_call 71; refine Calls.mono (H.out _) ?_; rintro e w' ⟨rfl, rfl⟩)
        go_round
        case rel => exact ⟨k + 1, by omega, by go_num, fun j h h' => by
          by_cases e : j = k
          · subst e; exact HP.out
          · exact HA.out j h (by omega)⟩
        case measure => simp [intOf]; omega
      · have hp' : Lx.ofName s[k] = false := by simpa using hp
        rw [hp'] at H
        have HP : Hid (Lx.hd Lx.ofName s.data.toList = k) := Lx.hd_eq _ _ _ (by rw [size_list]; exact hk) (fun j h h' => HA.out j (by rw [size_list] at h; exact h) h') (fun h => hp')
        clear hp hp'
        go_wp2_with (go_at_call 71; refine Calls.mono (H.out _) ?_; rintro e w' ⟨rfl, rfl⟩)
        go_ret
        refine ⟨?_, rfl⟩
        rw [HP.out]
        have := extract_eq s 0 k
        rw [Nat.zero_add, List.drop_zero] at this
        exact congrArg (fun x => Ending.returned (.string x)) this
    · have hlt' : ¬ (k : Int) < s.size := by omega
      have HP : Hid (Lx.hd Lx.ofName s.data.toList = s.size) := Lx.hd_eq _ _ _ (by rw [size_list]; exact Nat.le_refl _) (fun j h h' => HA.out j (by rw [size_list] at h; exact h) (by omega)) (fun h => absurd h (by rw [size_list]; omega))
      go_wp2
      go_ret
      refine ⟨?_, rfl⟩
      rw [HP.out, ← size_list, List.take_length, mk_list]
      rfl
set_option maxHeartbeats 400000 in
theorem begins_ofName (s : ByteArray) (w : World) (hs : s.size ≤ 281474976710656) :
    Calls Tryz.prog 70 #[.string s, .func (.func 71) #[] #[]] w fun e w' => e = .returned (.bool (Lx.beg Lx.ofName s.data.toList)) ∧ w' = w := by
  by_cases h0 : s.size = 0
  · have e : s = ⟨#[]⟩ := empty_of h0
    subst e
    go_enter Tryz.func70, Tryz.ntmps70
    go_wp2
    go_ret
    exact ⟨rfl, rfl⟩
  · have hpos : 0 < s.size := by omega
    have HB : Hid (Lx.beg Lx.ofName s.data.toList = Lx.ofName s[0]) := by
      show _ = _
      have := at_list s 0 hpos
      cases hl : s.data.toList with
      | nil => have := size_list s; rw [hl] at this; simp at this; omega
      | cons c l => simp only [Lx.beg]; rw [← this]; congr 1; simp [hl]
    have hne : s.toList.isEmpty = false := by rw [ByteArray.toList_eq]; cases hl : s.data.toList with
      | nil => have := size_list s; rw [hl] at this; simp at this; omega
      | cons c l => rfl
    have H : Hid (_) := fun W => ofName_any s[0] W
    rw [HB.out]
    clear HB h0
    generalize Lx.ofName s[0] = b at H ⊢
    go_enter Tryz.func70, Tryz.ntmps70
    go_wp2_with (go_at_call 71; refine Calls.mono (H.out _) ?_; rintro e w' ⟨rfl, rfl⟩)
    go_ret
    exact ⟨rfl, rfl⟩
set_option maxHeartbeats 400000 in
theorem begins_letter (s : ByteArray) (w : World) (hs : s.size ≤ 281474976710656) :
    Calls Tryz.prog 70 #[.string s, .func (.func 76) #[] #[]] w fun e w' => e = .returned (.bool (Lx.beg Lx.letter s.data.toList)) ∧ w' = w := by
  by_cases h0 : s.size = 0
  · have e : s = ⟨#[]⟩ := empty_of h0
    subst e
    go_enter Tryz.func70, Tryz.ntmps70
    go_wp2
    go_ret
    exact ⟨rfl, rfl⟩
  · have hpos : 0 < s.size := by omega
    have HB : Hid (Lx.beg Lx.letter s.data.toList = Lx.letter s[0]) := by
      show _ = _
      have := at_list s 0 hpos
      cases hl : s.data.toList with
      | nil => have := size_list s; rw [hl] at this; simp at this; omega
      | cons c l => simp only [Lx.beg]; rw [← this]; congr 1; simp [hl]
    have hne : s.toList.isEmpty = false := by rw [ByteArray.toList_eq]; cases hl : s.data.toList with
      | nil => have := size_list s; rw [hl] at this; simp at this; omega
      | cons c l => rfl
    have H : Hid (_) := fun W => letter_any s[0] W
    rw [HB.out]
    clear HB h0
    generalize Lx.letter s[0] = b at H ⊢
    go_enter Tryz.func70, Tryz.ntmps70
    go_wp2_with (go_at_call 76; refine Calls.mono (H.out _) ?_; rintro e w' ⟨rfl, rfl⟩)
    go_ret
    exact ⟨rfl, rfl⟩
end Go.Proofs.YtpjmapoiinjakaaGreatDoor.L
end
section
namespace Go.Proofs.YtpjmapoiinjakaaGreatDoor.Lx
def ne10 (c : UInt8) : Bool := decide (c.toNat ≠ 10)
theorem idx_hd : ∀ l : List UInt8, Lib.indexByte l 10 = if hd ne10 l < l.length then (hd ne10 l : Int) else -1
  | [] => rfl
  | c :: l => by
    have ih := idx_hd l
    have hl := hd_le ne10 l
    by_cases h : c = 10
    · subst h
      simp [Lib.indexByte, hd, ne10]
    · have h10 : ne10 c = true := by
        unfold ne10
        have : c.toNat ≠ 10 := fun e => h (UInt8.toNat_inj.1 e)
        simpa using this
      have e1 : hd ne10 (c :: l) = hd ne10 l + 1 := by rw [hd, if_pos h10]
      have e2 : (c == 10) = false := by simpa using h
      have e3 : Lib.indexByte (c :: l) 10 = if Lib.indexByte l 10 == -1 then -1 else Lib.indexByte l 10 + 1 := by rw [Lib.indexByte, e2]; rfl
      rw [e1, e3, ih]
      by_cases h2 : hd ne10 l < l.length
      · have h3 : ((hd ne10 l : Int) == -1) = false := by rw [beq_eq_false_iff_ne]; omega
        have h4 : hd ne10 l + 1 < (c :: l).length := by rw [List.length_cons]; omega
        rw [if_pos h2, if_pos h4, h3]
        simp
      · have h4 : ¬ hd ne10 l + 1 < (c :: l).length := by rw [List.length_cons]; omega
        rw [if_neg h2, if_neg h4]
        rfl
/-- Within a comment: as many bytes as are no line's end, then blanks. -/
theorem blk_true : ∀ l : List UInt8, blk true l = (hd ne10 l + (blk false (l.drop (hd ne10 l))).1, (blk false (l.drop (hd ne10 l))).2)
  | [] => rfl
  | c :: l => by
    have ih := blk_true l
    by_cases h : c.toNat = 10
    · have e1 : hd ne10 (c :: l) = 0 := by rw [hd, if_neg (by unfold ne10; simpa using h)]
      rw [e1]
      simp only [List.drop_zero, blk, h, if_true, Nat.zero_add]
    · have e1 : hd ne10 (c :: l) = hd ne10 l + 1 := by rw [hd, if_pos (by unfold ne10; simpa using h)]
      rw [e1, List.drop_succ_cons, blk, if_neg h, ih]
      simp only [Prod.mk.injEq, and_true]
      omega
theorem blk_line (c : UInt8) (l : List UInt8) (h : c.toNat = 10) : blk false (c :: l) = ((blk false l).1 + 1, true) := by rw [blk, if_pos h]
theorem blk_blank (c : UInt8) (l : List UInt8) (h : blank c = true) (h10 : c.toNat ≠ 10) : blk false (c :: l) = ((blk false l).1 + 1, (blk false l).2) := by
  unfold blank at h
  rw [blk, if_neg h10, if_pos (by simp at h; omega)]
theorem pre2 (c : UInt8) (l : List UInt8) : isPre [47, 47] (c :: l) = true ↔ c.toNat = 47 ∧ (l.head?.map (·.toNat)) = some 47 := by
  cases l with
  | nil => simp [isPre]
  | cons d l =>
    simp only [isPre, List.length_cons, List.length_nil, Bool.and_eq_true, decide_eq_true_eq, List.head?_cons, Option.map_some, Option.some.injEq]
    constructor
    · rintro ⟨_, h⟩
      simp at h
      obtain ⟨rfl, rfl⟩ := h
      exact ⟨rfl, rfl⟩
    · rintro ⟨h1, h2⟩
      have e1 : c = 47 := UInt8.toNat_inj.1 h1
      have e2 : d = 47 := UInt8.toNat_inj.1 h2
      subst e1; subst e2
      simp
theorem blk_note (c : UInt8) (l : List UInt8) (_hb : blank c = false) (h : isPre [47, 47] (c :: l) = true) : blk false (c :: l) = (hd ne10 (c :: l) + (blk false ((c :: l).drop (hd ne10 (c :: l)))).1, (blk false ((c :: l).drop (hd ne10 (c :: l)))).2) := by
  obtain ⟨h1, h2⟩ := (pre2 c l).1 h
  have e1 : hd ne10 (c :: l) = hd ne10 l + 1 := by rw [hd, if_pos (by unfold ne10; simp [h1])]
  rw [e1, List.drop_succ_cons, blk, if_neg (by omega), if_neg (by omega), if_pos ⟨h1, h2⟩, blk_true]
  simp only [Prod.mk.injEq, and_true]
  omega
theorem blk_none (c : UInt8) (l : List UInt8) (hb : blank c = false) (h : isPre [47, 47] (c :: l) = false) : blk false (c :: l) = (0, false) := by
  unfold blank at hb
  simp at hb
  rw [blk, if_neg (by omega), if_neg (by omega), if_neg (fun h' => by rw [(pre2 c l).2 h'] at h; cases h)]
end Go.Proofs.YtpjmapoiinjakaaGreatDoor.Lx
namespace Go.Proofs.YtpjmapoiinjakaaGreatDoor.L
open Go.RowKit
set_option linter.unusedVariables false
set_option maxRecDepth 100000 in
set_option maxHeartbeats 400000 in
theorem comment_any (s : ByteArray) (w : World) (hs : s.size ≤ 281474976710656) :
    Calls Tryz.prog 66 #[.string s] w fun e w' => e = .returned (.int .i64 (Lx.hd Lx.ne10 s.data.toList : Int)) ∧ w' = w := by
  have h0 : ∀ W, Calls Tryz.prog 105 #[.string s, .int .u8 10] W fun e w' => e = .returned (.int .i64 (Lib.indexByte s.data.toList 10)) ∧ w' = W := by
    intro W
    go_enter Tryz.func105, Tryz.ntmps105
    go_wp2
    rw [run_callFunc_extern Tryz.func111 (by kernel_rfl) (by kernel_rfl) (by kernel_rfl) (e := Extern.BytealgIndexByte.indexByte) (by kernel_rfl)]
    rw [Lib.run_indexByteString]
    simp only [Result.andThen]
    rw [Oper.upon_value]
    go_wp2
    go_ret
    exact ⟨rfl, rfl⟩
  have H0 : Hid (_) := h0
  have h1 : ∀ W, Calls Tryz.prog 90 #[.string s, .int .u8 10] W fun e w' => e = .returned (.int .i64 (Lib.indexByte s.data.toList 10)) ∧ w' = W := by
    intro W
    go_enter Tryz.func90, Tryz.ntmps90
    go_wp2_with (go_at_call 105; refine Calls.mono (H0.out _) ?_; rintro e w' ⟨rfl, rfl⟩)
    go_ret
    exact ⟨rfl, rfl⟩
  have hl := Lx.hd_le Lx.ne10 s.data.toList
  rw [size_list] at hl
  rw [Lx.idx_hd, size_list] at h1
  have H1 : Hid (_) := h1
  clear h0 h1 H0
  generalize Lx.hd Lx.ne10 s.data.toList = k at *
  by_cases h : k < s.size
  · rw [if_pos h] at H1
    have hk : (0 : Int) ≤ k := by omega
    go_enter Tryz.func66, Tryz.ntmps66
    go_wp2_with (go_at_call 90; refine Calls.mono (H1.out _) ?_; rintro e w' ⟨rfl, rfl⟩)
    go_ret
    exact ⟨rfl, rfl⟩
  · rw [if_neg h] at H1
    have hk : k = s.size := by omega
    subst hk
    go_enter Tryz.func66, Tryz.ntmps66
    go_wp2_with (go_at_call 90; refine Calls.mono (H1.out _) ?_; rintro e w' ⟨rfl, rfl⟩)
    go_ret
    exact ⟨rfl, rfl⟩
theorem drop_at (s : ByteArray) (k : Nat) (h : k < s.size) : s.data.toList.drop k = s[k] :: s.data.toList.drop (k + 1) := by
  rw [List.drop_eq_getElem_cons (by rw [size_list]; exact h)]; rfl
theorem tail_list (s : ByteArray) (k : Nat) : (s.extract k s.size).data.toList = s.data.toList.drop k := by
  rw [ByteArray.data_extract, Array.toList_extract]
  have := size_list s
  exact List.take_of_length_le (by rw [List.length_drop, this]; exact Nat.le_refl _)
theorem ret2 {k : IntKind} {a b : Int} {x y : Bool} (h : a = b) (h2 : x = y) : Ending.returned (.tuple #[.int k a, .bool x]) = .returned (.tuple #[.int k b, .bool y]) := by rw [h, h2]
set_option maxRecDepth 100000 in
set_option maxHeartbeats 1000000 in
theorem skip_any (s : ByteArray) (p : Nat) (w : World) (hs : s.size ≤ 1000000) (hp : p ≤ s.size) :
    Calls Tryz.prog 45 #[.string s, .int .i64 (p : Int)] w fun e w' => e = .returned (.tuple #[.int .i64 ((p + (Lx.blk false (s.data.toList.drop p)).1 : Nat) : Int), .bool (Lx.blk false (s.data.toList.drop p)).2]) ∧ w' = w := by
  obtain ⟨G1, hG1⟩ : ∃ G1, p + (Lx.blk false (s.data.toList.drop p)).1 = G1 := ⟨_, rfl⟩
  obtain ⟨G2, hG2⟩ : ∃ G2, (Lx.blk false (s.data.toList.drop p)).2 = G2 := ⟨_, rfl⟩
  have HG : Hid (p + (Lx.blk false (s.data.toList.drop p)).1 = G1 ∧ (false || (Lx.blk false (s.data.toList.drop p)).2) = G2) := ⟨hG1, hG2⟩
  rw [hG1, hG2]
  clear hG1 hG2
  go_enter Tryz.func45, Tryz.ntmps45
  go_wp2
  go_loop [1, 5] (fun i b => ∃ (k : Nat) (x : Bool), k ≤ s.size ∧ i = .int .i64 k ∧ b = .bool x ∧ Hid (k + (Lx.blk false (s.data.toList.drop k)).1 = G1 ∧ (x || (Lx.blk false (s.data.toList.drop k)).2) = G2)) (fun i _ => s.size - (intOf i).toNat)
  case atStart => exact ⟨p, false, hp, rfl, rfl, HG⟩
  case round =>
    obtain ⟨k, x, hk, rfl, rfl, HR⟩ := hrel
    clear HG
    by_cases hlt : k < s.size
    · have hlt' : (k : Int) < s.size := by omega
      have hd := drop_at s k hlt
      have H : Hid (_) := fun W => blank_any s[k] W
      by_cases hb : Lx.blank s[k] = true
      · rw [hb] at H
        by_cases h10 : s[k].toNat = 10
        · have HN : Hid (k + 1 + (Lx.blk false (s.data.toList.drop (k + 1))).1 = G1 ∧ true = G2) := by
            have := HR.out
            rw [hd, Lx.blk_line _ _ h10] at this
            exact ⟨by have := this.1; simp only [] at this; omega, by have := this.2; simpa using this⟩
          have hc : ((s[k].toNat : Int) == 10) = true := by rw [beq_iff_eq]; omega
          clear hd HR hb h10
          cases x
          all_goals
            go_wp2_with (go_at_call 64; refine Calls.mono (H.out _) ?_; rintro e w' ⟨rfl, rfl⟩)
            go_round
            case rel => exact ⟨k + 1, true, by omega, by go_num, by first | rfl | simp, HN.out.1, by have := HN.out.2; simpa using this⟩
            case measure => simp [intOf]; omega
        · have HN : Hid (k + 1 + (Lx.blk false (s.data.toList.drop (k + 1))).1 = G1 ∧ (x || (Lx.blk false (s.data.toList.drop (k + 1))).2) = G2) := by
            have := HR.out
            rw [hd, Lx.blk_blank _ _ hb h10] at this
            exact ⟨by have := this.1; simp only [] at this; omega, this.2⟩
          have hc : ((s[k].toNat : Int) == 10) = false := by rw [beq_eq_false_iff_ne]; omega
          clear hd HR hb h10
          cases x
          all_goals
            go_wp2_with (go_at_call 64; refine Calls.mono (H.out _) ?_; rintro e w' ⟨rfl, rfl⟩)
            go_round
            case rel => first | exact ⟨k + 1, false, by omega, by go_num, by first | rfl | simp, HN.out.1, HN.out.2⟩ | exact ⟨k + 1, true, by omega, by go_num, by first | rfl | simp, HN.out.1, HN.out.2⟩
            case measure => simp [intOf]; omega
      · have hb' : Lx.blank s[k] = false := by simpa using hb
        rw [hb'] at H
        have ht := tail_list s k
        have HP : Hid (_) := fun W => pre_any (s.extract k s.size) ⟨#[47, 47]⟩ W (by simp [ByteArray.size_extract]; omega) (by decide)
        rw [ht, hd, show (⟨#[47, 47]⟩ : ByteArray).data.toList = [47, 47] from rfl] at HP
        by_cases hq : Lx.isPre [47, 47] (s[k] :: s.data.toList.drop (k + 1)) = true
        · rw [hq] at HP
          have HN : Hid (k + Lx.hd Lx.ne10 (s.data.toList.drop k) + (Lx.blk false (s.data.toList.drop (k + Lx.hd Lx.ne10 (s.data.toList.drop k)))).1 = G1 ∧ (x || (Lx.blk false (s.data.toList.drop (k + Lx.hd Lx.ne10 (s.data.toList.drop k)))).2) = G2) := by
            have := HR.out
            rw [hd, Lx.blk_note _ _ hb' hq, ← hd, List.drop_drop] at this
            exact ⟨by have := this.1; simp only [] at this; omega, this.2⟩
          have HC : Hid (_) := fun W => comment_any (s.extract k s.size) W (by simp [ByteArray.size_extract]; omega)
          rw [ht] at HC
          have hm := Lx.hd_le Lx.ne10 (s.data.toList.drop k)
          rw [List.length_drop, size_list] at hm
          have hpos : 0 < Lx.hd Lx.ne10 (s.data.toList.drop k) := by
            obtain ⟨h1, _⟩ := (Lx.pre2 _ _).1 hq
            rw [hd, Lx.hd, if_pos (by unfold Lx.ne10; simp [h1])]
            omega
          clear hd HR hb hb' ht hq
          generalize Lx.hd Lx.ne10 (s.data.toList.drop k) = m at *
          go_wp2_with (first | (go_at_call 64; refine Calls.mono (H.out _) ?_; rintro e w' ⟨rfl, rfl⟩) | (go_at_call 65; refine Calls.mono (HP.out _) ?_; rintro e w' ⟨rfl, rfl⟩) | (go_at_call 66; refine Calls.mono (HC.out _) ?_; rintro e w' ⟨rfl, rfl⟩))
          go_round
          case rel => exact ⟨k + m, x, by omega, by go_num, rfl, HN.out.1, HN.out.2⟩
          case measure => simp [intOf]; omega
        · have hq' : Lx.isPre [47, 47] (s[k] :: s.data.toList.drop (k + 1)) = false := by simpa using hq
          rw [hq'] at HP
          have HN : Hid (k = G1 ∧ x = G2) := by
            have := HR.out
            rw [hd, Lx.blk_none _ _ hb' hq'] at this
            exact ⟨by have := this.1; simpa using this, by have := this.2; simpa using this⟩
          clear hd HR hb hb' ht hq hq'
          go_wp2_with (first | (go_at_call 64; refine Calls.mono (H.out _) ?_; rintro e w' ⟨rfl, rfl⟩) | (go_at_call 65; refine Calls.mono (HP.out _) ?_; rintro e w' ⟨rfl, rfl⟩))
          go_ret2
          exact ⟨ret2 (by rw [HN.out.1]) HN.out.2, rfl⟩
    · have hlt' : ¬ (k : Int) < s.size := by omega
      have HN : Hid (k = G1 ∧ x = G2) := by
        have := HR.out
        rw [List.drop_of_length_le (by rw [size_list]; omega)] at this
        exact ⟨by have := this.1; simpa [Lx.blk] using this, by have := this.2; simpa [Lx.blk] using this⟩
      clear HR
      go_wp2
      go_ret2
      exact ⟨ret2 (by rw [HN.out.1]) HN.out.2, rfl⟩
end Go.Proofs.YtpjmapoiinjakaaGreatDoor.L
end
section
namespace Go.Proofs.YtpjmapoiinjakaaGreatDoor.L
open Go.RowKit
set_option linter.unusedVariables false
theorem take_snoc (s : ByteArray) (k : Nat) (h : k < s.size) : s.data.toList.take (k + 1) = s.data.toList.take k ++ [s[k]] := by
  rw [List.take_succ_eq_append_getElem (by rw [size_list]; exact h)]; rfl
def valV (l : List UInt8) : Value := if Lx.valB l then .tuple #[.int .i64 (Lx.val l : Int), .bool true] else .tuple #[.int .i64 0, .bool false]
theorem valB_nil : Lx.valB [] = false := rfl
set_option maxRecDepth 100000 in
set_option maxHeartbeats 1000000 in
theorem value_any (s : ByteArray) (w : World) (hs : s.size ≤ 1000000) (hdig : ∀ j (h : j < s.size), Lx.digit s[j] = true) :
    Calls Tryz.prog 69 #[.string s] w fun e w' => e = .returned (valV s.data.toList) ∧ w' = w := by
  by_cases h0 : s.size = 0
  · have e : s = ⟨#[]⟩ := empty_of h0
    subst e
    go_enter Tryz.func69, Tryz.ntmps69
    go_wp2
    go_ret2
    exact ⟨rfl, rfl⟩
  have hpos : 0 < s.size := by omega
  have hne : s.toList.isEmpty = false := by
    rw [ByteArray.toList_eq]
    cases hl : s.data.toList with
    | nil => have := size_list s; rw [hl] at this; simp at this; omega
    | cons c l => rfl
  have hh : (s.data.toList.head?.map (·.toNat)) = some s[0].toNat := by
    have := drop_at s 0 hpos
    rw [List.drop_zero] at this
    rw [this]; rfl
  have hb : Lx.valB s.data.toList = (!(decide (s[0].toNat = 48) && decide (1 < s.size)) && decide (Lx.val s.data.toList ≤ 2147483647)) := by
    have hne' : s.data.toList.isEmpty = false := by rw [← ByteArray.toList_eq]; exact hne
    unfold Lx.valB
    rw [hh, size_list, hne']
    simp
  by_cases hz : s[0].toNat = 48 ∧ 1 < s.size
  · have hc : ((s[0].toNat : Int) == 48) = true := by rw [beq_iff_eq]; omega
    have h1 : (1 : Int) < s.size := by omega
    have HV : Hid (valV s.data.toList = .tuple #[.int .i64 0, .bool false]) := by
      show _ = _
      unfold valV
      rw [hb]
      simp [hz.1, hz.2]
    clear hb hh hdig hz
    go_enter Tryz.func69, Tryz.ntmps69
    go_wp2
    go_ret2
    exact ⟨by rw [HV.out]; rfl, rfl⟩
  · have HB : Hid (Lx.valB s.data.toList = decide (Lx.val s.data.toList ≤ 2147483647)) := by
      show _ = _
      rw [hb]
      by_cases a : s[0].toNat = 48 <;> by_cases b : 1 < s.size <;> simp [a, b]
      exact absurd ⟨a, b⟩ hz
    have hD : Hid (_) := hdig
    clear hb hh hdig
    have hways : (((s[0].toNat : Int) == 48) = false) ∨ (((s[0].toNat : Int) == 48) = true ∧ ¬ (1 : Int) < s.size) := by
      by_cases a : s[0].toNat = 48
      · exact .inr ⟨by rw [beq_iff_eq]; omega, by omega⟩
      · exact .inl (by rw [beq_eq_false_iff_ne]; omega)
    clear hz
    rcases hways with hw1 | ⟨hw1, hw2⟩
    all_goals
      go_enter Tryz.func69, Tryz.ntmps69
      go_wp2
      go_loop [2, 19] (fun n i => ∃ k : Nat, k ≤ s.size ∧ i = .int .i64 k ∧ n = .int .i64 (Lx.val (s.data.toList.take k) : Int) ∧ Lx.val (s.data.toList.take k) ≤ 2147483647) (fun _ i => s.size - (intOf i).toNat)
      case atStart => exact ⟨0, by omega, rfl, rfl, by rw [List.take_zero]; decide⟩
      case round =>
        obtain ⟨k, hk, rfl, rfl, hv⟩ := hrel
        by_cases hlt : k < s.size
        · have hlt' : (k : Int) < s.size := by omega
          have hdk := hD.out k hlt
          have hsn := Lx.val_snoc (s.data.toList.take k) s[k]
          rw [← take_snoc s k hlt] at hsn
          have hle := Lx.val_take s.data.toList (k + 1)
          unfold Lx.digit at hdk
          simp only [Bool.and_eq_true, decide_eq_true_eq] at hdk
          have hd1 : (48 : Int) ≤ s[k].toNat := by omega
          have hd2 : (s[k].toNat : Int) ≤ 57 := by omega
          have HS : Hid (Lx.val (s.data.toList.take (k + 1)) = 10 * Lx.val (s.data.toList.take k) + (s[k].toNat - 48)) := hsn
          have HL : Hid (Lx.val (s.data.toList.take (k + 1)) ≤ Lx.val s.data.toList) := hle
          clear hsn hle hdk
          obtain ⟨v1, HE⟩ : ∃ v1, Hid (Lx.val (s.data.toList.take (k + 1)) = v1) := ⟨_, rfl⟩
          rw [HE.out] at HS HL
          generalize Lx.val (s.data.toList.take k) = v at HS hv ⊢
          have hv' : (v : Int) ≤ 2147483647 := by omega
          have hv0 : (0 : Int) ≤ v := by omega
          have hw : IntKind.u8.wrap ((s[k].toNat : Int) - 48) = (s[k].toNat : Int) - 48 := by
            simp [IntKind.wrap, IntKind.signed, IntKind.bits]; omega
          by_cases hbig : v1 ≤ 2147483647
          · have hbig' : 10 * (v : Int) + ((s[k].toNat : Int) - 48) ≤ 2147483647 := by have := HS.out; omega
            go_wp2
            go_round
            case rel => exact ⟨k + 1, by omega, by go_num, by rw [HE.out]; exact congrArg (Value.int .i64) (by have := HS.out; omega), by rw [HE.out]; exact hbig⟩
            case measure => simp [intOf]; omega
          · have hbig' : ¬ 10 * (v : Int) + ((s[k].toNat : Int) - 48) ≤ 2147483647 := by have := HS.out; omega
            have HV : Hid (valV s.data.toList = .tuple #[.int .i64 0, .bool false]) := by
              show _ = _
              unfold valV
              rw [HB.out]
              have := HL.out
              simp; omega
            go_wp2
            go_ret2
            exact ⟨by rw [HV.out]; rfl, rfl⟩
        · have hlt' : ¬ (k : Int) < s.size := by omega
          have HT : Hid (s.data.toList.take k = s.data.toList) := List.take_of_length_le (by rw [size_list]; omega)
          rw [HT.out] at hv ⊢
          have HV : Hid (valV s.data.toList = .tuple #[.int .i64 (Lx.val s.data.toList : Int), .bool true]) := by
            show _ = _
            unfold valV
            rw [HB.out]
            simp [hv]
          go_wp2
          go_ret2
          exact ⟨by rw [HV.out]; rfl, rfl⟩
end Go.Proofs.YtpjmapoiinjakaaGreatDoor.L
end
section
namespace Go.Proofs.YtpjmapoiinjakaaGreatDoor.L
open Go.RowKit
set_option linter.unusedVariables false
set_option maxRecDepth 100000 in
set_option maxHeartbeats 1000000 in
theorem word_any (s : ByteArray) (w : World) :
    Calls Tryz.prog 77 #[.string s] w fun e w' => e = .returned (.bool (Lx.isWord s.data.toList)) ∧ w' = w := by
  by_cases h0 : s.data.toList = [108, 101, 116]
  · obtain rfl : s = ⟨#[108, 101, 116]⟩ := by rw [← mk_list s, h0]
    go_enter Tryz.func77, Tryz.ntmps77
    go_wp2
    go_ret
    exact ⟨rfl, rfl⟩
  have g0 : (s.toList == [108, 101, 116]) = false := by rw [ByteArray.toList_eq]; simpa using h0
  by_cases h1 : s.data.toList = [99, 111, 110, 115, 116]
  · obtain rfl : s = ⟨#[99, 111, 110, 115, 116]⟩ := by rw [← mk_list s, h1]
    go_enter Tryz.func77, Tryz.ntmps77
    go_wp2
    go_ret
    exact ⟨rfl, rfl⟩
  have g1 : (s.toList == [99, 111, 110, 115, 116]) = false := by rw [ByteArray.toList_eq]; simpa using h1
  by_cases h2 : s.data.toList = [102, 117, 110, 99, 116, 105, 111, 110]
  · obtain rfl : s = ⟨#[102, 117, 110, 99, 116, 105, 111, 110]⟩ := by rw [← mk_list s, h2]
    go_enter Tryz.func77, Tryz.ntmps77
    go_wp2
    go_ret
    exact ⟨rfl, rfl⟩
  have g2 : (s.toList == [102, 117, 110, 99, 116, 105, 111, 110]) = false := by rw [ByteArray.toList_eq]; simpa using h2
  by_cases h3 : s.data.toList = [114, 101, 116, 117, 114, 110]
  · obtain rfl : s = ⟨#[114, 101, 116, 117, 114, 110]⟩ := by rw [← mk_list s, h3]
    go_enter Tryz.func77, Tryz.ntmps77
    go_wp2
    go_ret
    exact ⟨rfl, rfl⟩
  have g3 : (s.toList == [114, 101, 116, 117, 114, 110]) = false := by rw [ByteArray.toList_eq]; simpa using h3
  by_cases h4 : s.data.toList = [105, 102]
  · obtain rfl : s = ⟨#[105, 102]⟩ := by rw [← mk_list s, h4]
    go_enter Tryz.func77, Tryz.ntmps77
    go_wp2
    go_ret
    exact ⟨rfl, rfl⟩
  have g4 : (s.toList == [105, 102]) = false := by rw [ByteArray.toList_eq]; simpa using h4
  by_cases h5 : s.data.toList = [101, 108, 115, 101]
  · obtain rfl : s = ⟨#[101, 108, 115, 101]⟩ := by rw [← mk_list s, h5]
    go_enter Tryz.func77, Tryz.ntmps77
    go_wp2
    go_ret
    exact ⟨rfl, rfl⟩
  have g5 : (s.toList == [101, 108, 115, 101]) = false := by rw [ByteArray.toList_eq]; simpa using h5
  by_cases h6 : s.data.toList = [119, 104, 105, 108, 101]
  · obtain rfl : s = ⟨#[119, 104, 105, 108, 101]⟩ := by rw [← mk_list s, h6]
    go_enter Tryz.func77, Tryz.ntmps77
    go_wp2
    go_ret
    exact ⟨rfl, rfl⟩
  have g6 : (s.toList == [119, 104, 105, 108, 101]) = false := by rw [ByteArray.toList_eq]; simpa using h6
  by_cases h7 : s.data.toList = [98, 114, 101, 97, 107]
  · obtain rfl : s = ⟨#[98, 114, 101, 97, 107]⟩ := by rw [← mk_list s, h7]
    go_enter Tryz.func77, Tryz.ntmps77
    go_wp2
    go_ret
    exact ⟨rfl, rfl⟩
  have g7 : (s.toList == [98, 114, 101, 97, 107]) = false := by rw [ByteArray.toList_eq]; simpa using h7
  by_cases h8 : s.data.toList = [99, 111, 110, 116, 105, 110, 117, 101]
  · obtain rfl : s = ⟨#[99, 111, 110, 116, 105, 110, 117, 101]⟩ := by rw [← mk_list s, h8]
    go_enter Tryz.func77, Tryz.ntmps77
    go_wp2
    go_ret
    exact ⟨rfl, rfl⟩
  have g8 : (s.toList == [99, 111, 110, 116, 105, 110, 117, 101]) = false := by rw [ByteArray.toList_eq]; simpa using h8
  by_cases h9 : s.data.toList = [116, 104, 114, 111, 119]
  · obtain rfl : s = ⟨#[116, 104, 114, 111, 119]⟩ := by rw [← mk_list s, h9]
    go_enter Tryz.func77, Tryz.ntmps77
    go_wp2
    go_ret
    exact ⟨rfl, rfl⟩
  have g9 : (s.toList == [116, 104, 114, 111, 119]) = false := by rw [ByteArray.toList_eq]; simpa using h9
  by_cases h10 : s.data.toList = [116, 114, 121]
  · obtain rfl : s = ⟨#[116, 114, 121]⟩ := by rw [← mk_list s, h10]
    go_enter Tryz.func77, Tryz.ntmps77
    go_wp2
    go_ret
    exact ⟨rfl, rfl⟩
  have g10 : (s.toList == [116, 114, 121]) = false := by rw [ByteArray.toList_eq]; simpa using h10
  by_cases h11 : s.data.toList = [99, 97, 116, 99, 104]
  · obtain rfl : s = ⟨#[99, 97, 116, 99, 104]⟩ := by rw [← mk_list s, h11]
    go_enter Tryz.func77, Tryz.ntmps77
    go_wp2
    go_ret
    exact ⟨rfl, rfl⟩
  have g11 : (s.toList == [99, 97, 116, 99, 104]) = false := by rw [ByteArray.toList_eq]; simpa using h11
  by_cases h12 : s.data.toList = [116, 114, 117, 101]
  · obtain rfl : s = ⟨#[116, 114, 117, 101]⟩ := by rw [← mk_list s, h12]
    go_enter Tryz.func77, Tryz.ntmps77
    go_wp2
    go_ret
    exact ⟨rfl, rfl⟩
  have g12 : (s.toList == [116, 114, 117, 101]) = false := by rw [ByteArray.toList_eq]; simpa using h12
  by_cases h13 : s.data.toList = [102, 97, 108, 115, 101]
  · obtain rfl : s = ⟨#[102, 97, 108, 115, 101]⟩ := by rw [← mk_list s, h13]
    go_enter Tryz.func77, Tryz.ntmps77
    go_wp2
    go_ret
    exact ⟨rfl, rfl⟩
  have g13 : (s.toList == [102, 97, 108, 115, 101]) = false := by rw [ByteArray.toList_eq]; simpa using h13
  by_cases h14 : s.data.toList = [110, 117, 108, 108]
  · obtain rfl : s = ⟨#[110, 117, 108, 108]⟩ := by rw [← mk_list s, h14]
    go_enter Tryz.func77, Tryz.ntmps77
    go_wp2
    go_ret
    exact ⟨rfl, rfl⟩
  have g14 : (s.toList == [110, 117, 108, 108]) = false := by rw [ByteArray.toList_eq]; simpa using h14
  by_cases h15 : s.data.toList = [117, 110, 100, 101, 102, 105, 110, 101, 100]
  · obtain rfl : s = ⟨#[117, 110, 100, 101, 102, 105, 110, 101, 100]⟩ := by rw [← mk_list s, h15]
    go_enter Tryz.func77, Tryz.ntmps77
    go_wp2
    go_ret
    exact ⟨rfl, rfl⟩
  have g15 : (s.toList == [117, 110, 100, 101, 102, 105, 110, 101, 100]) = false := by rw [ByteArray.toList_eq]; simpa using h15
  by_cases h16 : s.data.toList = [116, 104, 105, 115]
  · obtain rfl : s = ⟨#[116, 104, 105, 115]⟩ := by rw [← mk_list s, h16]
    go_enter Tryz.func77, Tryz.ntmps77
    go_wp2
    go_ret
    exact ⟨rfl, rfl⟩
  have g16 : (s.toList == [116, 104, 105, 115]) = false := by rw [ByteArray.toList_eq]; simpa using h16
  by_cases h17 : s.data.toList = [116, 121, 112, 101, 111, 102]
  · obtain rfl : s = ⟨#[116, 121, 112, 101, 111, 102]⟩ := by rw [← mk_list s, h17]
    go_enter Tryz.func77, Tryz.ntmps77
    go_wp2
    go_ret
    exact ⟨rfl, rfl⟩
  have g17 : (s.toList == [116, 121, 112, 101, 111, 102]) = false := by rw [ByteArray.toList_eq]; simpa using h17
  by_cases h18 : s.data.toList = [121, 105, 101, 108, 100]
  · obtain rfl : s = ⟨#[121, 105, 101, 108, 100]⟩ := by rw [← mk_list s, h18]
    go_enter Tryz.func77, Tryz.ntmps77
    go_wp2
    go_ret
    exact ⟨rfl, rfl⟩
  have g18 : (s.toList == [121, 105, 101, 108, 100]) = false := by rw [ByteArray.toList_eq]; simpa using h18
  have HV : Hid (Lx.isWord s.data.toList = false) := by
    show _ = _
    unfold Lx.isWord Lx.words
    simp only [List.contains_cons, List.contains_nil, Bool.or_false, Bool.or_eq_false_iff, beq_eq_false_iff_ne, ne_eq]
    exact ⟨h0, h1, h2, h3, h4, h5, h6, h7, h8, h9, h10, h11, h12, h13, h14, h15, h16, h17, h18⟩
  rw [HV.out]
  clear h0 h1 h2 h3 h4 h5 h6 h7 h8 h9 h10 h11 h12 h13 h14 h15 h16 h17 h18
  go_enter Tryz.func77, Tryz.ntmps77
  go_wp2
  go_ret
  exact ⟨rfl, rfl⟩
end Go.Proofs.YtpjmapoiinjakaaGreatDoor.L
end
