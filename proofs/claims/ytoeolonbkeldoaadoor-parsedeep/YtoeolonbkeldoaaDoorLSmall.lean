/- Package lex's small functions, each by a contract: kinds of bytes; what begins a text; where a line ends. -/
import Derived.Test.YtoeolonbkeldoaaDoorLxL
import Derived.Test.YtoeolonbkeldoaaDoorRows
import Derived.WalkSpells
import Derived.WalkLawsBesides
import Derived.Lib.Bytealg
namespace Go.Proofs.YtoeolonbkeldoaaDoor.L
open Go.RowKit
set_option linter.unusedVariables false
theorem ret_int {k : IntKind} {a b : Int} (h : a = b) : Ending.returned (.int k a) = .returned (.int k b) := by rw [h]
theorem ret_bool {a b : Bool} (h : a = b) : Ending.returned (.bool a) = .returned (.bool b) := by rw [h]
def intOf : Value → Int | .int _ q => q | _ => 0
theorem size_list (s : ByteArray) : s.data.toList.length = s.size := Array.length_toList
theorem at_list (s : ByteArray) (i : Nat) (h : i < s.size) : s.data.toList[i]'(by rw [size_list]; exact h) = s[i] := rfl
theorem extract_eq (s : ByteArray) (q m : Nat) : s.extract q (q + m) = ⟨((s.data.toList.drop q).take m).toArray⟩ := by
  apply ByteArray.ext
  apply Array.ext'
  rw [ByteArray.data_extract, Array.toList_extract]
  simp [List.take_drop]
theorem digit_any (c : UInt8) (w : World) : Calls Tryd.prog 37 #[.int .u8 (c.toNat : Int)] w fun e w' => e = .returned (.bool (Lx.digit c)) ∧ w' = w := by
  have H : Hid (Lx.digit c = (decide (48 ≤ (c.toNat : Int)) && decide ((c.toNat : Int) ≤ 57))) := by
    unfold Lx.digit; congr 1 <;> (apply decide_eq_decide.2; omega)
  generalize (c.toNat : Int) = n at H ⊢
  by_cases h1 : 48 ≤ n
  all_goals
    by_cases h2 : n ≤ 57
    all_goals
      go_enter Tryd.func37, Tryd.ntmps37
      go_wp2
      go_ret
      exact ⟨ret_bool (by rw [H.out]; simp [h1, h2]), rfl⟩
theorem blank_any (c : UInt8) (w : World) : Calls Tryd.prog 33 #[.int .u8 (c.toNat : Int)] w fun e w' => e = .returned (.bool (Lx.blank c)) ∧ w' = w := by
  have H : Hid (Lx.blank c = (decide ((c.toNat : Int) = 9) || decide ((c.toNat : Int) = 10) || decide ((c.toNat : Int) = 13) || decide ((c.toNat : Int) = 32))) := by
    unfold Lx.blank; congr 1; congr 1; congr 1
    all_goals (apply decide_eq_decide.2; omega)
  generalize (c.toNat : Int) = n at H ⊢
  by_cases h1 : n = 9
  · subst h1
    go_enter Tryd.func33, Tryd.ntmps33
    go_wp2
    go_ret
    exact ⟨ret_bool (by rw [H.out]; rfl), rfl⟩
  by_cases h2 : n = 10
  · subst h2
    go_enter Tryd.func33, Tryd.ntmps33
    go_wp2
    go_ret
    exact ⟨ret_bool (by rw [H.out]; rfl), rfl⟩
  by_cases h3 : n = 13
  · subst h3
    go_enter Tryd.func33, Tryd.ntmps33
    go_wp2
    go_ret
    exact ⟨ret_bool (by rw [H.out]; rfl), rfl⟩
  by_cases h4 : n = 32
  · subst h4
    go_enter Tryd.func33, Tryd.ntmps33
    go_wp2
    go_ret
    exact ⟨ret_bool (by rw [H.out]; rfl), rfl⟩
  have e1 : (n == 9) = false := by simpa using h1
  have e2 : (n == 10) = false := by simpa using h2
  have e3 : (n == 13) = false := by simpa using h3
  have e4 : (n == 32) = false := by simpa using h4
  go_enter Tryd.func33, Tryd.ntmps33
  go_wp2
  go_ret
  exact ⟨ret_bool (by rw [H.out]; simp [h1, h2, h3, h4]), rfl⟩
theorem letter_any (c : UInt8) (w : World) : Calls Tryd.prog 45 #[.int .u8 (c.toNat : Int)] w fun e w' => e = .returned (.bool (Lx.letter c)) ∧ w' = w := by
  have H : Hid (Lx.letter c = ((decide (97 ≤ (c.toNat : Int)) && decide ((c.toNat : Int) ≤ 122)) || (decide (65 ≤ (c.toNat : Int)) && decide ((c.toNat : Int) ≤ 90)) || decide ((c.toNat : Int) = 95) || decide ((c.toNat : Int) = 36))) := by
    unfold Lx.letter; congr 1; congr 1; congr 1; congr 1
    all_goals first | (apply decide_eq_decide.2; omega) | (congr 1 <;> (apply decide_eq_decide.2; omega))
  generalize (c.toNat : Int) = n at H ⊢
  by_cases h5 : n = 95
  · subst h5
    go_enter Tryd.func45, Tryd.ntmps45
    go_wp2
    go_ret
    exact ⟨ret_bool (by rw [H.out]; rfl), rfl⟩
  by_cases h6 : n = 36
  · subst h6
    go_enter Tryd.func45, Tryd.ntmps45
    go_wp2
    go_ret
    exact ⟨ret_bool (by rw [H.out]; rfl), rfl⟩
  have e5 : (n == 95) = false := by simpa using h5
  have e6 : (n == 36) = false := by simpa using h6
  by_cases h1 : 97 ≤ n
  all_goals
    by_cases h2 : n ≤ 122
    all_goals
      by_cases h3 : 65 ≤ n
      all_goals
        by_cases h4 : n ≤ 90
        all_goals
          first
          | (exfalso; omega)
          | (go_enter Tryd.func45, Tryd.ntmps45
             go_wp2
             go_ret
             exact ⟨ret_bool (by rw [H.out]; simp [h1, h2, h3, h4, h5, h6]), rfl⟩)
theorem ofName_any (c : UInt8) (w : World) : Calls Tryd.prog 40 #[.int .u8 (c.toNat : Int)] w fun e w' => e = .returned (.bool (Lx.ofName c)) ∧ w' = w := by
  have H1 : Hid (_) := fun W => letter_any c W
  have H2 : Hid (_) := fun W => digit_any c W
  have H : Hid (Lx.ofName c = (Lx.letter c || Lx.digit c)) := rfl
  generalize Lx.ofName c = o at H ⊢
  generalize Lx.letter c = a at H H1
  generalize Lx.digit c = b at H H2
  generalize (c.toNat : Int) = n at *
  cases a
  all_goals
    go_enter Tryd.func40, Tryd.ntmps40
    go_wp2_with (first | (go_at_call 45; refine Calls.mono (H1.out _) ?_; rintro e w' ⟨rfl, rfl⟩) | (go_at_call 37; refine Calls.mono (H2.out _) ?_; rintro e w' ⟨rfl, rfl⟩))
    go_ret
    exact ⟨ret_bool (by rw [H.out]; simp), rfl⟩
set_option maxHeartbeats 400000 in
theorem pre_any (s p : ByteArray) (w : World) (hs : s.size ≤ 281474976710656) (hp : p.size ≤ 100) :
    Calls Tryd.prog 34 #[.string s, .string p] w fun e w' => e = .returned (.bool (Lx.isPre p.data.toList s.data.toList)) ∧ w' = w := by
  have H : Hid (Lx.isPre p.data.toList s.data.toList = (decide (p.size ≤ s.size) && decide (s.data.toList.take p.size = p.data.toList))) := by
    show _ = _
    unfold Lx.isPre; rw [size_list, size_list]
  have hin : ∀ W, Calls Tryd.prog 57 #[.string s, .string p] W fun e w' => e = .returned (.bool (Lx.isPre p.data.toList s.data.toList)) ∧ w' = W := by
    intro W
    by_cases h : p.size ≤ s.size
    · have hx : Hid ((s.extract 0 p.size).toList = s.data.toList.take p.size) := by
        have := extract_eq s 0 p.size
        rw [Nat.zero_add] at this
        show _ = _
        rw [this]
        simp [ByteArray.toList_eq]
      have h' : (p.size : Int) ≤ s.size := by omega
      have hb : Hid (((s.extract 0 p.size).toList == p.toList) = decide (s.data.toList.take p.size = p.data.toList)) := by
        show _ = _
        rw [hx.out, ByteArray.toList_eq]
        by_cases e : s.data.toList.take p.size = p.data.toList <;> simp [e]
      go_enter Tryd.func57, Tryd.ntmps57
      go_wp2
      go_ret
      refine ⟨ret_bool ?_, rfl⟩
      rw [H.out, ← hb.out]
      simp [h]
    · have h' : ¬ (p.size : Int) ≤ s.size := by omega
      go_enter Tryd.func57, Tryd.ntmps57
      go_wp2
      go_ret
      refine ⟨ret_bool ?_, rfl⟩
      rw [H.out]
      simp [h]
  have HI : Hid (_) := hin
  clear hin H
  generalize Lx.isPre p.data.toList s.data.toList = b at *
  go_enter Tryd.func34, Tryd.ntmps34
  go_wp2_with (go_at_call 57; refine Calls.mono (HI.out _) ?_; rintro e w' ⟨rfl, rfl⟩)
  go_ret
  exact ⟨rfl, rfl⟩
end Go.Proofs.YtoeolonbkeldoaaDoor.L
