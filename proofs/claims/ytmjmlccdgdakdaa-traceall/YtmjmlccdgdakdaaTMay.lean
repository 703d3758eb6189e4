-- PROVED: trace.May by its contract.
import Derived.Test.YtmjmlccdgdakdaaTMath
namespace Go.Proofs.Ytmjmlccdgdakdaa.T
open Go.RowKit
theorem ret_bool {a b : Bool} (h : a = b) : Ending.returned (.bool a) = .returned (.bool b) := by rw [h]
def inV (k n : Int) (s : ByteArray) : Value := .agg #[.int .i64 k, .int .i64 n, .string s]
theorem may_eq (k n : Int) (l : List UInt8) (b : Bool) (h : (-2147483648 ≤ n ∧ n ≤ 2147483647 ∧ l.length ≤ 1024 ∧ ((k = 1 ∨ k = 2) ∧ l.length = 0 ∨ (k = 3 ∨ k = 4) ∧ n = 0 ∨ k = 5 ∧ 0 ≤ n ∧ l.length = 0)) ↔ b = true) : Tm.may k n l = b := by
  unfold Tm.may
  cases b
  · rw [decide_eq_false_iff_not, h]; simp
  · rw [decide_eq_true_iff, h]
theorem emp_cases (s : ByteArray) : s.size = 0 ∧ s.toList.isEmpty = true ∨ s.size ≠ 0 ∧ s.toList.isEmpty = false := by
  have h : s.toList.length = s.size := by rw [ByteArray.toList_eq]; exact V.size_list s
  by_cases hz : s.size = 0
  · exact .inl ⟨hz, by rw [List.isEmpty_iff_length_eq_zero]; omega⟩
  · refine .inr ⟨hz, ?_⟩
    rw [Bool.eq_false_iff, Ne, List.isEmpty_iff_length_eq_zero]; omega
set_option maxRecDepth 100000 in
set_option maxHeartbeats 1000000 in
theorem may_any (k n : Int) (s : ByteArray) (w : World) (hs : s.size ≤ maxLen) :
    Calls Try.prog 11 #[.agg #[.int .i64 k, .int .i64 n, .string s]] w fun e w' => e = .returned (.bool (Tm.may k n s.data.toList)) ∧ Below w.heap.size w w' := by
  have hsz := V.size_list s
  have HM : Hid (_) := may_eq k n s.data.toList
  rw [hsz] at HM
  generalize Tm.may k n s.data.toList = r at HM
  clear hsz
  unfold maxLen at hs
  have hemp := emp_cases s
  by_cases h1 : n < -2147483648
  · go_enter Try.func11, Try.ntmps11
    clear hemp
    go_wp2
    go_ret
    exact ⟨ret_bool (HM.out false ⟨fun h => absurd h (by omega), fun h => by cases h⟩).symm, (Below.refl _ _).alloc (Nat.le_refl _) _⟩
  by_cases h2 : 2147483647 < n
  · go_enter Try.func11, Try.ntmps11
    clear hemp
    go_wp2
    go_ret
    exact ⟨ret_bool (HM.out false ⟨fun h => absurd h (by omega), fun h => by cases h⟩).symm, (Below.refl _ _).alloc (Nat.le_refl _) _⟩
  by_cases h3 : 1024 < s.size
  · have h3' : (1024 : Int) < s.size := by omega
    go_enter Try.func11, Try.ntmps11
    clear hemp
    go_wp2
    go_ret
    exact ⟨ret_bool (HM.out false ⟨fun h => absurd h (by omega), fun h => by cases h⟩).symm, (Below.refl _ _).alloc (Nat.le_refl _) _⟩
  have h3' : ¬ ((1024 : Int) < s.size) := by omega
  by_cases k12 : k = 1 ∨ k = 2
  · rcases hemp with ⟨hz, hne⟩ | ⟨hz, hne⟩
    · rcases k12 with rfl | rfl
      all_goals
        go_enter Try.func11, Try.ntmps11
        go_wp2
        go_ret
        exact ⟨ret_bool (HM.out true ⟨fun _ => rfl, fun _ => ⟨by omega, by omega, by omega, by first | exact .inl ⟨.inl (by trivial), by first | trivial | omega⟩ | exact .inl ⟨.inr (by trivial), by first | trivial | omega⟩ | exact .inr (.inl ⟨.inl (by trivial), by first | trivial | omega⟩) | exact .inr (.inl ⟨.inr (by trivial), by first | trivial | omega⟩) | exact .inr (.inr ⟨by trivial, by omega, by omega⟩)⟩⟩).symm, (Below.refl _ _).alloc (Nat.le_refl _) _⟩
    · rcases k12 with rfl | rfl
      all_goals
        go_enter Try.func11, Try.ntmps11
        go_wp2
        go_ret
        exact ⟨ret_bool (HM.out false ⟨fun h => absurd h (by omega), fun h => by cases h⟩).symm, (Below.refl _ _).alloc (Nat.le_refl _) _⟩
  by_cases k34 : k = 3 ∨ k = 4
  · have hn : (n == 0) = decide (n = 0) := by rw [Bool.eq_iff_iff]; simp
    rcases k34 with rfl | rfl
    all_goals
      by_cases h0 : n = 0
      · subst h0
        go_enter Try.func11, Try.ntmps11
        clear hemp
        go_wp2
        go_ret
        exact ⟨ret_bool (HM.out true ⟨fun _ => rfl, fun _ => ⟨by omega, by omega, by omega, by first | exact .inl ⟨.inl (by trivial), by first | trivial | omega⟩ | exact .inl ⟨.inr (by trivial), by first | trivial | omega⟩ | exact .inr (.inl ⟨.inl (by trivial), by first | trivial | omega⟩) | exact .inr (.inl ⟨.inr (by trivial), by first | trivial | omega⟩) | exact .inr (.inr ⟨by trivial, by omega, by omega⟩)⟩⟩).symm, (Below.refl _ _).alloc (Nat.le_refl _) _⟩
      · go_enter Try.func11, Try.ntmps11
        clear hemp
        go_wp2
        go_ret
        exact ⟨ret_bool (HM.out false ⟨fun h => absurd h (by omega), fun h => by cases h⟩).symm, (Below.refl _ _).alloc (Nat.le_refl _) _⟩
  by_cases k5 : k = 5
  · subst k5
    by_cases hn : 0 ≤ n
    · rcases hemp with ⟨hz, hne⟩ | ⟨hz, hne⟩
      · go_enter Try.func11, Try.ntmps11
        go_wp2
        go_ret
        exact ⟨ret_bool (HM.out true ⟨fun _ => rfl, fun _ => ⟨by omega, by omega, by omega, by first | exact .inl ⟨.inl (by trivial), by first | trivial | omega⟩ | exact .inl ⟨.inr (by trivial), by first | trivial | omega⟩ | exact .inr (.inl ⟨.inl (by trivial), by first | trivial | omega⟩) | exact .inr (.inl ⟨.inr (by trivial), by first | trivial | omega⟩) | exact .inr (.inr ⟨by trivial, by omega, by omega⟩)⟩⟩).symm, (Below.refl _ _).alloc (Nat.le_refl _) _⟩
      · go_enter Try.func11, Try.ntmps11
        go_wp2
        go_ret
        exact ⟨ret_bool (HM.out false ⟨fun h => absurd h (by omega), fun h => by cases h⟩).symm, (Below.refl _ _).alloc (Nat.le_refl _) _⟩
    · go_enter Try.func11, Try.ntmps11
      clear hemp
      go_wp2
      go_ret
      exact ⟨ret_bool (HM.out false ⟨fun h => absurd h (by omega), fun h => by cases h⟩).symm, (Below.refl _ _).alloc (Nat.le_refl _) _⟩
  · have n1 : ¬ k = 1 := by omega
    have n2 : ¬ k = 2 := by omega
    have n3 : ¬ k = 3 := by omega
    have n4 : ¬ k = 4 := by omega
    clear k12 k34
    go_enter Try.func11, Try.ntmps11
    clear hemp
    go_wp2
    go_ret
    exact ⟨ret_bool (HM.out false ⟨fun h => absurd h (by omega), fun h => by cases h⟩).symm, (Below.refl _ _).alloc (Nat.le_refl _) _⟩
end Go.Proofs.Ytmjmlccdgdakdaa.T
