-- PROVED: the reference's 'MayInput' (4.1).
import Derived.Test.YtmjmlccdgdakdaaTMay
namespace Go.Proofs.Ytmjmlccdgdakdaa.T
open Go.RowKit
set_option maxRecDepth 100000 in
set_option maxHeartbeats 1000000 in
theorem rmay_any (k n : Int) (s : ByteArray) (w : World) (hs : s.size ≤ maxLen) :
    Calls Try.prog 12 #[.agg #[.int .i64 k, .int .i64 n, .string s]] w fun e w' => e = .returned (.bool (Tm.may k n s.data.toList)) ∧ Below w.heap.size w w' := by
  have hsz := V.size_list s
  have HM : Hid (_) := may_eq k n s.data.toList
  rw [hsz] at HM
  generalize Tm.may k n s.data.toList = r at HM
  clear hsz
  unfold maxLen at hs
  have hemp := emp_cases s
  by_cases g1 : k < 1
  · go_enter Try.func12, Try.ntmps12
    clear hemp
    go_wp2
    go_ret
    exact ⟨ret_bool (HM.out false ⟨fun h => absurd h (by omega), fun h => by cases h⟩).symm, (Below.refl _ _).alloc (Nat.le_refl _) _⟩
  by_cases g5 : 5 < k
  · go_enter Try.func12, Try.ntmps12
    clear hemp
    go_wp2
    go_ret
    exact ⟨ret_bool (HM.out false ⟨fun h => absurd h (by omega), fun h => by cases h⟩).symm, (Below.refl _ _).alloc (Nat.le_refl _) _⟩
  by_cases h1 : n < -2147483648
  · go_enter Try.func12, Try.ntmps12
    clear hemp
    go_wp2
    go_ret
    exact ⟨ret_bool (HM.out false ⟨fun h => absurd h (by omega), fun h => by cases h⟩).symm, (Below.refl _ _).alloc (Nat.le_refl _) _⟩
  by_cases h2 : 2147483647 < n
  · go_enter Try.func12, Try.ntmps12
    clear hemp
    go_wp2
    go_ret
    exact ⟨ret_bool (HM.out false ⟨fun h => absurd h (by omega), fun h => by cases h⟩).symm, (Below.refl _ _).alloc (Nat.le_refl _) _⟩
  by_cases h3 : 1024 < s.size
  · have h3' : (1024 : Int) < s.size := by omega
    go_enter Try.func12, Try.ntmps12
    clear hemp
    go_wp2
    go_ret
    exact ⟨ret_bool (HM.out false ⟨fun h => absurd h (by omega), fun h => by cases h⟩).symm, (Below.refl _ _).alloc (Nat.le_refl _) _⟩
  have h3' : ¬ ((1024 : Int) < s.size) := by omega
  by_cases k12 : k = 1 ∨ k = 2
  · rcases hemp with ⟨hz, hne⟩ | ⟨hz, hne⟩
    · rcases k12 with rfl | rfl
      all_goals
        go_enter Try.func12, Try.ntmps12
        go_wp2
        go_ret
        exact ⟨ret_bool (HM.out true ⟨fun _ => rfl, fun _ => ⟨by omega, by omega, by omega, by first | exact .inl ⟨.inl (by trivial), by first | trivial | omega⟩ | exact .inl ⟨.inr (by trivial), by first | trivial | omega⟩ | exact .inr (.inl ⟨.inl (by trivial), by first | trivial | omega⟩) | exact .inr (.inl ⟨.inr (by trivial), by first | trivial | omega⟩) | exact .inr (.inr ⟨by trivial, by omega, by omega⟩)⟩⟩).symm, (Below.refl _ _).alloc (Nat.le_refl _) _⟩
    · rcases k12 with rfl | rfl
      all_goals
        go_enter Try.func12, Try.ntmps12
        go_wp2
        go_ret
        exact ⟨ret_bool (HM.out false ⟨fun h => absurd h (by omega), fun h => by cases h⟩).symm, (Below.refl _ _).alloc (Nat.le_refl _) _⟩
  by_cases k34 : k = 3 ∨ k = 4
  · have hn : (n == 0) = decide (n = 0) := by rw [Bool.eq_iff_iff]; simp
    rcases k34 with rfl | rfl
    all_goals
      by_cases h0 : n = 0
      · subst h0
        go_enter Try.func12, Try.ntmps12
        clear hemp
        go_wp2
        go_ret
        exact ⟨ret_bool (HM.out true ⟨fun _ => rfl, fun _ => ⟨by omega, by omega, by omega, by first | exact .inl ⟨.inl (by trivial), by first | trivial | omega⟩ | exact .inl ⟨.inr (by trivial), by first | trivial | omega⟩ | exact .inr (.inl ⟨.inl (by trivial), by first | trivial | omega⟩) | exact .inr (.inl ⟨.inr (by trivial), by first | trivial | omega⟩) | exact .inr (.inr ⟨by trivial, by omega, by omega⟩)⟩⟩).symm, (Below.refl _ _).alloc (Nat.le_refl _) _⟩
      · go_enter Try.func12, Try.ntmps12
        clear hemp
        go_wp2
        go_ret
        exact ⟨ret_bool (HM.out false ⟨fun h => absurd h (by omega), fun h => by cases h⟩).symm, (Below.refl _ _).alloc (Nat.le_refl _) _⟩
  by_cases k5 : k = 5
  · subst k5
    by_cases hn : 0 ≤ n
    · rcases hemp with ⟨hz, hne⟩ | ⟨hz, hne⟩
      · go_enter Try.func12, Try.ntmps12
        go_wp2
        go_ret
        exact ⟨ret_bool (HM.out true ⟨fun _ => rfl, fun _ => ⟨by omega, by omega, by omega, by first | exact .inl ⟨.inl (by trivial), by first | trivial | omega⟩ | exact .inl ⟨.inr (by trivial), by first | trivial | omega⟩ | exact .inr (.inl ⟨.inl (by trivial), by first | trivial | omega⟩) | exact .inr (.inl ⟨.inr (by trivial), by first | trivial | omega⟩) | exact .inr (.inr ⟨by trivial, by omega, by omega⟩)⟩⟩).symm, (Below.refl _ _).alloc (Nat.le_refl _) _⟩
      · go_enter Try.func12, Try.ntmps12
        go_wp2
        go_ret
        exact ⟨ret_bool (HM.out false ⟨fun h => absurd h (by omega), fun h => by cases h⟩).symm, (Below.refl _ _).alloc (Nat.le_refl _) _⟩
    · rcases hemp with ⟨hz, hne⟩ | ⟨hz, hne⟩
      all_goals
        go_enter Try.func12, Try.ntmps12
        go_wp2
        go_ret
        exact ⟨ret_bool (HM.out false ⟨fun h => absurd h (by omega), fun h => by cases h⟩).symm, (Below.refl _ _).alloc (Nat.le_refl _) _⟩
  · omega
end Go.Proofs.Ytmjmlccdgdakdaa.T
