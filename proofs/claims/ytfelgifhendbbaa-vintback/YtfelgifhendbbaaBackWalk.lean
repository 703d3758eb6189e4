/- The walk of VintBack. -/
import Derived.Test.YtfelgifhendbbaaBack
namespace Go.Proofs.Ytfelgifhendbbaa
open Go.RowKit
set_option maxRecDepth 100000 in
set_option maxHeartbeats 1000000 in
theorem back_walk (n : Int) (t A B : ByteArray) (c : Int) (h1 : -9223372036854775808 ≤ n) (h2 : n ≤ 9223372036854775807) (ht : t.size ≤ maxLen) (hA : A.size ≤ maxLen) (hB : B.size ≤ maxLen) (hc0 : 0 ≤ c) (hc1 : c ≤ 255) (w : World) :
    Calls Try.prog 4 #[.int .i64 n, .string t, .string A, .string B, .int .u8 c] w fun e w' => e = .returned (.bool true) ∧ Below w.heap.size w w' := by
  unfold maxLen at ht hA hB
  by_cases k1 : 200 < t.size
  · go_enter Try.func4, Try.ntmps4
    go_wp2_with fail
    refine (awake_any _).mono ?_
    rintro e w1 ⟨rfl, hb⟩
    go_wp2
    go_ret
    exact ⟨rfl, hb⟩
  by_cases k2 : 40 < A.size
  · go_enter Try.func4, Try.ntmps4
    go_wp2_with fail
    refine (awake_any _).mono ?_
    rintro e w1 ⟨rfl, hb⟩
    go_wp2
    go_ret
    exact ⟨rfl, hb⟩
  by_cases k3 : 40 < B.size
  · go_enter Try.func4, Try.ntmps4
    go_wp2_with fail
    refine (awake_any _).mono ?_
    rintro e w1 ⟨rfl, hb⟩
    go_wp2
    go_ret
    exact ⟨rfl, hb⟩
  obtain ⟨P, hP⟩ : ∃ P : ByteArray, P = ⟨(Vn.put n).toArray⟩ := ⟨_, rfl⟩
  obtain ⟨L, hL⟩ : ∃ L : ByteArray, L = ⟨(Vn.put (t.size : Int)).toArray⟩ := ⟨_, rfl⟩
  obtain ⟨Q, hQ⟩ : ∃ Q : ByteArray, Q = ⟨(Vn.text t.data.toList).toArray⟩ := ⟨_, rfl⟩
  have CP : Hid (∀ w, Calls Try.prog 14 #[.int .i64 n] w fun e w' => e = .returned (.string P) ∧ Below w.heap.size w w') := fun w => by rw [hP]; exact put_any n w h1 h2
  have CL : Hid (∀ w, Calls Try.prog 14 #[.int .i64 (t.size : Int)] w fun e w' => e = .returned (.string L) ∧ Below w.heap.size w w') := fun w => by rw [hL]; exact put_any _ w (by omega) (by omega)
  have CQ : Hid (∀ w, Calls Try.prog 16 #[.string t] w fun e w' => e = .returned (.string Q) ∧ Below w.heap.size w w') := fun w => by rw [hQ]; exact text_any t w (by omega)
  have hPl : P.data.toList = Vn.put n := by rw [hP]
  have hLl : L.data.toList = Vn.put (t.size : Int) := by rw [hL]
  have hQl : Q.data.toList = Vn.text t.data.toList := by rw [hQ]
  have hPs : P.size = (Vn.put n).length := by rw [← size_list, hPl]
  have hLs : L.size = (Vn.put (t.size : Int)).length := by rw [← size_list, hLl]
  have hQs : Q.size = L.size + t.size := by rw [← size_list Q, hQl, hLs]; unfold Vn.text; rw [List.length_append, size_list]
  have hp1 := (Vn.put_len n).1
  have hp2 := (Vn.put_len n).2
  have hl1 := (Vn.put_len (t.size : Int)).1
  have hl2 := (Vn.put_len (t.size : Int)).2
  have g1 : 1 ≤ P.size := by omega
  have g2 : P.size ≤ 10 := by omega
  have g3 : 1 ≤ L.size := by omega
  have g4 : L.size ≤ 10 := by omega
  have C1 : Hid (∀ w, Calls Try.prog 10 #[.string (A ++ P ++ B), .int .i64 (A.size : Int)] w fun e w' => e = .returned (.tuple #[.int .i64 n, .int .i64 (A.size + P.size : Int), .int .i64 0]) ∧ w' = w) := fun w => by
    have h := get_any (A ++ P ++ B) (A.size : Int) w (by simp [maxLen]; omega)
    rw [cat_list, cat_list, hPl, ← size_list A, Vn.get_put n _ _ h1 h2] at h
    rw [← size_list A, hPs]; exact h
  have C2 : Hid (∀ w, Calls Try.prog 12 #[.string (A ++ Q ++ B), .int .i64 (A.size : Int)] w fun e w' => e = .returned (.tuple #[.string t, .int .i64 (A.size + Q.size : Int), .int .i64 0]) ∧ Below w.heap.size w w') := fun w => by
    have h := getText_any (A ++ Q ++ B) (A.size : Int) w (by simp [maxLen]; omega)
    rw [cat_list, cat_list, hQl, ← size_list A, Vn.getText_text _ _ _ (by rw [size_list]; omega)] at h
    rw [← size_list A, ← size_list Q, hQl]; exact h
  obtain ⟨c, rfl⟩ := Int.eq_ofNat_of_zero_le hc0
  have m1 : c % P.size < P.size := Nat.mod_lt _ (by omega)
  have m2 : c % Q.size < Q.size := Nat.mod_lt _ (by omega)
  have C3 : Hid (∀ w, Calls Try.prog 10 #[.string (P.extract 0 (c % P.size)), .int .i64 0] w fun e w' => e = .returned (.tuple #[.int .i64 0, .int .i64 0, .int .i64 3]) ∧ w' = w) := fun w => by
    have h := get_any (P.extract 0 (c % P.size)) 0 w (by simp [maxLen, ByteArray.size_extract]; omega)
    rw [cut_list, hPl, Vn.get_cut n _ (by omega)] at h
    exact h
  have C4 : Hid (∀ w, Calls Try.prog 12 #[.string (Q.extract 0 (c % Q.size)), .int .i64 0] w fun e w' => e = .returned (.tuple #[.string ⟨#[]⟩, .int .i64 0, .int .i64 3]) ∧ Below w.heap.size w w') := fun w => by
    have h := getText_any (Q.extract 0 (c % Q.size)) 0 w (by simp [maxLen, ByteArray.size_extract]; omega)
    rw [cut_list, hQl, Vn.getText_cut _ _ (by rw [size_list]; omega) (by rw [← hQl, size_list]; exact m2)] at h
    exact h
  have C5 : Hid (∀ w, Calls Try.prog 10 #[.string P, .int .i64 (P.size + 1 : Int)] w fun e w' => e = .returned (.tuple #[.int .i64 0, .int .i64 0, .int .i64 1]) ∧ w' = w) := fun w => by
    have h := get_any P (P.size + 1 : Int) w (by simp [maxLen]; omega)
    rw [Vn.get_out _ _ (by rw [size_list]; omega)] at h
    exact h
  have C6 : Hid (∀ w, Calls Try.prog 10 #[.string P, .int .i64 (-1)] w fun e w' => e = .returned (.tuple #[.int .i64 0, .int .i64 0, .int .i64 1]) ∧ w' = w) := fun w => by
    have h := get_any P (-1) w (by simp [maxLen]; omega)
    rw [Vn.get_out _ _ (by omega)] at h
    exact h
  clear hP hL hQ hPl hLl hQl hPs hLs hp1 hp2 hl1 hl2
  have HQ : Hid (_) := hQs
  have q1 : L.size + t.size ≤ Q.size := by omega
  have q2 : Q.size ≤ L.size + t.size := by omega
  clear hQs
  go_enter Try.func4, Try.ntmps4
  go_wp2_with fail
  refine Calls.mono (CP.out _) ?_
  rintro e w1 ⟨rfl, hb1⟩
  go_wp2_with fail
  refine Calls.mono (CQ.out _) ?_
  rintro e w2 ⟨rfl, hb2⟩
  go_wp2_with fail
  refine Calls.mono (C1.out _) ?_
  rintro e w3 ⟨rfl, rfl⟩
  go_wp2_with fail
  refine Calls.mono (C2.out _) ?_
  rintro e w4 ⟨rfl, hb4⟩
  have b1 : ((Q.size : Int) != (L.size : Int) + (t.size : Int)) = false := by rw [HQ.out]; simp
  go_wp2_with fail
  refine Calls.mono (CL.out _) ?_
  rintro e w5 ⟨rfl, hb5⟩
  go_wp2_with (go_at_call 18; refine (err_any _ _).mono ?_; rintro e w' ⟨rfl, rfl⟩)
  refine Calls.mono (C3.out _) ?_
  rintro e w6 ⟨rfl, rfl⟩
  go_wp2_with fail
  refine Calls.mono (C4.out _) ?_
  rintro e w7 ⟨rfl, hb7⟩
  go_wp2_with fail
  refine Calls.mono (C5.out _) ?_
  rintro e w8 ⟨rfl, rfl⟩
  go_wp2_with fail
  refine Calls.mono (C6.out _) ?_
  rintro e w9 ⟨rfl, rfl⟩
  go_wp2_with (first | (go_at_call 18; refine (err_any _ _).mono ?_; rintro e w' ⟨rfl, rfl⟩) | (go_at_call 9; refine (awake_any _).mono ?_; rintro e w10 ⟨rfl, hb10⟩))
  go_ret
  exact ⟨rfl, below_chain hb1 (below_chain hb2 (below_chain hb4 (below_chain hb5 (below_chain hb7 hb10))))⟩
end Go.Proofs.Ytfelgifhendbbaa
