/- vint.Get by its contract. -/
import Derived.Test.YtmjmlccdgdakdaaVFold
namespace Go.Proofs.Ytmjmlccdgdakdaa.V
open Go.RowKit
end Go.Proofs.Ytmjmlccdgdakdaa.V
namespace Go.Proofs.Ytmjmlccdgdakdaa.Vn
/-- What Get answers: the number, the place behind it, the error. -/
def get (s : List UInt8) (at_ : Int) : Int × Nat × Nat :=
  if at_ < 0 ∨ (s.length : Int) < at_ then (0, 0, 1)
  else if (getU (s.drop at_.toNat)).2.2 = 0 then (unzig (getU (s.drop at_.toNat)).1, at_.toNat + (getU (s.drop at_.toNat)).2.1, 0) else (0, 0, (getU (s.drop at_.toNat)).2.2)
end Go.Proofs.Ytmjmlccdgdakdaa.Vn
namespace Go.Proofs.Ytmjmlccdgdakdaa.V
open Go.RowKit
set_option maxRecDepth 100000 in
set_option maxHeartbeats 400000 in
theorem get1_any (a b : Int) (w : World) :
    Calls Try.prog 49 #[.int .i64 a, .int .i64 b] w fun e w' => e = .returned (.tuple #[.int .i64 a, .int .i64 b, .int .i64 0]) ∧ w' = w := by
  go_enter Try.func49, Try.ntmps49
  go_wp2
  go_ret3
  exact ⟨rfl, rfl⟩
set_option maxRecDepth 100000 in
set_option maxHeartbeats 400000 in
theorem err_any (a : Int) (w : World) : Calls Try.prog 13 #[.int .i64 a] w fun e w' => e = .returned (.int .i64 a) ∧ w' = w := by
  go_enter Try.func13, Try.ntmps13
  go_wp2
  go_ret
  exact ⟨rfl, rfl⟩
theorem extract_eq (s : ByteArray) (q m : Nat) : s.extract q (q + m) = ⟨((s.data.toList.drop q).take m).toArray⟩ := by
  apply ByteArray.ext
  apply Array.ext'
  simp [ByteArray.data_extract, List.extract]
theorem size_list (s : ByteArray) : s.data.toList.length = s.size := rfl
set_option maxRecDepth 100000 in
set_option maxHeartbeats 400000 in
theorem readInt_any (s : ByteArray) (p : Int) (w : World) (hs : s.size ≤ maxLen) :
    Calls Try.prog 48 #[.string s, .int .i64 p, .func (.func 49) #[] #[]] w fun e w' => e = .returned (.tuple #[.int .i64 (Vn.get s.data.toList p).1, .int .i64 ((Vn.get s.data.toList p).2.1 : Int), .int .i64 ((Vn.get s.data.toList p).2.2 : Int)]) ∧ w' = w := by
  have hsz := size_list s
  generalize hr : Vn.get s.data.toList p = r
  have HR : Hid (_) := hr
  clear hr
  by_cases h1 : p < 0
  · have HV : Hid (r = (0, 0, 1)) := (show r = (0, 0, 1) from by rw [← HR.out]; unfold Vn.get; rw [if_pos (.inl h1)])
    clear hsz HR
    unfold maxLen at hs
    go_enter Try.func48, Try.ntmps48
    go_wp2
    go_ret3
    exact ⟨by rw [HV.out]; rfl, rfl⟩
  · by_cases h2 : (s.size : Int) < p
    · have HV : Hid (r = (0, 0, 1)) := (show r = (0, 0, 1) from by rw [← HR.out]; unfold Vn.get; rw [if_pos (.inr (by omega))])
      clear hsz HR
      unfold maxLen at hs
      go_enter Try.func48, Try.ntmps48
      go_wp2
      go_ret3
      exact ⟨by rw [HV.out]; rfl, rfl⟩
    · obtain ⟨q, rfl⟩ := Int.eq_ofNat_of_zero_le (show 0 ≤ p by omega)
      have hq : q ≤ s.size := by omega
      have hF := folded_any s q w hs hq
      generalize hu : Vn.getU (s.data.toList.drop q) = u at hF
      have HU : Hid (_) := hu
      clear hu
      have HF : Hid (_) := hF
      clear hF
      by_cases h0 : u.2.2 = 0
      · have HV : Hid (r = (Vn.unzig u.1, q + u.2.1, 0)) := (show r = (Vn.unzig u.1, q + u.2.1, 0) from by
          rw [← HR.out]; unfold Vn.get; rw [if_neg (by omega), Int.toNat_natCast, HU.out, if_pos h0])
        have hbd : (u.1 : Int) ≤ 18446744073709551615 := by
          have := (Vn.getU_ok (l := s.data.toList.drop q) (v := u.1) (c := u.2.1) (by rw [HU.out, ← h0])).1
          omega
        have hnx : nxt q u = q + u.2.1 := by unfold nxt; rw [if_pos h0]
        have HN : Hid (_) := hnx
        have HE : Hid (_) := h0
        clear hsz HR hnx h0
        unfold maxLen at hs
        go_enter Try.func48, Try.ntmps48
        go_wp2_with fail
        refine Calls.mono HF.out ?_
        rintro e w' ⟨rfl, rfl⟩
        rw [HE.out, HN.out]
        go_wp2_with (first | (go_at_call 61; refine (unfold_any _ _ hbd).mono ?_; rintro e w' ⟨rfl, rfl⟩) | (go_at_call 49; refine (get1_any _ _ _).mono ?_; rintro e w' ⟨rfl, rfl⟩))
        go_ret3
        exact ⟨by rw [HV.out]; rfl, rfl⟩
      · have HV : Hid (r = (0, 0, u.2.2)) := (show r = (0, 0, u.2.2) from by
          rw [← HR.out]; unfold Vn.get; rw [if_neg (by omega), Int.toNat_natCast, HU.out, if_neg h0])
        have hne : ((u.2.2 : Int) != 0) = true := by rw [bne_iff_ne]; omega
        clear hsz HR h0
        unfold maxLen at hs
        go_enter Try.func48, Try.ntmps48
        go_wp2_with fail
        refine Calls.mono HF.out ?_
        rintro e w' ⟨rfl, rfl⟩
        go_wp2_with fail
        go_ret3
        exact ⟨by rw [HV.out]; rfl, rfl⟩
set_option maxRecDepth 100000 in
set_option maxHeartbeats 400000 in
theorem get_any (s : ByteArray) (p : Int) (w : World) (hs : s.size ≤ maxLen) :
    Calls Try.prog 41 #[.string s, .int .i64 p] w fun e w' => e = .returned (.tuple #[.int .i64 (Vn.get s.data.toList p).1, .int .i64 ((Vn.get s.data.toList p).2.1 : Int), .int .i64 ((Vn.get s.data.toList p).2.2 : Int)]) ∧ w' = w := by
  have HF : Hid (_) := readInt_any s p w hs
  go_enter Try.func41, Try.ntmps41
  go_wp2_with fail
  refine Calls.mono HF.out ?_
  rintro e w' ⟨rfl, rfl⟩
  go_wp2
  go_ret3
  exact ⟨rfl, rfl⟩
end Go.Proofs.Ytmjmlccdgdakdaa.V
