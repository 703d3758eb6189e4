-- PROVED: vint.GetText and vint.Text by their contracts.
import Derived.Test.YtmjmlccdgdakdaaVGet
import Derived.Test.YtmjmlccdgdakdaaCGet
namespace Go.Proofs.Ytmjmlccdgdakdaa.Vn
/-- What follows a length n, at the place q: the text, the place behind it, the error. -/
def gt1 (s : List UInt8) (n : Int) (q : Nat) : List UInt8 × Nat × Nat :=
  if n < 0 ∨ 4096 < n then ([], 0, 4) else if (s.length : Int) - q < n then ([], 0, 3) else ((s.drop q).take n.toNat, q + n.toNat, 0)
def getText (s : List UInt8) (p : Int) : List UInt8 × Nat × Nat :=
  if (get s p).2.2 = 0 then gt1 s (get s p).1 (get s p).2.1 else ([], 0, (get s p).2.2)
end Go.Proofs.Ytmjmlccdgdakdaa.Vn
namespace Go.Proofs.Ytmjmlccdgdakdaa.V
open Go.RowKit
set_option maxRecDepth 100000 in
set_option maxHeartbeats 400000 in
theorem gt1_any (s : ByteArray) (n : Int) (q b : Nat) (w : World) (hs : s.size ≤ maxLen) (hq : q ≤ s.size) (hc : w.cell? ⟨b, 0, none⟩ = some (.string s)) :
    Calls Try.prog 51 #[.int .i64 n, .int .i64 (q : Int), .pointer (some ⟨b, 0, none⟩)] w fun e w' =>
      e = .returned (.tuple #[.string ⟨(Vn.gt1 s.data.toList n q).1.toArray⟩, .int .i64 ((Vn.gt1 s.data.toList n q).2.1 : Int), .int .i64 ((Vn.gt1 s.data.toList n q).2.2 : Int)]) ∧ Below w.heap.size w w' := by
  have hsz := size_list s
  generalize hr : Vn.gt1 s.data.toList n q = r
  have HR : Hid (_) := hr
  clear hr
  by_cases h1 : n < 0
  · have HV : Hid (r = ([], 0, 4)) := (show r = ([], 0, 4) from by rw [← HR.out]; unfold Vn.gt1; rw [if_pos (.inl h1)])
    clear hsz HR
    unfold maxLen at hs
    go_enter Try.func51, Try.ntmps51
    go_wp2
    go_ret3
    exact ⟨by rw [HV.out]; rfl, Below.refl _ _⟩
  · by_cases h2 : 4096 < n
    · have HV : Hid (r = ([], 0, 4)) := (show r = ([], 0, 4) from by rw [← HR.out]; unfold Vn.gt1; rw [if_pos (.inr h2)])
      clear hsz HR
      unfold maxLen at hs
      go_enter Try.func51, Try.ntmps51
      go_wp2
      go_ret3
      exact ⟨by rw [HV.out]; rfl, Below.refl _ _⟩
    · by_cases h3 : (s.size : Int) - q < n
      · have HV : Hid (r = ([], 0, 3)) := (show r = ([], 0, 3) from by rw [← HR.out]; unfold Vn.gt1; rw [if_neg (by omega), if_pos (by omega)])
        clear hsz HR
        unfold maxLen at hs
        go_enter Try.func51, Try.ntmps51
        go_wp2_with fail
        go_ret3
        exact ⟨by rw [HV.out]; rfl, Below.refl _ _⟩
      · obtain ⟨m, rfl⟩ := Int.eq_ofNat_of_zero_le (show 0 ≤ n by omega)
        have HV : Hid (r = ((s.data.toList.drop q).take m, q + m, 0)) := (show r = ((s.data.toList.drop q).take m, q + m, 0) from by rw [← HR.out]; unfold Vn.gt1; rw [if_neg (by omega), if_neg (by omega)]; simp)
        clear hsz HR
        unfold maxLen at hs
        go_enter Try.func51, Try.ntmps51
        go_wp2_with fail
        refine (C.clone_any _ _ (by simp [ByteArray.size_extract]; omega)).mono ?_
        rintro e w1 ⟨rfl, hb⟩
        have HX : Hid (_) := extract_eq s q m
        go_wp2
        go_ret3
        exact ⟨by rw [HV.out, HX.out]; rfl, hb⟩
set_option maxRecDepth 100000 in
set_option maxHeartbeats 400000 in
theorem readStr_any (s : ByteArray) (p : Int) (b : Nat) (w : World) (hs : s.size ≤ maxLen) (hc : w.cell? ⟨b, 0, none⟩ = some (.string s)) :
    Calls Try.prog 50 #[.string s, .int .i64 p, .func (.func 51) #[] #[.pointer (some ⟨b, 0, none⟩)]] w fun e w' =>
      e = .returned (.tuple #[.string ⟨(Vn.getText s.data.toList p).1.toArray⟩, .int .i64 ((Vn.getText s.data.toList p).2.1 : Int), .int .i64 ((Vn.getText s.data.toList p).2.2 : Int)]) ∧ Below w.heap.size w w' := by
  have hsz := size_list s
  generalize hr : Vn.getText s.data.toList p = r
  have HR : Hid (_) := hr
  clear hr
  by_cases h1 : p < 0
  · have hg : Vn.get s.data.toList p = (0, 0, 1) := by unfold Vn.get; rw [if_pos (.inl h1)]
    have HV : Hid (r = ([], 0, 1)) := (show r = ([], 0, 1) from by rw [← HR.out]; unfold Vn.getText; rw [hg]; simp)
    clear hsz HR hg hc
    unfold maxLen at hs
    go_enter Try.func50, Try.ntmps50
    go_wp2
    go_ret3
    exact ⟨by rw [HV.out]; rfl, Below.refl _ _⟩
  · by_cases h2 : (s.size : Int) < p
    · have hg : Vn.get s.data.toList p = (0, 0, 1) := by unfold Vn.get; rw [if_pos (.inr (by omega))]
      have HV : Hid (r = ([], 0, 1)) := (show r = ([], 0, 1) from by rw [← HR.out]; unfold Vn.getText; rw [hg]; simp)
      clear hsz HR hg hc
      unfold maxLen at hs
      go_enter Try.func50, Try.ntmps50
      go_wp2
      go_ret3
      exact ⟨by rw [HV.out]; rfl, Below.refl _ _⟩
    · obtain ⟨q, rfl⟩ := Int.eq_ofNat_of_zero_le (show 0 ≤ p by omega)
      have hq : q ≤ s.size := by omega
      have hF := folded_any s q w hs hq
      have hgt := fun n (q' : Nat) (h : q' ≤ s.size) => gt1_any s n q' b w hs h hc
      generalize hu : Vn.getU (s.data.toList.drop q) = u at hF
      have HU : Hid (_) := hu
      clear hu
      have HF : Hid (_) := hF
      have HG : Hid (_) := hgt
      clear hF hgt hc
      by_cases h0 : u.2.2 = 0
      · have hg : Vn.get s.data.toList q = (Vn.unzig u.1, q + u.2.1, 0) := by
          unfold Vn.get; rw [if_neg (by omega), Int.toNat_natCast, HU.out, if_pos h0]
        have HV : Hid (r = Vn.gt1 s.data.toList (Vn.unzig u.1) (q + u.2.1)) := (show r = Vn.gt1 s.data.toList (Vn.unzig u.1) (q + u.2.1) from by
          rw [← HR.out]; unfold Vn.getText; rw [hg]; simp)
        have hok := Vn.getU_ok (l := s.data.toList.drop q) (v := u.1) (c := u.2.1) (by rw [HU.out, ← h0])
        have hbd : (u.1 : Int) ≤ 18446744073709551615 := by
          have := hok.1
          omega
        have hle : q + u.2.1 ≤ s.size := by
          have := hok.2.2.1
          rw [List.length_drop] at this
          omega
        have hnx : nxt q u = q + u.2.1 := by unfold nxt; rw [if_pos h0]
        have HN : Hid (_) := hnx
        have HE : Hid (_) := h0
        have HK : Hid (_) := HG.out (Vn.unzig u.1) (q + u.2.1) hle
        clear hsz HR hnx h0 hg hok HG
        unfold maxLen at hs
        go_enter Try.func50, Try.ntmps50
        go_wp2_with fail
        refine Calls.mono HF.out ?_
        rintro e w' ⟨rfl, rfl⟩
        rw [HE.out, HN.out]
        go_wp2_with fail
        refine (unfold_any _ _ hbd).mono ?_
        rintro e w' ⟨rfl, rfl⟩
        go_wp2_with fail
        refine Calls.mono HK.out ?_
        rintro e w1 ⟨rfl, hb⟩
        go_wp2
        go_ret3
        exact ⟨by rw [HV.out]; rfl, hb⟩
      · have hg : Vn.get s.data.toList q = (0, 0, u.2.2) := by
          unfold Vn.get; rw [if_neg (by omega), Int.toNat_natCast, HU.out, if_neg h0]
        have HV : Hid (r = ([], 0, u.2.2)) := (show r = ([], 0, u.2.2) from by
          rw [← HR.out]; unfold Vn.getText; rw [hg]; simp [h0])
        have hne : ((u.2.2 : Int) != 0) = true := by rw [bne_iff_ne]; omega
        clear hsz HR h0 hg HG
        unfold maxLen at hs
        go_enter Try.func50, Try.ntmps50
        go_wp2_with fail
        refine Calls.mono HF.out ?_
        rintro e w' ⟨rfl, rfl⟩
        go_wp2_with fail
        go_ret3
        exact ⟨by rw [HV.out]; rfl, Below.refl _ _⟩
set_option maxRecDepth 100000 in
set_option maxHeartbeats 400000 in
theorem getText_any (s : ByteArray) (p : Int) (w : World) (hs : s.size ≤ maxLen) :
    Calls Try.prog 42 #[.string s, .int .i64 p] w fun e w' =>
      e = .returned (.tuple #[.string ⟨(Vn.getText s.data.toList p).1.toArray⟩, .int .i64 ((Vn.getText s.data.toList p).2.1 : Int), .int .i64 ((Vn.getText s.data.toList p).2.2 : Int)]) ∧ Below w.heap.size w w' := by
  have HF : Hid (_) := readStr_any s p w.heap.size (w.alloc (.cells #[.string s] 9)) hs (by simp)
  go_enter Try.func42, Try.ntmps42
  go_wp2_with fail
  refine Calls.mono HF.out ?_
  rintro e w' ⟨rfl, hb⟩
  go_wp2
  go_ret3
  exact ⟨rfl, ((Below.refl _ _).alloc (Nat.le_refl _) _).trans (hb.mono (by simp))⟩
end Go.Proofs.Ytmjmlccdgdakdaa.V
namespace Go.Proofs.Ytmjmlccdgdakdaa.Vn
def text (t : List UInt8) : List UInt8 := put t.length ++ t
end Go.Proofs.Ytmjmlccdgdakdaa.Vn
namespace Go.Proofs.Ytmjmlccdgdakdaa.V
open Go.RowKit
theorem cat_eq (l : List UInt8) (s : ByteArray) : (⟨l.toArray⟩ ++ s : ByteArray) = ⟨(l ++ s.data.toList).toArray⟩ := by
  apply ByteArray.ext
  apply Array.ext'
  simp
theorem mk_list (s : ByteArray) : (⟨s.data.toList.toArray⟩ : ByteArray) = s := rfl
set_option maxRecDepth 100000 in
set_option maxHeartbeats 400000 in
theorem text_any (s : ByteArray) (w : World) (hs : s.size ≤ 9223372036854775797) :
    Calls Try.prog 27 #[.string s] w fun e w' => e = .returned (.string ⟨(Vn.text s.data.toList).toArray⟩) ∧ Below w.heap.size w w' := by
  have hsz := size_list s
  have hpl := (Vn.put_len (s.size : Int)).2
  have HC : Hid (_) := cat_eq (Vn.put (s.size : Int)) s
  go_enter Try.func27, Try.ntmps27
  go_wp2_with fail
  refine (put_any _ _ (by omega) (by omega)).mono ?_
  rintro e w1 ⟨rfl, hb⟩
  go_wp2_with fail
  go_ret
  exact ⟨by rw [HC.out]; rfl, hb⟩
end Go.Proofs.Ytmjmlccdgdakdaa.V
