/- crc.Get by its contract. -/
import Derived.Test.YtmjmlccdgdakdaaCPut
import Derived.Test.YtmjmlccdgdakdaaShelf
import Derived.Deep.RegionHeld3
import Derived.Deep.DrawnRows
namespace Go.Proofs.Ytmjmlccdgdakdaa.C
open Go.RowKit
theorem below_chain {a b c : World} (h : Below a.heap.size a b) (k : Below b.heap.size b c) : Below a.heap.size a c := h.trans (k.mono h.size)
theorem size_list (s : ByteArray) : s.data.toList.length = s.size := Array.length_toList
theorem extract_eq (s : ByteArray) (q m : Nat) : s.extract q (q + m) = ⟨((s.data.toList.drop q).take m).toArray⟩ := by
  apply ByteArray.ext
  apply Array.ext'
  simp [ByteArray.data_extract, List.extract]
set_option maxRecDepth 100000 in
set_option maxHeartbeats 400000 in
theorem clone_any (s : ByteArray) (w : World) (hs : s.size ≤ 281474976710656) :
    Calls Try.prog 52 #[.string s] w fun e w' => e = .returned (.string s) ∧ Below w.heap.size w w' := by
  have HC : Hid (_) := Try.stringslite_Clone s w hs
  go_enter Try.func52, Try.ntmps52
  go_wp2_with fail
  refine Calls.mono HC.out ?_
  rintro e w1 ⟨rfl, hb⟩
  go_wp2
  go_ret
  exact ⟨rfl, hb⟩
theorem cmp_yes {a b : ByteArray} (h : a.data.toList = b.data.toList) : (a.toList == b.toList) = true := by
  rw [ByteArray.toList_eq, ByteArray.toList_eq, h]; exact beq_self_eq_true _
theorem cmp_no {a b : ByteArray} (h : a.data.toList ≠ b.data.toList) : (a.toList == b.toList) = false := by
  rw [ByteArray.toList_eq, ByteArray.toList_eq, beq_eq_false_iff_ne]; exact h
theorem extract_rest (s : ByteArray) (m : Nat) : (s.extract m s.size).data.toList = s.data.toList.drop m := by
  simp only [ByteArray.data_extract, Array.toList_extract, List.extract]
  rw [List.take_of_length_le (by rw [List.length_drop, size_list]; omega)]
theorem extract_first (s : ByteArray) (m : Nat) : (s.extract 0 m).data.toList = s.data.toList.take m := by
  have := extract_eq s 0 m
  rw [Nat.zero_add] at this
  rw [this, List.drop_zero]
end Go.Proofs.Ytmjmlccdgdakdaa.C
namespace Go.Proofs.Ytmjmlccdgdakdaa.Cm
/-- The text that stands ahead of its sum, and the error. -/
def get (s : List UInt8) : List UInt8 × Nat :=
  if s.length < 4 then ([], 3) else if tail (s.take (s.length - 4)) = s.drop (s.length - 4) then (s.take (s.length - 4), 0) else ([], 5)
end Go.Proofs.Ytmjmlccdgdakdaa.Cm
namespace Go.Proofs.Ytmjmlccdgdakdaa.C
open Go.RowKit
attribute [local go_sem ↓] Go.wp_at_zero Go.wp_at_succ
set_option maxRecDepth 100000 in
set_option maxHeartbeats 1000000 in
theorem get_any (s : ByteArray) (w : World) (hs : s.size ≤ 281474976710656) :
    Calls Try.prog 59 #[.string s] w fun e w' => e = .returned (.tuple #[.string ⟨(Cm.get s.data.toList).1.toArray⟩, .int .i64 ((Cm.get s.data.toList).2 : Int)]) ∧ Below w.heap.size w w' := by
  have hsz := size_list s
  by_cases h4 : s.size < 4
  · have HV : Hid (Cm.get s.data.toList = ([], 3)) := (show Cm.get s.data.toList = ([], 3) from by unfold Cm.get; rw [if_pos (by omega)])
    clear hsz
    go_enter Try.func59, Try.ntmps59
    go_wp2
    go_ret2
    exact ⟨by rw [HV.out]; rfl, Below.refl _ _⟩
  · obtain ⟨m, hm⟩ : ∃ m, s.size = m + 4 := ⟨s.size - 4, by omega⟩
    have hm' : (s.size : Int) = (m : Int) + 4 := by omega
    have hm1 : (m : Int) ≤ (m : Int) + 4 := by omega
    have hm2 : ¬ ((m : Int) + 4 < 4) := by omega
    have hm3 : (0 : Int) ≤ (m : Int) := by omega
    have hT : ∀ W, Calls Try.prog 63 #[.string (s.extract 0 m)] W fun e w' => e = .returned (.string ⟨(Cm.tail (s.data.toList.take m)).toArray⟩) ∧ Below W.heap.size W w' := by
      intro W
      have := tail_any (s.extract 0 m) W (by simp [ByteArray.size_extract, maxLen]; omega)
      rw [extract_first] at this
      exact this
    have hC : ∀ W, Calls Try.prog 52 #[.string (s.extract 0 m)] W fun e w' => e = .returned (.string (s.extract 0 m)) ∧ Below W.heap.size W w' :=
      fun W => clone_any _ W (by simp [ByteArray.size_extract]; omega)
    have C15 : Hid (∀ W, Hid (Below w.heap.size w W) → Calls Try.prog 63 #[.string (s.extract 0 m)] W fun e w' => e = .returned (.string ⟨(Cm.tail (s.data.toList.take m)).toArray⟩) ∧ Hid (Below w.heap.size w w')) :=
      (fun W hW => (hT W).mono fun _ _ ⟨he, hb⟩ => ⟨he, below_chain hW.out hb⟩ : ∀ W, Hid (Below w.heap.size w W) → Calls Try.prog 63 #[.string (s.extract 0 m)] W fun e w' => e = .returned (.string ⟨(Cm.tail (s.data.toList.take m)).toArray⟩) ∧ Hid (Below w.heap.size w w'))
    have HC : Hid (_) := hC
    clear hC hT
    by_cases hq : Cm.tail (s.data.toList.take m) = s.data.toList.drop m
    · have HV : Hid (Cm.get s.data.toList = (s.data.toList.take m, 0)) := (show Cm.get s.data.toList = (s.data.toList.take m, 0) from by
        unfold Cm.get; rw [if_neg (by omega), hsz, hm, Nat.add_sub_cancel, if_pos hq])
      have hne : ((⟨(Cm.tail (s.data.toList.take m)).toArray⟩ : ByteArray).toList == (s.extract m s.size).toList) = true := cmp_yes (by rw [extract_rest, ← hq])
      clear hsz hm hq
      have hW : Hid (Below w.heap.size w w) := Below.refl _ _
      generalize (⟨(Cm.tail (s.data.toList.take m)).toArray⟩ : ByteArray) = T at C15 hne
      go_enter Try.func59, Try.ntmps59
      go_wp2
      go_region_held3 (fun W => Hid (Below w.heap.size w W)) (first | assumption | exact Below.drew (Hid.out (by assumption))) (first | (go_at_call 63; refine Calls.mono (C15.out _ (by assumption)) ?_; rintro e w7 ⟨rfl, hW7⟩))
      go_wp2_with (go_at_call 52; refine Calls.mono (HC.out _) ?_; rintro e w8 ⟨rfl, hb8⟩)
      go_ret2
      exact ⟨by rw [HV.out, ← extract_first]; rfl, below_chain hW7.out hb8⟩
    · have HV : Hid (Cm.get s.data.toList = ([], 5)) := (show Cm.get s.data.toList = ([], 5) from by
        unfold Cm.get; rw [if_neg (by omega), hsz, hm, Nat.add_sub_cancel, if_neg hq])
      have hne : ((⟨(Cm.tail (s.data.toList.take m)).toArray⟩ : ByteArray).toList == (s.extract m s.size).toList) = false := cmp_no (by rw [extract_rest]; exact hq)
      clear hsz hm hq
      have hW : Hid (Below w.heap.size w w) := Below.refl _ _
      generalize (⟨(Cm.tail (s.data.toList.take m)).toArray⟩ : ByteArray) = T at C15 hne
      go_enter Try.func59, Try.ntmps59
      go_wp2
      go_region_held3 (fun W => Hid (Below w.heap.size w W)) (first | assumption | exact Below.drew (Hid.out (by assumption))) (first | (go_at_call 63; refine Calls.mono (C15.out _ (by assumption)) ?_; rintro e w7 ⟨rfl, hW7⟩))
      go_wp2
      go_ret2
      exact ⟨by rw [HV.out]; rfl, hW7.out⟩
end Go.Proofs.Ytmjmlccdgdakdaa.C
