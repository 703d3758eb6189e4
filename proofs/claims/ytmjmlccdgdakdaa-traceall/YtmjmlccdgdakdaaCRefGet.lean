/- The reference's answer to bytes with a sum. -/
import Derived.Test.YtmjmlccdgdakdaaCRef
namespace Go.Proofs.Ytmjmlccdgdakdaa.C
open Go.RowKit
attribute [local go_sem ↓] Go.wp_at_zero Go.wp_at_succ
theorem alloc_size (w : World) (o : Obj) : (w.alloc o).heap.size = w.heap.size + 1 := Array.size_push _
theorem said_cells {w w1 : World} (hB : Below (w.heap.size + 1) (w.alloc (.cells #[.string ⟨#[]⟩, .int .i64 0, .int .i64 0] 32)) w1) :
    w1.cell? ⟨w.heap.size, 0, none⟩ = some (.string ⟨#[]⟩) ∧ w1.cell? ⟨w.heap.size, 1, none⟩ = some (.int .i64 0) ∧ w1.cell? ⟨w.heap.size, 2, none⟩ = some (.int .i64 0) ∧
    w1.frozen? ⟨w.heap.size, 0, none⟩ = false ∧ w1.frozen? ⟨w.heap.size, 1, none⟩ = false ∧ w1.frozen? ⟨w.heap.size, 2, none⟩ = false := by
  refine ⟨?_, ?_, ?_, ?_, ?_, ?_⟩
  · rw [hB.cell (Nat.lt_succ_self _)]; simp
  · rw [hB.cell (Nat.lt_succ_self _)]; simp
  · rw [hB.cell (Nat.lt_succ_self _)]; simp
  · rw [hB.frozen (Nat.lt_succ_self _)]; simp
  · rw [hB.frozen (Nat.lt_succ_self _)]; simp
  · rw [hB.frozen (Nat.lt_succ_self _)]; simp
set_option maxRecDepth 100000 in
set_option maxHeartbeats 1000000 in
theorem rget_any (s : ByteArray) (w : World) (hs : s.size ≤ 281474976710656) :
    Calls Try.prog 46 #[.string s] w fun e w' => e = .returned (.agg #[.string ⟨(Cm.get s.data.toList).1.toArray⟩, .int .i64 0, .int .i64 ((Cm.get s.data.toList).2 : Int)]) ∧ Below w.heap.size w w' := by
  have hsz := size_list s
  by_cases h4 : s.size < 4
  · have HV : Hid (Cm.get s.data.toList = ([], 3)) := (show Cm.get s.data.toList = ([], 3) from by unfold Cm.get; rw [if_pos (by omega)])
    clear hsz
    go_enter Try.func46, Try.ntmps46
    go_wp2
    refine bodyPost_ret (v := .agg #[.string ⟨#[]⟩, .int .i64 0, .int .i64 3]) (by simp [results, Try.results46, go_sem]) rfl ⟨by rw [HV.out]; rfl, (Below.refl _ _).alloc (Nat.le_refl _) _⟩
  · obtain ⟨m, hm⟩ : ∃ m, s.size = m + 4 := ⟨s.size - 4, by omega⟩
    have hm' : (s.size : Int) = (m : Int) + 4 := by omega
    have hm1 : (m : Int) ≤ (m : Int) + 4 := by omega
    have hm2 : ¬ ((m : Int) + 4 < 4) := by omega
    have hm3 : (0 : Int) ≤ (m : Int) := by omega
    have hT : Hid (∀ W, Calls Try.prog 38 #[.string (s.extract 0 m)] W fun e w' => e = .returned (.string ⟨(Cm.put (s.data.toList.take m)).toArray⟩) ∧ Below W.heap.size W w') :=
      (show ∀ W, Calls Try.prog 38 #[.string (s.extract 0 m)] W fun e w' => e = .returned (.string ⟨(Cm.put (s.data.toList.take m)).toArray⟩) ∧ Below W.heap.size W w' from by
        intro W
        have := rput_any (s.extract 0 m) W (by simp [ByteArray.size_extract]; omega)
        rw [extract_first] at this
        exact this)
    have hiff : Cm.put (s.data.toList.take m) = s.data.toList ↔ Cm.tail (s.data.toList.take m) = s.data.toList.drop m := by
      unfold Cm.put
      constructor
      · intro h
        have h2 : s.data.toList.take m ++ Cm.tail (s.data.toList.take m) = s.data.toList.take m ++ s.data.toList.drop m := by rw [h, List.take_append_drop]
        exact List.append_cancel_left h2
      · intro h
        rw [h, List.take_append_drop]
    by_cases hq : Cm.tail (s.data.toList.take m) = s.data.toList.drop m
    · have HV : Hid (Cm.get s.data.toList = (s.data.toList.take m, 0)) := (show Cm.get s.data.toList = (s.data.toList.take m, 0) from by
        unfold Cm.get; rw [if_neg (by omega), hsz, hm, Nat.add_sub_cancel, if_pos hq])
      have hne : ((⟨(Cm.put (s.data.toList.take m)).toArray⟩ : ByteArray).toList == s.toList) = true := cmp_yes (hiff.2 hq)
      clear hsz hm hq hiff
      generalize (⟨(Cm.put (s.data.toList.take m)).toArray⟩ : ByteArray) = T at hT hne
      go_enter Try.func46, Try.ntmps46
      go_wp2_with fail
      refine Calls.mono (hT.out _) ?_
      rintro e w1 ⟨rfl, hb1⟩
      have hB : Below (w.heap.size + 1) (w.alloc (.cells #[.string ⟨#[]⟩, .int .i64 0, .int .i64 0] 32)) w1 := hb1.mono (by simp)
      obtain ⟨q0, q1, q2, f0, f1, f2⟩ := said_cells hB
      have hlt1 : w.heap.size < w1.heap.size := by have := hb1.size; simp at this; omega
      have hBB := ((Below.refl w.heap.size w).alloc (Nat.le_refl _) (.cells #[.string ⟨#[]⟩, .int .i64 0, .int .i64 0] 32)).trans (hB.mono (Nat.le_succ _))
      clear hb1 hB
      go_wp2_with fail
      refine bodyPost_ret (v := .agg #[.string (s.extract 0 m), .int .i64 0, .int .i64 0]) (by simp [results, Try.results46, go_sem, *]) rfl ⟨by rw [HV.out, ← extract_first]; rfl, ?_⟩
      repeat (first | exact hBB | (refine Below.drew ?_) | (refine Below.setCell ?_ (by exact Nat.le_refl _) _))
    · have HV : Hid (Cm.get s.data.toList = ([], 5)) := (show Cm.get s.data.toList = ([], 5) from by
        unfold Cm.get; rw [if_neg (by omega), hsz, hm, Nat.add_sub_cancel, if_neg hq])
      have hne : ((⟨(Cm.put (s.data.toList.take m)).toArray⟩ : ByteArray).toList == s.toList) = false := cmp_no (fun h => hq (hiff.1 h))
      clear hsz hm hq hiff
      generalize (⟨(Cm.put (s.data.toList.take m)).toArray⟩ : ByteArray) = T at hT hne
      go_enter Try.func46, Try.ntmps46
      go_wp2_with fail
      refine Calls.mono (hT.out _) ?_
      rintro e w1 ⟨rfl, hb1⟩
      have hB : Below (w.heap.size + 1) (w.alloc (.cells #[.string ⟨#[]⟩, .int .i64 0, .int .i64 0] 32)) w1 := hb1.mono (by simp)
      obtain ⟨q0, q1, q2, f0, f1, f2⟩ := said_cells hB
      have hlt1 : w.heap.size < w1.heap.size := by have := hb1.size; simp at this; omega
      have hBB := ((Below.refl w.heap.size w).alloc (Nat.le_refl _) (.cells #[.string ⟨#[]⟩, .int .i64 0, .int .i64 0] 32)).trans (hB.mono (Nat.le_succ _))
      clear hb1 hB
      go_wp2_with fail
      refine bodyPost_ret (v := .agg #[.string ⟨#[]⟩, .int .i64 0, .int .i64 5]) (by simp [results, Try.results46, go_sem, *]) rfl ⟨by rw [HV.out]; rfl, ?_⟩
      repeat (first | exact hBB | (refine Below.drew ?_) | (refine Below.setCell ?_ (by exact Nat.le_refl _) _))
end Go.Proofs.Ytmjmlccdgdakdaa.C
