-- PROVED: '[]byte' of a text: a row of one's own.
import Derived.Test.YtmjmlccdgdakdaaCBurstMath
namespace Go.Proofs.Ytmjmlccdgdakdaa.C
open Go.RowKit
theorem conv_bytes (w : World) (P : ByteArray) : ∃ cap w1, (convert 9 50 (.string P)).run Try.prog w = .ok (.slice (some ⟨w.heap.size, 0, none⟩) P.size cap) w1 ∧
    (∀ j (h : j < P.size), w1.cell? ⟨w.heap.size, j, none⟩ = some (.int .u8 (P[j].toNat : Int))) ∧ (∀ j, j < P.size → w1.frozen? ⟨w.heap.size, j, none⟩ = false) ∧ Below w.heap.size w w1 ∧ w1.heap.size = w.heap.size + 1 := by
  refine ⟨_, _, run_bytes_of_string (P := Try.prog) w 9 50 5 P Try.underlying9 Try.underlying50 Try.underlying5, ?_, ?_, ?_, ?_⟩
  · intro j h
    have := World.cell?_alloc_mark w.drew (bytesRow P (grownCap w P.size 0 5)) 5 ((bytesRow P (grownCap w P.size 0 5)).size, (bytesRow P (grownCap w P.size 0 5)).size + 1) j
    rw [bytesRow_at P _ j h] at this
    exact this
  · intro j h
    have hs : P.size ≤ (bytesRow P (grownCap w P.size 0 5)).size := by
      have : (bytesRow P (grownCap w P.size 0 5)).size = P.data.size + (grownCap w P.size 0 5 - P.size) := by unfold bytesRow; simp
      rw [this]; exact Nat.le_add_right _ _
    have := World.frozen?_alloc_mark w.drew (bytesRow P (grownCap w P.size 0 5)) 5 (bytesRow P (grownCap w P.size 0 5)).size ((bytesRow P (grownCap w P.size 0 5)).size + 1) j
    rw [show w.heap.size = w.drew.heap.size from rfl, this]
    simp; omega
  · exact ((Below.refl _ w).drew).alloc (Nat.le_refl _) _
  · simp
theorem byte_at (s : ByteArray) (i : Nat) (h : i < s.size) : s.data.toList[i]? = some s[i] := by
  simp only [ByteArray.getElem_eq_getElem_data]
  rw [Array.getElem?_toList, Array.getElem?_eq_getElem]
theorem Mine.ofText {w W : World} (h : Below w.heap.size w W) (P : ByteArray) : ∃ cap w1, (convert 9 50 (.string P)).run Try.prog W = .ok (.slice (some ⟨W.heap.size, 0, none⟩) P.size cap) w1 ∧ Mine w w1 W.heap.size P.data.toList := by
  obtain ⟨cap, w1, hcv, hc, hf, hb, hz⟩ := conv_bytes W P
  refine ⟨cap, w1, hcv, below_chain h hb, h.size, by omega, fun j b hj => ?_⟩
  have hjl : j < P.size := by
    have := (List.getElem?_eq_some_iff.mp hj).1
    rw [size_list] at this
    exact this
  rw [byte_at P j hjl] at hj
  obtain rfl := Option.some.inj hj
  exact ⟨hc j hjl, hf j hjl⟩
end Go.Proofs.Ytmjmlccdgdakdaa.C
