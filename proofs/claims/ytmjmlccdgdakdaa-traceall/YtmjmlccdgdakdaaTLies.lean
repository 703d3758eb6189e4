-- PROVED: slices of texts: where they lie.
import Derived.Test.YtmjmlccdgdakdaaFAll
namespace Go.Proofs.Ytmjmlccdgdakdaa.F
open Go.RowKit
theorem own_some {w : World} {base n : Nat} {e : TypeId} {v : Value} {xs : List Value} (h : w.ownsRow base e 1 v n xs) (hn : 0 < n) : ∃ g cap, v = .slice (some ⟨g, 0, none⟩) n cap ∧ n ≤ cap ∧ base ≤ g ∧ g < w.heap.size ∧ ∀ j u, xs[j]? = some u → w.cell? ⟨g, j, none⟩ = some u := by
  have hl := h.lt
  have hc := fun g hg => h.cells (g := g) hg
  obtain ⟨_, h1⟩ := h
  rcases h1 with ⟨rfl, rfl⟩ | ⟨g, cap, cur, rfl, h2, h3, h4, _⟩
  · omega
  · refine ⟨g, cap, rfl, h4, h2, (hl g rfl).2, fun j u hj => ?_⟩
    have := hc g rfl j u hj
    by_cases h0 : j = 0
    · subst h0; simpa [Addr.add] using this
    · simpa [Addr.add, h0] using this
end Go.Proofs.Ytmjmlccdgdakdaa.F
namespace Go.Proofs.Ytmjmlccdgdakdaa
open Go.RowKit
/-- The texts L lie from the address on. -/
def Lies (w : World) (ad : Option Addr) (L : List (List UInt8)) : Prop :=
  L.length = 0 ∨ ∃ b off, ad = some ⟨b, off, none⟩ ∧ b < w.heap.size ∧ ∀ j (h : j < L.length), w.cell? ⟨b, off + j, none⟩ = some (.string ⟨L[j].toArray⟩)
theorem Lies.below {w w' : World} {ad : Option Addr} {L : List (List UInt8)} (h : Lies w ad L) (hb : Below w.heap.size w w') : Lies w' ad L := by
  rcases h with h | ⟨b, off, h1, h2, h3⟩
  · exact .inl h
  · exact .inr ⟨b, off, h1, Nat.lt_of_lt_of_le h2 hb.size, fun j hj => (hb.cell h2).trans (h3 j hj)⟩
theorem Lies.take {w : World} {ad : Option Addr} {L : List (List UInt8)} (h : Lies w ad L) (k : Nat) : Lies w ad (L.take k) := by
  rcases h with h | ⟨b, off, h1, h2, h3⟩
  · exact .inl (by simp [h])
  · refine .inr ⟨b, off, h1, h2, fun j hj => ?_⟩
    rw [List.length_take] at hj
    rw [List.getElem_take]
    exact h3 j (by omega)
theorem cell_lt {w : World} {a : Addr} {v : Value} (h : w.cell? a = some v) : a.block < w.heap.size := by
  by_cases hl : a.block < w.heap.size
  · exact hl
  · unfold World.cell? at h
    rw [Array.getElem?_eq_none (by omega)] at h
    simp at h
theorem Lies.own {w : World} {base : Nat} {v : Value} {L : List (List UInt8)} (h : w.ownsRow base 9 1 v L.length (F.texts L)) : ∃ ad cap, v = .slice ad L.length cap ∧ L.length ≤ cap ∧ Lies w ad L := by
  by_cases h0 : L.length = 0
  · obtain ⟨_, h1⟩ := h
    rcases h1 with ⟨rfl, _⟩ | ⟨g, cap, cur, rfl, _, _, h4, _⟩
    · exact ⟨none, 0, by rw [h0], by omega, .inl h0⟩
    · exact ⟨_, cap, rfl, h4, .inl h0⟩
  · obtain ⟨g, cap, rfl, hc, _, hg, hcell⟩ := F.own_some h (by omega)
    refine ⟨_, cap, rfl, hc, .inr ⟨g, 0, rfl, hg, fun j hj => ?_⟩⟩
    rw [Nat.zero_add]
    exact hcell j _ (by simp [F.texts, hj])
end Go.Proofs.Ytmjmlccdgdakdaa
