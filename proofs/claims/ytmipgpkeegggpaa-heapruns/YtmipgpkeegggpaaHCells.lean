-- PROVED: rows of cells of one's own, side by side; SameCells; Cells of a heap (6.1).
import Derived.Test.YtmipgpkeegggpaaHVals
namespace Go.Proofs.Ytmipgpkeegggpaa.P
open Go.RowKit Hq
set_option linter.unusedVariables false
section
variable {base : Nat} {w w' : World} {v : Value} {L : List Cl}
theorem OC.other (h : OC base w v L) (hk : ∀ k, v.ownBlock = some k → k < w.heap.size → w'.heap[k]? = w.heap[k]?) (kk : Keep [30] base w w') : OC base w' v L := by
  obtain ⟨xs, h1, h2⟩ := h
  exact ⟨xs, own_same h1 fun g cur hg hc => hk g hg (heap_lt hc), h2.keep kk (by simp [Mine])⟩
theorem OC.push2 (h : OC base w v L) (hB : base ≤ w.heap.size) (hl : L.length ≤ 5000) {tB : Nat} {vK vV : Value} {c : Cl} (ht : w.heap[tB]? = some (.cells #[.int .i64 c.kind, .int .i64 c.a, .int .i64 c.b, vK, vV] 30 (0, 0))) (hp : Parts base w vK vV c) (ty : TypeId) :
    ∃ a cap w3, (Builtin.append_ #[22, 22] ty #[v, .slice (some ⟨tB, 0, none⟩) 1 1]).run Try.prog w = .ok (.slice a (L.length + 1) cap) w3 ∧ OC base w3 (.slice a (L.length + 1) cap) (L ++ [c]) ∧ Keep [30] base w w3 ∧ (∀ k, k < w.heap.size → v.ownBlock ≠ some k → w3.heap[k]? = w.heap[k]?) ∧ ((Value.slice a (L.length + 1) cap).ownBlock = v.ownBlock ∨ (Value.slice a (L.length + 1) cap).ownBlock = some w.heap.size) := by
  obtain ⟨xs, ho, hL⟩ := h
  obtain ⟨i0, hi, hz0, hz1, hz2⟩ := info_parts infoCL
  obtain ⟨p1, p2⟩ := hp.one
  obtain ⟨v', w', g1, g2, g3, _, hat⟩ := run_append_own_at (P := Try.prog) w base 22 ty 30 i0 (.agg #[.int .i64 0, .int .i64 0, .int .i64 0, .slice none 0 0, .slice none 0 0]) 5 72 Try.underlying22 hi hz0 hz1 hz2 rfl (by decide) _ L.length xs ho ⟨tB, 0, none⟩ 1 1 [.int .i64 c.kind, .int .i64 c.a, .int .i64 c.b, vK, vV] rfl (by
      intro j u hj
      rw [Go.WideShapes.add_plain, Nat.zero_add, cellsOf ht]
      simpa using hj) (by
      intro u hu
      simp at hu
      rcases hu with rfl | rfl | rfl | rfl | rfl <;> first | rfl | assumption) (by unfold maxLen; omega) (by omega) hB
  obtain ⟨a', cap', rfl⟩ : ∃ a cap, v' = .slice a (L.length + 1) cap := by
    rcases g2.2 with ⟨_, e⟩ | ⟨g, cap, cur, e, _⟩
    · omega
    · exact ⟨_, _, e⟩
  have hrowlt : ∀ k, v.ownBlock = some k → base ≤ k ∧ ∃ arr T fz, w.heap[k]? = some (.cells arr T fz) ∧ T ∈ [30] := fun k hk => by
    rcases ho.2 with ⟨e, _⟩ | ⟨g, cap, cur, e, e1, e2, _⟩
    · rw [e] at hk; simp [Value.ownBlock] at hk
    · rw [e] at hk; simp [Value.ownBlock] at hk; subst hk; exact ⟨e1, cur, _, _, e2, by simp⟩
  have kk : Keep [30] base w w' := (Keep.refl _ _ _).grown g3 hB hrowlt
  exact ⟨a', cap', w', g1, ⟨_, by rw [List.length_append]; exact g2, (hL.keep kk (by simp [Mine])).push ho.1 (hp.keep kk (by simp [Mine]))⟩, kk, fun k hk hne => g3.block k hk fun e => hne e.symm, hat⟩
/-- A copy of a row. -/
theorem OC.copy (h : OC base w v L) (hB : base ≤ w.heap.size) (hl : L.length ≤ 5000) (ty : TypeId) :
    ∃ a cap w3, (Builtin.append_ #[22, 22] ty #[.slice (some ⟨w.heap.size, 0, none⟩) 0 0, v]).run Try.prog (w.alloc (.cells #[] 30)) = .ok (.slice a L.length cap) w3 ∧ OC base w3 (.slice a L.length cap) L ∧ Below w.heap.size w w3 ∧ ∃ g, (Value.slice a L.length cap).ownBlock = some g ∧ w.heap.size ≤ g := by
  obtain ⟨xs, ho, hL⟩ := h
  obtain ⟨i0, hi, hz0, hz1, hz2⟩ := info_parts infoCL
  have hbel : Below w.heap.size w (w.alloc (.cells #[] 30)) := (Below.refl _ _).alloc (Nat.le_refl _) _
  have hown : (w.alloc (.cells #[] 30)).ownsRow w.heap.size 30 5 (.slice (some ⟨w.heap.size, 0, none⟩) 0 0) 0 [] := ⟨by simp, .inr ⟨w.heap.size, 0, #[], rfl, Nat.le_refl _, heap_alloc_new _ _, Nat.le_refl _, by unfold maxLen; omega, by simp, by simp⟩⟩
  by_cases h0 : L.length = 0
  · have hL0 : L = [] := List.length_eq_zero_iff.1 h0
    subst hL0
    obtain ⟨a, cap, rfl⟩ := OC.form ⟨xs, ho, hL⟩
    refine ⟨some ⟨w.heap.size, 0, none⟩, 0, _, run_append_nothing _ 22 22 ty 30 i0 Try.underlying22 hi (some ⟨w.heap.size, 0, none⟩) 0 0 (Nat.le_refl _) _ (src_nothing Try.underlying22 a cap _ _), ⟨[], ?_, fun j hj => by simp at hj⟩, hbel, w.heap.size, rfl, Nat.le_refl _⟩
    exact ⟨by simp, .inr ⟨w.heap.size, 0, #[], rfl, hB, heap_alloc_new _ _, Nat.le_refl _, by unfold maxLen; omega, by simp, by simp⟩⟩
  · obtain ⟨g, cap, cur, rfl, e1, e2, e3, _⟩ := ho.2.resolve_left (fun h => h0 h.2)
    have hcell : ∀ j u, xs[j]? = some u → (w.alloc (.cells #[] 30)).cell? ⟨g, j, none⟩ = some u := fun j u hj => by
      have := ho.cells (g := g) rfl j u hj
      rw [Go.WideShapes.add_plain, Nat.zero_add] at this
      exact (hbel.cell (p := ⟨g, j, none⟩) (heap_lt e2)).trans this
    have hone : ∀ u ∈ xs, u.oneCell' = true := fun u hu => by
      obtain ⟨i, hi⟩ := List.getElem?_of_mem hu
      have hil : i < L.length * 5 := by
        rcases Nat.lt_or_ge i xs.length with h | h
        · have := ho.1; omega
        · rw [List.getElem?_eq_none h] at hi; cases hi
      obtain ⟨vK, vV, c0, c1, c2, c3, c4, c5⟩ := hL (i / 5) (by omega)
      obtain ⟨p1, p2⟩ := c5.one
      have hm : i % 5 = 0 ∨ i % 5 = 1 ∨ i % 5 = 2 ∨ i % 5 = 3 ∨ i % 5 = 4 := by omega
      rcases hm with hm | hm | hm | hm | hm
      · rw [show i = i / 5 * 5 by omega, c0] at hi; cases hi; rfl
      · rw [show i = i / 5 * 5 + 1 by omega, c1] at hi; cases hi; rfl
      · rw [show i = i / 5 * 5 + 2 by omega, c2] at hi; cases hi; rfl
      · rw [show i = i / 5 * 5 + 3 by omega, c3] at hi; cases hi; exact p1
      · rw [show i = i / 5 * 5 + 4 by omega, c4] at hi; cases hi; exact p2
    obtain ⟨v', w', g1, g2, g3, _⟩ := run_append_own (P := Try.prog) (w.alloc (.cells #[] 30)) w.heap.size 22 ty 30 i0 (.agg #[.int .i64 0, .int .i64 0, .int .i64 0, .slice none 0 0, .slice none 0 0]) 5 72 Try.underlying22 hi hz0 hz1 hz2 rfl (by decide) _ 0 [] hown ⟨g, 0, none⟩ L.length cap xs ho.1 (by
        intro j u hj
        rw [Go.WideShapes.add_plain, Nat.zero_add]; exact hcell j u hj) hone (by unfold maxLen; omega) (by omega) hbel.size
    rw [Nat.zero_add, List.nil_append] at g2
    obtain ⟨g', cap', cur', rfl, f1, f2⟩ := g2.2.resolve_left (fun h => h0 h.2)
    have hb2 : Below w.heap.size w w' := hbel.trans ((Below.refl _ _).grown g3 hbel.size fun k hk => (hown.lt k hk).1)
    refine ⟨_, cap', w', g1, ⟨xs, ⟨g2.1, .inr ⟨g', cap', cur', rfl, Nat.le_trans hB f1, f2⟩⟩, hL.keep (S := []) (keepB hB hb2) (by simp)⟩, hb2, g', rfl, f1⟩
/-- One of a row is turned. -/
theorem OC.set (h : OC base w v L) {i : Nat} (hi : i < L.length) {vK vV : Value} {c : Cl} (hc : Parts base w vK vV c) :
    ∃ g cap, v = .slice (some ⟨g, 0, none⟩) L.length cap ∧ L.length ≤ cap ∧ g < w.heap.size ∧ (∀ t, w.frozen? ⟨g, t, none⟩ = false) ∧ (∀ t, t < 5 → ∃ u, w.cell? ⟨g, i * 5 + t, none⟩ = some u) ∧
      OC base (((((w.setCell ⟨g, i * 5, none⟩ (.int .i64 c.kind)).setCell ⟨g, i * 5 + 1, none⟩ (.int .i64 c.a)).setCell ⟨g, i * 5 + 2, none⟩ (.int .i64 c.b)).setCell ⟨g, i * 5 + 3, none⟩ vK).setCell ⟨g, i * 5 + 4, none⟩ vV) v (L.set i c) ∧
      Keep [30] base w (((((w.setCell ⟨g, i * 5, none⟩ (.int .i64 c.kind)).setCell ⟨g, i * 5 + 1, none⟩ (.int .i64 c.a)).setCell ⟨g, i * 5 + 2, none⟩ (.int .i64 c.b)).setCell ⟨g, i * 5 + 3, none⟩ vK).setCell ⟨g, i * 5 + 4, none⟩ vV) := by
  obtain ⟨xs, ho, hL⟩ := h
  obtain ⟨g, cap, cur, rfl, e1, e2, e3, _⟩ := ho.2.resolve_left (fun h => by omega)
  have k0 := (Keep.refl [30] base w).set (p := ⟨g, i * 5, none⟩) e2 (by simp) e1 (.int .i64 c.kind)
  have s0 := Lib.heap_setCell_same (i := i * 5) e2 (.int .i64 c.kind)
  have k1 := k0.set (p := ⟨g, i * 5 + 1, none⟩) s0 (by simp) e1 (.int .i64 c.a)
  have s1 := Lib.heap_setCell_same (i := i * 5 + 1) s0 (.int .i64 c.a)
  have k2 := k1.set (p := ⟨g, i * 5 + 2, none⟩) s1 (by simp) e1 (.int .i64 c.b)
  have s2 := Lib.heap_setCell_same (i := i * 5 + 2) s1 (.int .i64 c.b)
  have k3 := k2.set (p := ⟨g, i * 5 + 3, none⟩) s2 (by simp) e1 vK
  have s3 := Lib.heap_setCell_same (i := i * 5 + 3) s2 vK
  have k4 := k3.set (p := ⟨g, i * 5 + 4, none⟩) s3 (by simp) e1 vV
  refine ⟨g, cap, rfl, e3, heap_lt e2, fun t => ho.frozenAt t, fun t ht => ?_, ⟨_, ?_, (hL.keep k4 (by simp [Mine])).set ho.1 hi (hc.keep k4 (by simp [Mine]))⟩, k4⟩
  · have hlt : i * 5 + t < xs.length := by rw [ho.1]; omega
    have := ho.cellAt (i * 5 + t) (by omega)
    rw [List.getElem?_eq_getElem hlt] at this
    exact ⟨_, this⟩
  · rw [List.length_set]
    exact own_putn (own_putn (own_putn (own_putn (own_putn ho _) _) _) _) _
end
end Go.Proofs.Ytmipgpkeegggpaa.P
