-- PROVED: rows of cells of one's own, copied, turned, grown.
import Derived.Test.YtmipgpkeegggpaaPOwn
namespace Go.Proofs.Ytmipgpkeegggpaa.P
open Go.RowKit
set_option linter.unusedVariables false
theorem infoCL : (Try.prog.info? 30).map (fun i => (i.zero, i.size, i.bytes)) = some (some (.agg #[.int .i64 0, .int .i64 0, .int .i64 0, .slice none 0 0, .slice none 0 0]), 5, 72) := by kernel_rfl
theorem own_putn {base : Nat} {w : World} {e : TypeId} {sz g n cap j : Nat} {xs : List Value} (h : w.ownsRow base e sz (.slice (some ⟨g, 0, none⟩) n cap) n xs) (u : Value) : (w.setCell ⟨g, j, none⟩ u).ownsRow base e sz (.slice (some ⟨g, 0, none⟩) n cap) n (xs.set j u) := by
  obtain ⟨h0, h1⟩ := h
  refine ⟨by simpa using h0, ?_⟩
  rcases h1 with ⟨h1, _⟩ | ⟨g', cap', cur, h1, h2, h3, h4, h5, h6, h7⟩
  · cases h1
  · injection h1 with e1 e2 e3
    injection e1 with e1
    injection e1 with e1
    subst e1
    refine .inr ⟨g, cap', _, by rw [e3], h2, Lib.heap_setCell_same h3 u, h4, h5, by simpa using h6, ?_⟩
    rw [Array.toList_setIfInBounds, ← h7]
    rw [List.take_set]
/-- The values xs are those of the cells L. -/
def Lst (base : Nat) (w : World) (xs : List Value) (L : List Cl) : Prop :=
  ∀ j (h : j < L.length), ∃ vK vV, xs[j * 5]? = some (.int .i64 L[j].kind) ∧ xs[j * 5 + 1]? = some (.int .i64 L[j].a) ∧ xs[j * 5 + 2]? = some (.int .i64 L[j].b) ∧ xs[j * 5 + 3]? = some vK ∧ xs[j * 5 + 4]? = some vV ∧ Parts base w vK vV L[j]
section
variable {base : Nat} {w w' : World} {xs : List Value} {L : List Cl}
theorem Lst.keep {S : List TypeId} (h : Lst base w xs L) (k : Keep S base w w') (hM : ∀ T, T ∈ S → Mine T) : Lst base w' xs L := fun j hj => by
  obtain ⟨vK, vV, c0, c1, c2, c3, c4, c5⟩ := h j hj
  exact ⟨vK, vV, c0, c1, c2, c3, c4, c5.keep k hM⟩
theorem Lst.set (h : Lst base w xs L) (hl : xs.length = L.length * 5) {i : Nat} (hi : i < L.length) {vK vV : Value} {c : Cl} (hc : Parts base w vK vV c) :
    Lst base w (((((xs.set (i * 5) (.int .i64 c.kind)).set (i * 5 + 1) (.int .i64 c.a)).set (i * 5 + 2) (.int .i64 c.b)).set (i * 5 + 3) vK).set (i * 5 + 4) vV) (L.set i c) := fun j hj => by
  rw [List.length_set] at hj
  by_cases e : j = i
  · subst e
    refine ⟨vK, vV, ?_, ?_, ?_, ?_, ?_, by simpa using hc⟩
    · rw [List.getElem?_set_ne (by omega), List.getElem?_set_ne (by omega), List.getElem?_set_ne (by omega), List.getElem?_set_ne (by omega), List.getElem?_set_self (by omega)]; simp
    · rw [List.getElem?_set_ne (by omega), List.getElem?_set_ne (by omega), List.getElem?_set_ne (by omega), List.getElem?_set_self (by simp; omega)]; simp
    · rw [List.getElem?_set_ne (by omega), List.getElem?_set_ne (by omega), List.getElem?_set_self (by simp; omega)]; simp
    · rw [List.getElem?_set_ne (by omega), List.getElem?_set_self (by simp; omega)]
    · rw [List.getElem?_set_self (by simp; omega)]
  · obtain ⟨vK', vV', c0, c1, c2, c3, c4, c5⟩ := h j hj
    have e' : (L.set i c)[j]'(by rw [List.length_set]; exact hj) = L[j] := by rw [List.getElem_set_ne (fun e' => e e'.symm)]
    rw [e']
    refine ⟨vK', vV', ?_, ?_, ?_, ?_, ?_, c5⟩ <;> (rw [List.getElem?_set_ne (by omega), List.getElem?_set_ne (by omega), List.getElem?_set_ne (by omega), List.getElem?_set_ne (by omega), List.getElem?_set_ne (by omega)]; assumption)
theorem Lst.push (h : Lst base w xs L) (hl : xs.length = L.length * 5) {vK vV : Value} {c : Cl} (hc : Parts base w vK vV c) : Lst base w (xs ++ [.int .i64 c.kind, .int .i64 c.a, .int .i64 c.b, vK, vV]) (L ++ [c]) := fun j hj => by
  rw [List.length_append, List.length_singleton] at hj
  by_cases e : j = L.length
  · subst e
    have e' : (L ++ [c])[L.length]'(by simp) = c := by simp
    rw [e']
    refine ⟨vK, vV, ?_, ?_, ?_, ?_, ?_, hc⟩
    · rw [List.getElem?_append_right (by omega), show L.length * 5 - xs.length = 0 by omega]; rfl
    · rw [List.getElem?_append_right (by omega), show L.length * 5 + 1 - xs.length = 1 by omega]; rfl
    · rw [List.getElem?_append_right (by omega), show L.length * 5 + 2 - xs.length = 2 by omega]; rfl
    · rw [List.getElem?_append_right (by omega), show L.length * 5 + 3 - xs.length = 3 by omega]; rfl
    · rw [List.getElem?_append_right (by omega), show L.length * 5 + 4 - xs.length = 4 by omega]; rfl
  · have hj' : j < L.length := by omega
    obtain ⟨vK', vV', c0, c1, c2, c3, c4, c5⟩ := h j hj'
    have e' : (L ++ [c])[j]'(by simp; omega) = L[j] := by rw [List.getElem_append_left hj']
    rw [e']
    refine ⟨vK', vV', ?_, ?_, ?_, ?_, ?_, c5⟩ <;> (rw [List.getElem?_append_left (by omega)]; assumption)
theorem Cells.own {B n : Nat} {v : Value} (h : w.ownsRow B 30 5 v n xs) (hL : Lst base w xs L) (hn : n = L.length) : Cells base w v L := by
  subst hn
  have hc := fun g hg => h.cells (g := g) hg
  rcases h.2 with ⟨h4, h5⟩ | ⟨g, cap, cur, h4, h5, h6, h7, _⟩
  · exact ⟨none, 0, by rw [h4, h5], by omega, .inl h5⟩
  · refine ⟨_, cap, h4, h7, .inr ⟨g, 0, cur, _, rfl, h6, fun j hj => ?_⟩⟩
    have hcc : ∀ (j : Nat) (u : Value), xs[j]? = some u → w.cell? ⟨g, 0 + j, none⟩ = some u := fun j u hj => by
      have := hc g (by rw [h4]; rfl) j u hj
      rw [Go.WideShapes.add_plain] at this
      exact this
    obtain ⟨vK, vV, c0, c1, c2, c3, c4, c5⟩ := hL j hj
    exact ⟨vK, vV, hcc _ _ c0, by have := hcc _ _ c1; rwa [← Nat.add_assoc] at this, by have := hcc _ _ c2; rwa [← Nat.add_assoc] at this, by have := hcc _ _ c3; rwa [← Nat.add_assoc] at this, by have := hcc _ _ c4; rwa [← Nat.add_assoc] at this, c5⟩
theorem Parts.one {vK vV : Value} {c : Cl} (h : Parts base w vK vV c) : vK.oneCell' = true ∧ vV.oneCell' = true := by
  obtain ⟨a1, c1, rfl, _⟩ := h.1
  obtain ⟨a2, c2, rfl, _⟩ := h.2.1
  exact ⟨rfl, rfl⟩
/-- The values of a list of cells, as they lie. -/
theorem Cells.raw {a0 : Option Addr} {c0 : Nat} (h : Cells base w (.slice a0 L.length c0) L) : ∃ xs : List Value, xs.length = L.length * 5 ∧ Lst base w xs L ∧ (∀ u ∈ xs, u.oneCell' = true) ∧ (L.length = 0 ∨ ∃ b off, a0 = some ⟨b, off, none⟩ ∧ ∀ j u, xs[j]? = some u → w.cell? ⟨b, off + j, none⟩ = some u) := by
  obtain ⟨a1, c1, e, -, h3⟩ := h
  injection e with e1 _ e2
  subst e1 e2
  by_cases h0 : L.length = 0
  · exact ⟨[], by simp [h0], fun j hj => by omega, by simp, .inl h0⟩
  · obtain ⟨b, off, arr, fz, rfl, h5, h6⟩ := h3.resolve_left h0
    have hget : ∀ k, k < L.length * 5 → ∃ u, w.cell? ⟨b, off + k, none⟩ = some u ∧ u.oneCell' = true := fun k hk => by
      obtain ⟨vK, vV, c0, c1, c2, c3, c4, c5⟩ := h6 (k / 5) (by omega)
      have hm : k % 5 = 0 ∨ k % 5 = 1 ∨ k % 5 = 2 ∨ k % 5 = 3 ∨ k % 5 = 4 := by omega
      rcases hm with hm | hm | hm | hm | hm
      · exact ⟨_, by rw [show off + k = off + k / 5 * 5 by omega]; exact c0, rfl⟩
      · exact ⟨_, by rw [show off + k = off + k / 5 * 5 + 1 by omega]; exact c1, rfl⟩
      · exact ⟨_, by rw [show off + k = off + k / 5 * 5 + 2 by omega]; exact c2, rfl⟩
      · exact ⟨_, by rw [show off + k = off + k / 5 * 5 + 3 by omega]; exact c3, c5.one.1⟩
      · exact ⟨_, by rw [show off + k = off + k / 5 * 5 + 4 by omega]; exact c4, c5.one.2⟩
    have hx : ∀ k, k < L.length * 5 → ((List.range (L.length * 5)).map fun k => (w.cell? ⟨b, off + k, none⟩).getD (.bool false))[k]? = w.cell? ⟨b, off + k, none⟩ := fun k hk => by
      obtain ⟨u, hu, _⟩ := hget k hk
      simp [hk, hu]
    refine ⟨(List.range (L.length * 5)).map fun k => (w.cell? ⟨b, off + k, none⟩).getD (.bool false), by simp, fun j hj => ?_, fun u hu => ?_, .inr ⟨b, off, rfl, fun j u hj => ?_⟩⟩
    · obtain ⟨vK, vV, c0, c1, c2, c3, c4, c5⟩ := h6 j hj
      refine ⟨vK, vV, ?_, ?_, ?_, ?_, ?_, c5⟩
      · rw [hx _ (by omega)]; exact c0
      · rw [hx _ (by omega)]; exact c1
      · rw [hx _ (by omega)]; exact c2
      · rw [hx _ (by omega)]; exact c3
      · rw [hx _ (by omega)]; exact c4
    · simp only [List.mem_map, List.mem_range] at hu
      obtain ⟨k, hk, rfl⟩ := hu
      obtain ⟨u, h1, h2⟩ := hget k hk
      rw [h1]; exact h2
    · have hjl : j < L.length * 5 := by
        have := (List.getElem?_eq_some_iff.1 hj).1
        simpa using this
      rw [hx j hjl] at hj; exact hj
theorem Cells.copy {a0 : Option Addr} {c0 : Nat} (h : Cells base w (.slice a0 L.length c0) L) (hl : L.length ≤ 5000) (hB : base ≤ w.heap.size) (ty : TypeId) :
    ∃ a cap w' xs, (Builtin.append_ #[22, 22] ty #[.slice (some ⟨w.heap.size, 0, none⟩) 0 0, .slice a0 L.length c0]).run Try.prog (w.alloc (.cells #[] 30)) = .ok (.slice a L.length cap) w' ∧ w'.ownsRow w.heap.size 30 5 (.slice a L.length cap) L.length xs ∧ Lst base w xs L ∧ xs.length = L.length * 5 ∧ Below w.heap.size w w' := by
  obtain ⟨xs, h1, h2, h3, h4⟩ := h.raw
  obtain ⟨a, cap, w', g1, g2, g3⟩ := run_copy2 (t := 22) (news := xs) Try.underlying22 infoCL rfl (by decide) (by decide) a0 c0 (by omega) h1 h3 h4 ty
  exact ⟨a, cap, w', xs, g1, g2, h2, h1, g3⟩
end
end Go.Proofs.Ytmipgpkeegggpaa.P
