-- PROVED: rows of cells that a statement makes; where rings and rows lead to.
import Derived.Test.YtmipgpkeegggpaaHReach2
import Derived.Test.YtmipgpkeegggpaaPCells
namespace Go.Proofs.Ytmipgpkeegggpaa.P
open Go.RowKit Hq
set_option linter.unusedVariables false
/-- A row of cells of one's own. -/
def OC (base : Nat) (w : World) (v : Value) (L : List Cl) : Prop := ∃ xs, w.ownsRow base 30 5 v L.length xs ∧ Lst base w xs L
section
variable {base : Nat} {w w' : World} {v : Value} {L : List Cl}
theorem OC.nil (base : Nat) (w : World) : OC base w (.slice none 0 0) [] := ⟨[], World.ownsRow_nil _ _ _ _, fun j h => by simp at h⟩
theorem OC.keep {S : List TypeId} (h : OC base w v L) (k : Keep S base w w') (hS : 30 ∉ S) (hM : ∀ T, T ∈ S → Mine T) : OC base w' v L := by
  obtain ⟨xs, h1, h2⟩ := h
  exact ⟨xs, own_same h1 fun g cur _ hg => k.same g _ _ _ hg hS, h2.keep k hM⟩
theorem OC.form (h : OC base w v L) : ∃ a cap, v = .slice a L.length cap := by
  obtain ⟨xs, h1, h2⟩ := h
  rcases h1.2 with ⟨e, e'⟩ | ⟨g, cap, cur, e, _⟩
  · exact ⟨none, 0, by rw [e, e']⟩
  · exact ⟨_, _, e⟩
theorem OC.push (h : OC base w v L) (hB : base ≤ w.heap.size) (hl : L.length ≤ 5000) {tB : Nat} {vK vV : Value} {c : Cl} (ht : w.heap[tB]? = some (.cells #[.int .i64 c.kind, .int .i64 c.a, .int .i64 c.b, vK, vV] 30 (0, 0))) (hp : Parts base w vK vV c) (ty : TypeId) :
    ∃ a cap w3, (Builtin.append_ #[22, 22] ty #[v, .slice (some ⟨tB, 0, none⟩) 1 1]).run Try.prog w = .ok (.slice a (L.length + 1) cap) w3 ∧ OC base w3 (.slice a (L.length + 1) cap) (L ++ [c]) ∧ Keep [30] base w w3 := by
  obtain ⟨xs, ho, hL⟩ := h
  obtain ⟨i0, hi, hz0, hz1, hz2⟩ := info_parts infoCL
  obtain ⟨p1, p2⟩ := hp.one
  obtain ⟨v', w', g1, g2, g3, _⟩ := run_append_own (P := Try.prog) w base 22 ty 30 i0 (.agg #[.int .i64 0, .int .i64 0, .int .i64 0, .slice none 0 0, .slice none 0 0]) 5 72 Try.underlying22 hi hz0 hz1 hz2 rfl (by decide) _ L.length xs ho ⟨tB, 0, none⟩ 1 1 [.int .i64 c.kind, .int .i64 c.a, .int .i64 c.b, vK, vV] rfl (by
      intro j u hj
      rw [Go.WideShapes.add_plain, Nat.zero_add, cellsOf ht]
      simpa using hj) (by
      intro u hu
      simp at hu
      rcases hu with rfl | rfl | rfl | rfl | rfl <;> first | rfl | assumption) (by unfold maxLen; omega) (by omega) hB
  obtain ⟨a', cap', rfl⟩ : ∃ a cap, v' = .slice a (L.length + 1) cap := by
    rcases g2.2 with ⟨_, e⟩ | ⟨g, cap, cur, e, _⟩
    · omega
    · exact ⟨_, _, e⟩
  have hrowlt : ∀ k, v.ownBlock = some k → base ≤ k ∧ ∃ arr T fz, w.heap[k]? = some (.cells arr T fz) ∧ T ∈ [30] := fun k hk => by
    rcases ho.2 with ⟨e, _⟩ | ⟨g, cap, cur, e, e1, e2, _⟩
    · rw [e] at hk; simp [Value.ownBlock] at hk
    · rw [e] at hk; simp [Value.ownBlock] at hk; subst hk; exact ⟨e1, cur, _, _, e2, by simp⟩
  have kk : Keep [30] base w w' := (Keep.refl _ _ _).grown g3 hB hrowlt
  exact ⟨a', cap', w', g1, ⟨_, by rw [List.length_append]; exact g2, (hL.keep kk (by simp [Mine])).push ho.1 (hp.keep kk (by simp [Mine]))⟩, kk⟩
theorem Vals.all {L : List Vl} (h : Vals base w v L) : Vals w.heap.size w v L := by
  obtain ⟨a, cap, h1, h2, h3⟩ := h
  refine ⟨a, cap, h1, h2, h3.imp id ?_⟩
  rintro ⟨b, off, h4, h5, h6⟩
  exact ⟨b, off, h4, .inl ⟨h5.lt, h5.lt⟩, h6⟩
theorem OC.cs (h : OC base w v L) : Cs w.heap.size w v L := by
  obtain ⟨xs, ho, hL⟩ := h
  obtain ⟨a, cap, h1, -, h3⟩ := Cells.own ho hL rfl
  refine ⟨a, cap, h1, h3.imp id ?_⟩
  rintro ⟨b, off, arr, fz, h4, h5, h6⟩
  refine ⟨b, off, h4, heap_lt h5, heap_lt h5, fun j hj => ?_⟩
  obtain ⟨vK, vV, c0, c1, c2, c3, c4, c5⟩ := h6 j hj
  obtain ⟨aK, kK, rfl, -⟩ := c5.1
  exact ⟨aK, _, kK, vV, c0, c1, c2, c3, c4, c5.2.1.all⟩
end
theorem outL_at {L : List Cl} {y : Nat} {c : Cl} (h : L[y - 1]? = some c) : outL L y = outC c := by unfold outL; rw [List.getD_eq_getElem?_getD, h]; rfl
/-- The addresses between two. -/
theorem addrs_of {S : List Bool} {lo hi : Nat} (h0 : 1 ≤ lo) (h1 : hi ≤ S.length) (h : ∀ x, On S x ↔ lo ≤ x ∧ x ≤ hi) : addrs S = (List.range (hi + 1 - lo)).map (lo + ·) := by
  have key : ∀ j, addT S j = (List.range (min j hi + 1 - lo)).map (lo + ·) := fun j => by
    induction j with
    | zero => rw [addT_zero, show min 0 hi + 1 - lo = 0 by omega]; rfl
    | succ j ih =>
      have hx := h (j + 1)
      unfold On at hx
      rw [Nat.add_sub_cancel] at hx
      rw [addT_succ, ih]
      by_cases hc : lo ≤ j + 1 ∧ j + 1 ≤ hi
      · rw [if_pos (hx.2 hc).2, show min (j + 1) hi + 1 - lo = (min j hi + 1 - lo) + 1 by omega, List.range_succ, List.map_append]
        simp
        omega
      · rw [if_neg fun e => hc (hx.1 ⟨by omega, e⟩), List.append_nil]
        congr 2
        omega
  rw [← addT_all, key, show min S.length hi = hi by omega]
theorem addrs_none {S : List Bool} (h : ∀ x, ¬ On S x) : addrs S = [] := by
  rw [addrs_of (lo := 1) (hi := 0) (by omega) (by omega) fun x => ⟨fun e => (h x e).elim, fun ⟨a, b⟩ => by omega⟩]
  rfl
/-- A row: each leads to the next. -/
theorem row_reach {n at_ : Nat} {R : List Int} {out : Nat → List Int} (h0 : 1 ≤ at_) (h1 : at_ ≤ n) (ho : ∀ y, 1 ≤ y → y ≤ n → out y = [((y + 1 : Nat) : Int)]) (hr : ∀ x : Nat, 1 ≤ x → x ≤ n → ((x : Int) ∈ R ↔ x = at_)) (x : Nat) : Rch n R out x ↔ at_ ≤ x ∧ x ≤ n := by
  constructor
  · intro h
    induction h with
    | root a b c => have := (hr _ b c).1 a; omega
    | step hy a b c ih =>
      rw [ho _ (by omega) (by omega)] at a
      simp at a
      omega
  · rintro ⟨h2, h3⟩
    induction x with
    | zero => omega
    | succ x ih =>
      by_cases e : at_ = x + 1
      · exact .root ((hr _ (by omega) h3).2 e.symm) (by omega) h3
      · exact .step (ih (by omega) (by omega)) (by rw [ho x (by omega) (by omega)]; simp) (by omega) h3
/-- A ring of k within n. -/
theorem ring_all {n k r : Nat} {R : List Int} {out : Nat → List Int} (hk : 1 ≤ k) (hn : k ≤ n) (ho : ∀ y, 1 ≤ y → y ≤ k → out y = [((y % k + 1 : Nat) : Int)]) (h1 : 1 ≤ r) (h2 : r ≤ k) (hr : Rch n R out r) (x : Nat) (h3 : 1 ≤ x) (h4 : x ≤ k) : Rch n R out x := by
  have key : ∀ d, Rch n R out ((r - 1 + d) % k + 1) := fun d => by
    induction d with
    | zero => rw [Nat.add_zero, Nat.mod_eq_of_lt (by omega), Nat.sub_add_cancel h1]; exact hr
    | succ d ih =>
      have hl := Nat.mod_lt (r - 1 + d) (show 0 < k by omega)
      have hl2 := Nat.mod_lt (r - 1 + (d + 1)) (show 0 < k by omega)
      refine .step ih ?_ (by omega) (by omega)
      rw [ho _ (by omega) (by omega), List.mem_singleton]
      congr 2
      rw [Nat.mod_add_mod, Nat.add_assoc]
  have := key (x - 1 + k - (r - 1))
  rw [show r - 1 + (x - 1 + k - (r - 1)) = x - 1 + k by omega, Nat.add_mod_right, Nat.mod_eq_of_lt (by omega), Nat.sub_add_cancel h3] at this
  exact this
theorem ring_reach {n k r : Nat} {out : Nat → List Int} (hk : 1 ≤ k) (hn : k ≤ n) (ho : ∀ y, 1 ≤ y → y ≤ k → out y = [((y % k + 1 : Nat) : Int)]) (h1 : 1 ≤ r) (h2 : r ≤ k) (x : Nat) : Rch n [(r : Int)] out x ↔ 1 ≤ x ∧ x ≤ k := by
  constructor
  · intro h
    induction h with
    | root a b c => simp at a; omega
    | step hy a b c ih =>
      rw [ho _ (by omega) (by omega)] at a
      simp only [List.mem_singleton] at a
      have a' := Int.ofNat.inj a
      rw [a']
      exact ⟨by omega, Nat.mod_lt _ (show 0 < k by omega)⟩
  · rintro ⟨h3, h4⟩
    exact ring_all hk hn ho h1 h2 (.root (by simp) h1 (by omega)) x h3 h4
theorem nums_at {B : Nat} {w : World} {r : Value} {A : List Nat} (h : w.ownsRow B 3 1 r A.length (nums A)) : (A = [] ∧ ∃ a cap, r = .slice a 0 cap) ∨ ∃ g cap, r = .slice (some ⟨g, 0, none⟩) A.length cap ∧ B ≤ g ∧ g < w.heap.size ∧ ∀ (j x : Nat), A[j]? = some x → w.cell? ⟨g, j, none⟩ = some (.int .i64 (x : Int)) := by
  rcases h.2 with ⟨h1, h2⟩ | ⟨g, cap, cur, h1, h2, h3, _⟩
  · exact .inl ⟨List.length_eq_zero_iff.1 h2, none, 0, h1⟩
  · refine .inr ⟨g, cap, h1, h2, heap_lt h3, fun j x hj => ?_⟩
    have := h.cells (g := g) (by rw [h1]; rfl) j (.int .i64 (x : Int)) (by simp [nums, hj])
    rw [Go.WideShapes.add_plain, Nat.zero_add] at this
    exact this
theorem nums_form {B : Nat} {w : World} {r : Value} {A : List Nat} (h : w.ownsRow B 3 1 r A.length (nums A)) : ∃ a cap, r = .slice a A.length cap := by
  rcases nums_at h with ⟨rfl, a, cap, e⟩ | ⟨g, cap, e, _⟩
  · exact ⟨a, cap, e⟩
  · exact ⟨_, _, e⟩
theorem span_at {lo n j : Nat} (h : j < n) : ((List.range n).map (lo + ·))[j]? = some (lo + j) := by
  rw [List.getElem?_map, List.getElem?_range h]; rfl
/-- A row of values that is laid down where it is wanted. -/
theorem vals_new {base : Nat} {w : World} {arr : Array Value} {L : List Vl} (hs : base ≤ w.heap.size) (n : Nat) (hn : n = L.length) (h : ∀ j (h : j < L.length), arr[j * 3]? = some (.int .i64 L[j].kind) ∧ arr[j * 3 + 1]? = some (.int .i64 L[j].n) ∧ arr[j * 3 + 2]? = some (.string L[j].s)) :
    Vals base (w.alloc (.cells arr 46)) (.slice (some ⟨w.heap.size, 0, none⟩) n n) L := by
  subst hn
  have e := heap_alloc_new w (.cells arr 46)
  refine ⟨_, _, rfl, Nat.le_refl _, .inr ⟨w.heap.size, 0, rfl, .inr ⟨_, _, _, e, by simp [Mine]⟩, fun j hj => ?_⟩⟩
  obtain ⟨h0, h1, h2⟩ := h j hj
  refine ⟨?_, ?_, ?_⟩ <;> (rw [cellsOf e, Nat.zero_add]; assumption)
end Go.Proofs.Ytmipgpkeegggpaa.P
