-- PROVED: rows of values of one's own, grown; what the reference's Reach goes by.
import Derived.Test.YtmipgpkeegggpaaHOpen
import Derived.Deep.QuietTactic
import Derived.BigQuiet
import Derived.Deep.DeepCutAuto
import Derived.Deep.CutBlock
namespace Go.Proofs.Ytmipgpkeegggpaa.P
open Go.RowKit Hq
set_option linter.unusedVariables false
theorem vcells_len : ∀ L : List Vl, (vcells L).length = L.length * 3
  | [] => rfl
  | v :: L => by
    have := vcells_len L
    simp [vcells] at this ⊢
    omega
theorem vcells_app (L M : List Vl) : vcells (L ++ M) = vcells L ++ vcells M := by simp [vcells]
/-- Values that lay there before. -/
def VB (base : Nat) (w : World) (v : Value) (L : List Vl) : Prop :=
  ∃ a cap, v = .slice a L.length cap ∧ (L.length = 0 ∨ ∃ b off, a = some ⟨b, off, none⟩ ∧ b < base ∧ b < w.heap.size ∧ ∀ i u, (vcells L)[i]? = some u → w.cell? ⟨b, off + i, none⟩ = some u)
def CB (base : Nat) (w : World) (v : Value) (L : List Cl) : Prop :=
  ∃ a cap, v = .slice a L.length cap ∧ (L.length = 0 ∨ ∃ b off, a = some ⟨b, off, none⟩ ∧ b < base ∧ b < w.heap.size ∧ ∀ j (h : j < L.length), ∃ aK nK kK vV,
    w.cell? ⟨b, off + j * 5, none⟩ = some (.int .i64 L[j].kind) ∧ w.cell? ⟨b, off + j * 5 + 1, none⟩ = some (.int .i64 L[j].a) ∧ w.cell? ⟨b, off + j * 5 + 2, none⟩ = some (.int .i64 L[j].b) ∧ w.cell? ⟨b, off + j * 5 + 3, none⟩ = some (.slice aK nK kK) ∧ w.cell? ⟨b, off + j * 5 + 4, none⟩ = some vV ∧ VB base w vV L[j].vals)
/-- A row of values of one's own. -/
def OV (base : Nat) (w : World) (v : Value) (L : List Vl) : Prop := w.ownsRow base 46 3 v L.length (vcells L)
section
variable {base : Nat} {w w' : World} {v u : Value} {L M : List Vl}
theorem VB.below (h : VB base w v L) (k : Below base w w') : VB base w' v L := by
  obtain ⟨a, cap, h1, h2⟩ := h
  refine ⟨a, cap, h1, h2.imp id ?_⟩
  rintro ⟨b, off, h3, h4, h5, h6⟩
  exact ⟨b, off, h3, h4, Nat.lt_of_lt_of_le h5 k.size, fun i u hu => (k.cell (p := ⟨b, off + i, none⟩) h4).trans (h6 i u hu)⟩
theorem CB.below {L : List Cl} (h : CB base w v L) (k : Below base w w') : CB base w' v L := by
  obtain ⟨a, cap, h1, h2⟩ := h
  refine ⟨a, cap, h1, h2.imp id ?_⟩
  rintro ⟨b, off, h3, h4, h5, h6⟩
  refine ⟨b, off, h3, h4, Nat.lt_of_lt_of_le h5 k.size, fun j hj => ?_⟩
  obtain ⟨aK, nK, kK, vV, c0, c1, c2, c3, c4, c5⟩ := h6 j hj
  have e : ∀ i, w'.cell? ⟨b, i, none⟩ = w.cell? ⟨b, i, none⟩ := fun i => k.cell h4
  exact ⟨aK, nK, kK, vV, by rw [e, c0], by rw [e, c1], by rw [e, c2], by rw [e, c3], by rw [e, c4], c5.below k⟩
theorem vcells_at2 {L : List Vl} {i : Nat} {u : Value} (h : (vcells L)[i]? = some u) : ∃ hj : i / 3 < L.length, (i % 3 = 0 ∧ u = .int .i64 L[i / 3].kind) ∨ (i % 3 = 1 ∧ u = .int .i64 L[i / 3].n) ∨ (i % 3 = 2 ∧ u = .string L[i / 3].s) := by
  induction L generalizing i with
  | nil => simp [vcells] at h
  | cons x L ih =>
    match i with
    | 0 => exact ⟨by simp, .inl ⟨rfl, by simpa [vcells, eq_comm] using h⟩⟩
    | 1 => exact ⟨by simp, .inr (.inl ⟨rfl, by simpa [vcells, eq_comm] using h⟩)⟩
    | 2 => exact ⟨by simp, .inr (.inr ⟨rfl, by simpa [vcells, eq_comm] using h⟩)⟩
    | i + 3 =>
      have h' : (vcells L)[i]? = some u := by simpa [vcells] using h
      obtain ⟨hj, hc⟩ := ih h'
      have e1 : (i + 3) / 3 = i / 3 + 1 := by omega
      have e2 : (i + 3) % 3 = i % 3 := by omega
      refine ⟨by rw [e1]; simpa using hj, ?_⟩
      simp only [e1, e2, List.getElem_cons_succ]
      exact hc
theorem vcells_get {L : List Vl} {j : Nat} (h : j < L.length) : (vcells L)[j * 3]? = some (.int .i64 L[j].kind) ∧ (vcells L)[j * 3 + 1]? = some (.int .i64 L[j].n) ∧ (vcells L)[j * 3 + 2]? = some (.string L[j].s) := by
  induction L generalizing j with
  | nil => simp at h
  | cons x L ih =>
    match j with
    | 0 => exact ⟨rfl, rfl, rfl⟩
    | j + 1 =>
      obtain ⟨h0, h1, h2⟩ := ih (j := j) (by simpa using h)
      rw [show (j + 1) * 3 = j * 3 + 3 by omega]
      exact ⟨by simpa [vcells] using h0, by simpa [vcells] using h1, by simpa [vcells] using h2⟩
theorem Vals.vb (h : Vals base w v L) : VB w.heap.size w v L := by
  obtain ⟨a, cap, h1, -, h3⟩ := h
  refine ⟨a, cap, h1, h3.imp id ?_⟩
  rintro ⟨b, off, h4, h5, h6⟩
  refine ⟨b, off, h4, h5.lt, h5.lt, fun i u hu => ?_⟩
  obtain ⟨hj, hc⟩ := vcells_at2 hu
  obtain ⟨c0, c1, c2⟩ := h6 (i / 3) hj
  rcases hc with ⟨e, rfl⟩ | ⟨e, rfl⟩ | ⟨e, rfl⟩
  · rw [show off + i = off + i / 3 * 3 by omega]; exact c0
  · rw [show off + i = off + i / 3 * 3 + 1 by omega]; exact c1
  · rw [show off + i = off + i / 3 * 3 + 2 by omega]; exact c2
theorem Cs.cb {L : List Cl} (h : Cs w.heap.size w v L) : CB w.heap.size w v L := by
  obtain ⟨a, cap, h1, h2⟩ := h
  refine ⟨a, cap, h1, h2.imp id ?_⟩
  rintro ⟨b, off, h3, h4, h5, h6⟩
  refine ⟨b, off, h3, h4, h5, fun j hj => ?_⟩
  obtain ⟨aK, nK, kK, vV, c0, c1, c2, c3, c4, c5⟩ := h6 j hj
  exact ⟨aK, nK, kK, vV, c0, c1, c2, c3, c4, c5.vb⟩
theorem OV.keep {S : List TypeId} (h : OV base w v L) (k : Keep S base w w') (hS : 46 ∉ S) : OV base w' v L := own_same h fun g cur _ hg => k.same g _ _ _ hg hS
theorem OV.form (h : OV base w v L) : ∃ a cap, v = .slice a L.length cap := by
  rcases h.2 with ⟨e, e'⟩ | ⟨g, cap, cur, e, _⟩
  · exact ⟨none, 0, by rw [e, e']⟩
  · exact ⟨_, _, e⟩
theorem OV.vb (h : OV base w v L) : VB w.heap.size w v L := by
  rcases h.2 with ⟨e, e'⟩ | ⟨g, cap, cur, e, e1, e2, _⟩
  · exact ⟨none, 0, by rw [e, e'], .inl e'⟩
  · refine ⟨_, cap, e, .inr ⟨g, 0, rfl, heap_lt e2, heap_lt e2, fun i u hu => ?_⟩⟩
    have := h.cells (g := g) (by rw [e]; rfl) i u hu
    rw [Go.WideShapes.add_plain] at this
    exact this
theorem OV.new (hB : base ≤ w.heap.size) : OV base (w.alloc (.cells #[] 46)) (.slice (some ⟨w.heap.size, 0, none⟩) 0 0) [] :=
  ⟨rfl, .inr ⟨w.heap.size, 0, #[], rfl, hB, heap_alloc_new _ _, Nat.le_refl _, by unfold maxLen; omega, by simp, by simp [vcells]⟩⟩
theorem vcells_one {L : List Vl} : ∀ u ∈ vcells L, u.oneCell' = true := fun u hu => by
  obtain ⟨i, hi⟩ := List.getElem?_of_mem hu
  obtain ⟨hj, hc⟩ := vcells_at2 hi
  rcases hc with ⟨_, rfl⟩ | ⟨_, rfl⟩ | ⟨_, rfl⟩ <;> rfl
/-- One row behind another. -/
theorem OV.app {B : Nat} (h : OV base w v L) (hu : VB B w u M) (hB : base ≤ w.heap.size) (hl : L.length + M.length ≤ 1000000) (ty : TypeId) :
    ∃ a cap w3, (Builtin.append_ #[28, 28] ty #[v, u]).run Try.prog w = .ok (.slice a (L.length + M.length) cap) w3 ∧ OV base w3 (.slice a (L.length + M.length) cap) (L ++ M) ∧ Keep [46] base w w3 := by
  obtain ⟨i0, hi, hz0, hz1, hz2⟩ := info_parts infoVL
  obtain ⟨a0, c0, rfl, h2⟩ := hu
  by_cases h0 : M.length = 0
  · have hM : M = [] := List.length_eq_zero_iff.1 h0
    subst hM
    obtain ⟨a, cap, rfl⟩ := h.form
    refine ⟨a, cap, w, ?_, by simpa using h, Keep.refl _ _ _⟩
    have hcap : L.length ≤ cap := by
      rcases h.2 with ⟨e, e'⟩ | ⟨g, cap', cur, e, _, _, e4, _⟩
      · omega
      · injection e with _ _ e; omega
    exact run_append_nothing w 28 28 ty 46 i0 Try.underlying28 hi a L.length cap hcap _ (src_nothing Try.underlying28 a0 c0 _ w)
  · obtain ⟨b, off, rfl, h3, h4, h5⟩ := h2.resolve_left h0
    obtain ⟨v', w', g1, g2, g3, _⟩ := run_append_own (P := Try.prog) w base 28 ty 46 i0 (.agg #[.int .i64 0, .int .i64 0, .string ⟨#[]⟩]) 3 32 Try.underlying28 hi hz0 hz1 hz2 rfl (by decide) _ L.length (vcells L) h ⟨b, off, none⟩ M.length c0 (vcells M) (vcells_len M) (by
        intro j u hj
        rw [Go.WideShapes.add_plain]; exact h5 j u hj) vcells_one (by unfold maxLen; omega) (by omega) hB
    obtain ⟨a', cap', rfl⟩ : ∃ a cap, v' = .slice a (L.length + M.length) cap := by
      rcases g2.2 with ⟨_, e⟩ | ⟨g, cap, cur, e, _⟩
      · exact absurd (Nat.add_eq_zero_iff.1 e).2 h0
      · exact ⟨_, _, e⟩
    have hrowlt : ∀ k, v.ownBlock = some k → base ≤ k ∧ ∃ arr T fz, w.heap[k]? = some (.cells arr T fz) ∧ T ∈ [46] := fun k hk => by
      rcases h.2 with ⟨e, _⟩ | ⟨g, cap, cur, e, e1, e2, _⟩
      · rw [e] at hk; simp [Value.ownBlock] at hk
      · rw [e] at hk; simp [Value.ownBlock] at hk; subst hk; exact ⟨e1, cur, _, _, e2, by simp⟩
    exact ⟨a', cap', w', g1, by unfold OV; rw [vcells_app, List.length_append]; exact g2, (Keep.refl _ _ _).grown g3 hB hrowlt⟩
end
/-- A row that both tell is the same. -/
theorem sameInts {w : World} {B1 B2 : Nat} {v u : Value} {A : List Nat} (h1 : w.ownsRow B1 3 1 v A.length (nums A)) (h2 : w.ownsRow B2 3 1 u A.length (nums A)) (hl : A.length ≤ 1000000) :
    Calls Try.prog 19 #[v, u] w fun e w' => e = .returned (.bool true) ∧ Below w.heap.size w w' := by
  have HI1 : Hid (Ints 0 w v A) := Ints.own h1 rfl
  have HI2 : Hid (Ints 0 w u A) := Ints.own h2 rfl
  obtain ⟨a1, c1, rfl⟩ := nums_form h1
  obtain ⟨a2, c2, rfl⟩ := nums_form h2
  clear h1 h2
  go_enter Try.func19, Try.ntmps19
  go_wp2_with fail
  go_loopw [5] (fun i wr => ∃ t : Nat, i = .int .i64 (t : Int) ∧ t ≤ A.length ∧ Hid (Below w.heap.size w wr)) (fun i _ => A.length - (intOf i).toNat)
  case atStart => exact ⟨0, rfl, by omega, Below.refl _ _⟩
  case round =>
    obtain ⟨t, rfl, ht, HB⟩ := hrel
    by_cases hlt : t < A.length
    · have hlt' : (t : Int) < (A.length : Int) := by omega
      obtain ⟨b, off, cap, e, _, hb, hc⟩ := HI1.out.at_ (List.getElem?_eq_getElem hlt)
      obtain ⟨b', off', cap', e', _, hb', hc'⟩ := HI2.out.at_ (List.getElem?_eq_getElem hlt)
      injection e with e1 _ e2
      injection e' with e1' _ e2'
      subst e1 e2 e1' e2'
      have d1 := (HB.out.cell (p := ⟨b, off + t, none⟩) hb).trans hc
      have d2 := (HB.out.cell (p := ⟨b', off' + t, none⟩) hb').trans hc'
      have lb := Nat.lt_of_lt_of_le hb HB.out.size
      have lb' := Nat.lt_of_lt_of_le hb' HB.out.size
      clear hc hc' hb hb'
      generalize A[t] = x at *
      go_upto_region 6 with fail
      go_quiet (fail)
      go_wp2_with fail
      go_roundw
      case rel => exact ⟨t + 1, by go_num, by omega, below_drewN HB.out _⟩
      case measure => simp [intOf]; omega
    · have ht2 : t = A.length := by omega
      subst ht2
      go_wp2_with fail
      go_ret
      exact ⟨rfl, HB.out⟩
end Go.Proofs.Ytmipgpkeegggpaa.P
