-- PROVED: slices of cells, and of values, that came in, opened.
import Derived.Test.YtmipgpkeegggpaaHRow
import Derived.Deep.Slices
import Derived.Deep.Strs
import Derived.ChangeSame
import Derived.OpenShut
namespace Go.Proofs.Ytmipgpkeegggpaa.P
open Go.RowKit Go.ChangeShapes Go.WideShapes Go.Deep
set_option linter.unusedVariables false
theorem oc3 : Try.prog.cellsOf 3 = 1 := by kernel_rfl
theorem oc9 : Try.prog.cellsOf 9 = 1 := by kernel_rfl
theorem ocVL : Try.prog.cellsOf 46 = 3 := by kernel_rfl
theorem ocCL : Try.prog.cellsOf 30 = 5 := by kernel_rfl
theorem ocSS : Try.prog.cellsOf 27 = 1 := by kernel_rfl
theorem ocSV : Try.prog.cellsOf 28 = 1 := by kernel_rfl
section
variable {H : Type} {enc : TypeId × Value → H} {w : World} {base : Nat} {spare : Nat → Bool} {held : Bool}
theorem trod_struct5 {P : Program} {t : TypeId} {f0 f1 f2 f3 f4 : Field} {fuel : Nat} {cs : List Value} {x : DataW H × List MemPlace} (ht : P.underlying t = some (.struct #[f0, f1, f2, f3, f4])) (h : DataW.trod enc P w base spare held fuel t cs = some x) :
    ∃ y0 y1 y2 y3 y4 n, cs.length = P.cellsOf t ∧ DataW.trod enc P w base spare held n f0.type ((cs.drop f0.offset).take (P.cellsOf f0.type)) = some y0 ∧
      DataW.trod enc P w base spare held n f1.type ((cs.drop f1.offset).take (P.cellsOf f1.type)) = some y1 ∧ DataW.trod enc P w base spare held n f2.type ((cs.drop f2.offset).take (P.cellsOf f2.type)) = some y2 ∧
      DataW.trod enc P w base spare held n f3.type ((cs.drop f3.offset).take (P.cellsOf f3.type)) = some y3 ∧ DataW.trod enc P w base spare held n f4.type ((cs.drop f4.offset).take (P.cellsOf f4.type)) = some y4 := by
  obtain ⟨xs, n, _, rfl, hl, hlen, hf⟩ := DataW.trod_struct ht h
  match xs, hlen with
  | [y0, y1, y2, y3, y4], _ => exact ⟨y0, y1, y2, y3, y4, n, hl, by simpa using hf 0 f0 rfl, by simpa using hf 1 f1 rfl, by simpa using hf 2 f2 rfl, by simpa using hf 3 f3 rfl, by simpa using hf 4 f4 rfl⟩
/-- A slice, element by element. -/
theorem open_list {t e : TypeId} {k : Nat} {α : Type} (dflt : α) (ht : Try.prog.underlying t = some (.slice e)) (hk : Try.prog.cellsOf e = k) (hk0 : 0 < k) (Q : List Value → α → Prop)
    (ho : ∀ n cs y, DataW.trod enc Try.prog w base spare held n e cs = some y → ∃ a, Q cs a) {fuel : Nat} {cs : List Value} {x : DataW H × List MemPlace} (h : DataW.trod enc Try.prog w base spare held fuel t cs = some x) :
    ∃ ad len cap, cs = [.slice ad len cap] ∧ len ≤ cap ∧ cap ≤ maxLen ∧ ∃ L : List α, L.length = len ∧ (len = 0 ∨ ∃ b off, ad = some ⟨b, off, none⟩ ∧ b < w.heap.size ∧ ∀ j (hj : j < L.length), ∃ cs, cs.length = k ∧ Q cs L[j] ∧ ∀ i u, cs[i]? = some u → w.cell? ⟨b, off + j * k + i, none⟩ = some u) := by
  rcases open_slice ht h with ⟨hcs, _⟩ | ⟨a, len, cap, m, n, D, Pl, hcs, hb, hl, hm, hmm, _, hx⟩
  · exact ⟨none, 0, 0, hcs, Nat.le_refl _, Nat.zero_le _, [], rfl, .inl rfl⟩
  · refine ⟨some a, len, cap, hcs, hl, hm, ?_⟩
    have hlm : len ≤ m := by rw [hmm]; split <;> omega
    by_cases h0 : len = 0
    · exact ⟨[], h0.symm, .inl h0⟩
    · have : Inhabited α := ⟨dflt⟩
      have key : ∀ i, i < len → ∃ a' : α, ∃ cs, cs.length = k ∧ Q cs a' ∧ ∀ i' u, cs[i']? = some u → w.cell? (a.add (i * k + i')) = some u := fun i hi => by
        obtain ⟨cs', h1, h2⟩ := hx i (by omega)
        rw [hk] at h1
        obtain ⟨_, hlen, hcell⟩ := World.cells?_some h1
        obtain ⟨a', ha'⟩ := ho _ _ _ h2
        refine ⟨a', cs', hlen, ha', fun i' u hu => ?_⟩
        have hlt : i' < k := by
          rcases Nat.lt_or_ge i' k with h | h
          · exact h
          · rw [List.getElem?_eq_none (by omega)] at hu; cases hu
        have := hcell i' (by omega)
        rw [add_add] at this
        rw [this, hu]
      obtain ⟨b, off, spot⟩ := a
      have hspot : spot = none := by
        obtain ⟨_, cs, hlen, _, hc⟩ := key 0 (by omega)
        have hlt : 0 < cs.length := by omega
        have := hc 0 _ (List.getElem?_eq_getElem hlt)
        simpa [Addr.add] using World.cell?_spot this
      subst hspot
      have hb : b < w.heap.size := by
        obtain ⟨_, cs, hlen, _, hc⟩ := key 0 (by omega)
        have hlt : 0 < cs.length := by omega
        have := hc 0 _ (List.getElem?_eq_getElem hlt)
        rw [add_plain] at this
        exact cell_lt this
      obtain ⟨q, hq⟩ := choose_lt key
      refine ⟨(List.range len).map q, by simp, .inr ⟨b, off, rfl, hb, fun j hj => ?_⟩⟩
      rw [List.length_map, List.length_range] at hj
      rw [List.getElem_map, List.getElem_range]
      obtain ⟨cs, h1, h2, h3⟩ := hq j hj
      refine ⟨cs, h1, h2, fun i u hu => ?_⟩
      have := h3 i u hu
      rw [add_plain, ← Nat.add_assoc] at this
      exact this
theorem open_texts {fuel : Nat} {cs : List Value} {x : DataW H × List MemPlace} (h : DataW.trod enc Try.prog w base spare held fuel 27 cs = some x) : ∃ v L, cs = [v] ∧ Texts w.heap.size w v L := by
  obtain ⟨ad, len, cap, hcs, hl, hm, L, hL, h2⟩ := open_list (α := ByteArray) ⟨#[]⟩ Try.underlying27 oc9 (by omega) (fun cs s => cs = [.string s]) (fun n cs y hy => by
    obtain ⟨s, hs, _⟩ := DataW.trod_string Try.underlying9 hy
    exact ⟨s, hs⟩) h
  subst hL
  refine ⟨_, L, hcs, ad, cap, rfl, hl, h2.imp id ?_⟩
  rintro ⟨b, off, h3, h4, h5⟩
  refine ⟨b, off, h3, .inl ⟨h4, h4⟩, fun j hj => ?_⟩
  obtain ⟨cs, h6, h7, h8⟩ := h5 j hj
  have := h8 0 (.string L[j]) (by rw [h7]; rfl)
  simpa using this
def Fit (x : Int) : Prop := -9223372036854775808 ≤ x ∧ x ≤ 9223372036854775807
theorem open_val {fuel : Nat} {cs : List Value} {x : DataW H × List MemPlace} (h : DataW.trod enc Try.prog w base spare held fuel 46 cs = some x) : ∃ v : Vl, cs = [.int .i64 v.kind, .int .i64 v.n, .string v.s] := by
  obtain ⟨y0, y1, y2, m, _, hl, h0, h1, h2⟩ := trod_struct3 Try.underlying46 h
  rw [ocVL] at hl
  simp only [oc3, oc9, List.drop_zero] at h0 h1 h2
  match cs, hl with
  | [v0, v1, v2], _ =>
    simp at h0 h1 h2
    obtain ⟨a, ha, _, wa⟩ := DataW.trod_int Try.underlying3 h0
    obtain ⟨k, hk, _, wk⟩ := DataW.trod_int Try.underlying3 h1
    obtain ⟨s, hs, _, ws⟩ := DataW.trod_string Try.underlying9 h2
    simp at ha hk hs
    exact ⟨⟨a, k, s⟩, by rw [ha, hk, hs]⟩
theorem open_vals {fuel : Nat} {cs : List Value} {x : DataW H × List MemPlace} (h : DataW.trod enc Try.prog w base spare held fuel 28 cs = some x) : ∃ v L, cs = [v] ∧ Vals w.heap.size w v L := by
  obtain ⟨ad, len, cap, hcs, hl, hm, L, hL, h2⟩ := open_list (α := Vl) ⟨0, 0, ⟨#[]⟩⟩ Try.underlying28 ocVL (by omega) (fun cs v => cs = [.int .i64 v.kind, .int .i64 v.n, .string v.s]) (fun n cs y hy => open_val hy) h
  subst hL
  refine ⟨_, L, hcs, ad, cap, rfl, hl, h2.imp id ?_⟩
  rintro ⟨b, off, h3, h4, h5⟩
  refine ⟨b, off, h3, .inl ⟨h4, h4⟩, fun j hj => ?_⟩
  obtain ⟨cs, h6, h7, h8⟩ := h5 j hj
  exact ⟨by simpa using h8 0 _ (by rw [h7]; rfl), h8 1 _ (by rw [h7]; rfl), h8 2 _ (by rw [h7]; rfl)⟩
/-- A cell that came in. -/
def Came (w : World) (cs : List Value) (c : Cl) : Prop := ∃ vK vV, cs = [.int .i64 c.kind, .int .i64 c.a, .int .i64 c.b, vK, vV] ∧ Texts w.heap.size w vK c.keys ∧ Vals w.heap.size w vV c.vals
theorem open_cell {fuel : Nat} {cs : List Value} {x : DataW H × List MemPlace} (h : DataW.trod enc Try.prog w base spare held fuel 30 cs = some x) : ∃ c : Cl, Came w cs c := by
  obtain ⟨y0, y1, y2, y3, y4, m, hl, h0, h1, h2, h3, h4⟩ := trod_struct5 Try.underlying30 h
  rw [ocCL] at hl
  simp only [oc3, ocSS, ocSV, List.drop_zero] at h0 h1 h2 h3 h4
  match cs, hl with
  | [v0, v1, v2, v3, v4], _ =>
    simp at h0 h1 h2 h3 h4
    obtain ⟨k, hk, _, _⟩ := DataW.trod_int Try.underlying3 h0
    obtain ⟨a, ha, _, _⟩ := DataW.trod_int Try.underlying3 h1
    obtain ⟨b, hb, _, _⟩ := DataW.trod_int Try.underlying3 h2
    obtain ⟨vK, K, hK, tK⟩ := open_texts h3
    obtain ⟨vV, V, hV, tV⟩ := open_vals h4
    simp at hk ha hb hK hV
    exact ⟨⟨k, a, b, K, V⟩, vK, vV, by rw [hk, ha, hb, hK, hV], tK, tV⟩
/-- What the walk is told of a slice of cells that came in. -/
def IsCells (w : World) (ad : Option Addr) (len cap : Nat) (L : List Cl) : Prop :=
  L.length = len ∧ len ≤ cap ∧ cap ≤ maxLen ∧ (len = 0 ∨ ∃ b off, ad = some ⟨b, off, none⟩ ∧ b < w.heap.size ∧ ∀ j (hj : j < L.length), ∃ vK vV,
    w.cell? ⟨b, off + j * 5, none⟩ = some (.int .i64 L[j].kind) ∧ w.cell? ⟨b, off + j * 5 + 1, none⟩ = some (.int .i64 L[j].a) ∧ w.cell? ⟨b, off + j * 5 + 2, none⟩ = some (.int .i64 L[j].b) ∧ w.cell? ⟨b, off + j * 5 + 3, none⟩ = some vK ∧ w.cell? ⟨b, off + j * 5 + 4, none⟩ = some vV ∧ Texts w.heap.size w vK L[j].keys ∧ Vals w.heap.size w vV L[j].vals)
theorem open_cells {fuel : Nat} {ad : Option Addr} {len cap : Nat} {x : DataW H × List MemPlace} (h : DataW.trod enc Try.prog w base spare held fuel 22 [.slice ad len cap] = some x) : ∃ L, IsCells w ad len cap L := by
  obtain ⟨ad', len', cap', hcs, hl, hm, L, hL, h2⟩ := open_list (α := Cl) Cl.zero Try.underlying22 ocCL (by omega) (fun cs c => Came w cs c) (fun n cs y hy => open_cell hy) h
  simp at hcs
  obtain ⟨rfl, rfl, rfl⟩ := hcs
  refine ⟨L, hL, hl, hm, h2.imp id ?_⟩
  rintro ⟨b, off, h3, h4, h5⟩
  refine ⟨b, off, h3, h4, fun j hj => ?_⟩
  obtain ⟨cs, h6, ⟨vK, vV, h7, h9, h10⟩, h8⟩ := h5 j hj
  exact ⟨vK, vV, by simpa using h8 0 _ (by rw [h7]; rfl), h8 1 _ (by rw [h7]; rfl), h8 2 _ (by rw [h7]; rfl), h8 3 _ (by rw [h7]; rfl), h8 4 _ (by rw [h7]; rfl), h9, h10⟩
def IsVals (w : World) (ad : Option Addr) (len cap : Nat) (L : List Vl) : Prop := L.length = len ∧ len ≤ maxLen ∧ Vals w.heap.size w (.slice ad len cap) L
theorem open_vals' {fuel : Nat} {ad : Option Addr} {len cap : Nat} {x : DataW H × List MemPlace} (h : DataW.trod enc Try.prog w base spare held fuel 28 [.slice ad len cap] = some x) : ∃ L, IsVals w ad len cap L := by
  obtain ⟨v, L, hv, hL⟩ := open_vals h
  simp at hv
  subst hv
  obtain ⟨a, c, e, _⟩ := id hL
  injection e with _ e _
  refine ⟨L, e.symm, ?_, hL⟩
  rcases open_slice Try.underlying28 h with ⟨hcs, _⟩ | ⟨a, len', cap', m, n, D, Pl, hcs, hb, hl, hm, _⟩
  · simp at hcs; omega
  · simp at hcs; omega
theorem IsCells.cs {ad : Option Addr} {len cap : Nat} {L : List Cl} (h : IsCells w ad len cap L) : Cs w.heap.size w (.slice ad len cap) L := by
  obtain ⟨rfl, h1, h2, h3⟩ := h
  refine ⟨ad, cap, rfl, h3.imp id ?_⟩
  rintro ⟨b, off, h4, h5, h6⟩
  refine ⟨b, off, h4, h5, h5, fun j hj => ?_⟩
  obtain ⟨vK, vV, c0, c1, c2, c3, c4, c5, c6⟩ := h6 j hj
  obtain ⟨aK, kK, rfl, -⟩ := id c5
  exact ⟨aK, _, kK, vV, c0, c1, c2, c3, c4, c6⟩
/-- A slice of numbers that came in. -/
def IsNums (w : World) (ad : Option Addr) (len cap : Nat) (L : List Int) : Prop :=
  L.length = len ∧ len ≤ cap ∧ cap ≤ maxLen ∧ (len = 0 ∨ ∃ b off, ad = some ⟨b, off, none⟩ ∧ b < w.heap.size ∧ ∀ j (hj : j < L.length), w.cell? ⟨b, off + j, none⟩ = some (.int .i64 L[j]) ∧ Fit L[j])
theorem open_nums {fuel : Nat} {ad : Option Addr} {len cap : Nat} {x : DataW H × List MemPlace} (h : DataW.trod enc Try.prog w base spare held fuel 23 [.slice ad len cap] = some x) : ∃ L, IsNums w ad len cap L := by
  obtain ⟨ad', len', cap', hcs, hl, hm, L, hL, h2⟩ := open_list (α := Int) 0 Try.underlying23 oc3 (by omega) (fun cs a => cs = [.int .i64 a] ∧ Fit a) (fun n cs y hy => by
    obtain ⟨a, ha, _, wa⟩ := DataW.trod_int Try.underlying3 hy
    exact ⟨a, ha, bounds_i64 wa⟩) h
  simp at hcs
  obtain ⟨rfl, rfl, rfl⟩ := hcs
  refine ⟨L, hL, hl, hm, h2.imp id ?_⟩
  rintro ⟨b, off, h3, h4, h5⟩
  refine ⟨b, off, h3, h4, fun j hj => ?_⟩
  obtain ⟨cs, h6, ⟨h7, h9⟩, h8⟩ := h5 j hj
  exact ⟨by simpa using h8 0 _ (by rw [h7]; rfl), h9⟩
end
end Go.Proofs.Ytmipgpkeegggpaa.P
