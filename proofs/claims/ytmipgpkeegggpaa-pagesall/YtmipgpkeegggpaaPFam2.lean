-- PROVED: what becomes of the reference's family in memory.
import Derived.Test.YtmipgpkeegggpaaPFam
namespace Go.Proofs.Ytmipgpkeegggpaa.P
open Go.RowKit
set_option linter.unusedVariables false
/-- A list is copied behind an empty one of one's own. -/
theorem run_copy2 {t e : TypeId} {z : Value} {size bytes : Nat} (ht : Try.prog.underlying t = some (.slice e)) (hinf : (Try.prog.info? e).map (fun i => (i.zero, i.size, i.bytes)) = some (some z, size, bytes)) (hzs : z.cells.size = size) (hsz : 0 < size) (hby : bytes ≤ 1000)
    {w : World} {m : Nat} {news : List Value} (xo : Option Addr) (c : Nat) (hm : m ≤ 100000) (hl : news.length = m * size) (h1 : ∀ u ∈ news, u.oneCell' = true) (hx : m = 0 ∨ ∃ b off, xo = some ⟨b, off, none⟩ ∧ ∀ j u, news[j]? = some u → w.cell? ⟨b, off + j, none⟩ = some u) (ty : TypeId) :
    ∃ a cap w', (Builtin.append_ #[t, t] ty #[.slice (some ⟨w.heap.size, 0, none⟩) 0 0, .slice xo m c]).run Try.prog (w.alloc (.cells #[] e)) = .ok (.slice a m cap) w' ∧ w'.ownsRow w.heap.size e size (.slice a m cap) m news ∧ Below w.heap.size w w' := by
  obtain ⟨i0, hi, hz0, hz1, hz2⟩ := info_parts hinf
  have hal := heap_alloc_new w (.cells #[] e)
  have hbel : Below w.heap.size w (w.alloc (.cells #[] e)) := (Below.refl _ _).alloc (Nat.le_refl _) _
  have hsize : (w.alloc (.cells #[] e)).heap.size = w.heap.size + 1 := by simp
  have hown : (w.alloc (.cells #[] e)).ownsRow w.heap.size e size (.slice (some ⟨w.heap.size, 0, none⟩) 0 0) 0 [] := by
    refine ⟨by simp, .inr ⟨w.heap.size, 0, #[], rfl, Nat.le_refl _, hal, Nat.le_refl _, by unfold maxLen; omega, by simp, by simp⟩⟩
  have hcl : ∀ b off u, w.cell? ⟨b, off, none⟩ = some u → (w.alloc (.cells #[] e)).cell? ⟨b, off, none⟩ = some u := fun b off u hu => (hbel.cell (p := ⟨b, off, none⟩) (cell_lt hu)).trans hu
  generalize w.alloc (.cells #[] e) = w1 at *
  by_cases h0 : m = 0
  · subst h0
    have hX : news = [] := List.length_eq_zero_iff.1 (by simpa using hl)
    subst hX
    exact ⟨_, _, w1, run_append_nothing w1 t t ty e i0 ht hi (some ⟨w.heap.size, 0, none⟩) 0 0 (Nat.le_refl _) _ (src_nothing ht xo c _ w1), hown, hbel⟩
  · obtain ⟨b, off, rfl, hc⟩ := hx.resolve_left h0
    have hmb : (0 + m) * bytes ≤ 140737488355328 := by
      have : (0 + m) * bytes ≤ 100000 * 1000 := Nat.mul_le_mul (by omega) hby
      omega
    obtain ⟨v', w', g1, g2, g3, _⟩ := run_append_own (P := Try.prog) w1 w.heap.size t ty e i0 z size bytes ht hi hz0 hz1 hz2 hzs hsz _ 0 [] hown ⟨b, off, none⟩ m c news hl (by
        intro j u hj
        rw [Go.WideShapes.add_plain]; exact hcl _ _ _ (hc j u hj)) h1 (by unfold maxLen; omega) hmb (by omega)
    rw [Nat.zero_add, List.nil_append] at g2
    obtain ⟨a, cap, rfl⟩ : ∃ a cap, v' = .slice a m cap := by
      rcases g2.2 with ⟨h4, h5⟩ | ⟨g, cap, cur, h4, _⟩
      · exact ⟨none, 0, by rw [h4, h5]⟩
      · exact ⟨_, _, h4⟩
    refine ⟨a, cap, w', g1, g2, hbel.trans ((Below.refl _ _).grown g3 (by omega) (by simp [Value.ownBlock]))⟩
theorem own_put3 {base : Nat} {w : World} {e : TypeId} {g n cap j : Nat} {xs : List Value} (h : w.ownsRow base e 3 (.slice (some ⟨g, 0, none⟩) n cap) n xs) (u : Value) : (w.setCell ⟨g, j, none⟩ u).ownsRow base e 3 (.slice (some ⟨g, 0, none⟩) n cap) n (xs.set j u) := by
  obtain ⟨h0, h1⟩ := h
  refine ⟨by simpa using h0, ?_⟩
  rcases h1 with ⟨h1, _⟩ | ⟨g', cap', cur, h1, h2, h3, h4, h5, h6, h7⟩
  · cases h1
  · injection h1 with e1 e2 e3
    injection e1 with e1
    injection e1 with e1
    subst e1
    refine .inr ⟨g, cap', _, by rw [e3], h2, Lib.heap_setCell_same h3 u, h4, h5, by simpa using h6, ?_⟩
    rw [Array.toList_setIfInBounds, ← h7]
    rw [List.take_set]
def withP (r : Rb) (l : List Nat) (v : Value) : Rb := { r with pgs := l, vP := v }
def withC (r : Rb) (l : List Cl) (v : Value) : Rb := { r with cells := l, vC := v }
theorem rcells_cons (x : Rb) (l : List Rb) : rcells (x :: l) = x.vC :: x.vP :: .bool x.gone :: rcells l := by simp [rcells]
theorem rcells_P : ∀ (l : List Rb) (i : Nat) (r : Rb) (ps : List Nat) (v : Value), l[i]? = some r → rcells (l.set i (withP r ps v)) = (rcells l).set (i * 3 + 1) v
  | [], i, r, ps, v, h => by simp at h
  | x :: l, 0, r, ps, v, h => by simp at h; subst h; simp [rcells_cons, withP]
  | x :: l, i + 1, r, ps, v, h => by
    have ih := rcells_P l i r ps v (by simpa using h)
    rw [List.set_cons_succ, rcells_cons, rcells_cons, ih]
    rw [show (i + 1) * 3 + 1 = (i * 3 + 1) + 1 + 1 + 1 by omega]
    rfl
theorem rcells_C : ∀ (l : List Rb) (i : Nat) (r : Rb) (cs : List Cl) (v : Value), l[i]? = some r → rcells (l.set i (withC r cs v)) = (rcells l).set (i * 3) v
  | [], i, r, cs, v, h => by simp at h
  | x :: l, 0, r, cs, v, h => by simp at h; subst h; simp [rcells_cons, withC]
  | x :: l, i + 1, r, cs, v, h => by
    have ih := rcells_C l i r cs v (by simpa using h)
    rw [List.set_cons_succ, rcells_cons, rcells_cons, ih]
    rw [show (i + 1) * 3 = i * 3 + 1 + 1 + 1 by omega]
    rfl
def goneR (r : Rb) : Rb := ⟨[], [], true, .slice none 0 0, .slice none 0 0⟩
theorem rcells_G : ∀ (l : List Rb) (i : Nat) (r : Rb), l[i]? = some r → rcells (l.set i (goneR r)) = (((rcells l).set (i * 3) (.slice none 0 0)).set (i * 3 + 1) (.slice none 0 0)).set (i * 3 + 2) (.bool true)
  | [], i, r, h => by simp at h
  | x :: l, 0, r, h => by simp at h; subst h; simp [rcells_cons, goneR]
  | x :: l, i + 1, r, h => by
    have ih := rcells_G l i r (by simpa using h)
    rw [List.set_cons_succ, rcells_cons, rcells_cons, ih]
    rw [show (i + 1) * 3 + 2 = (i * 3 + 2) + 1 + 1 + 1 by omega, show (i + 1) * 3 + 1 = (i * 3 + 1) + 1 + 1 + 1 by omega, show (i + 1) * 3 = i * 3 + 1 + 1 + 1 by omega]
    rfl
theorem rget_set {rs : List Rb} {i j : Nat} {r r' c : Rb} (hb : rs[i]? = some r) (h : (rs.set i r')[j]? = some c) : (j = i ∧ c = r') ∨ (j ≠ i ∧ rs[j]? = some c) := by
  have hl := (List.getElem?_eq_some_iff.1 hb).1
  rw [List.getElem?_set] at h
  by_cases hij : i = j
  · subst hij
    rw [if_pos rfl, if_pos hl] at h
    exact .inl ⟨rfl, (Option.some.inj h).symm⟩
  · rw [if_neg hij] at h
    exact .inr ⟨fun e => hij e.symm, h⟩
section
variable {base fB nx : Nat} {w : World} {rs : List Rb}
/-- A number is counted. -/
theorem Fam.next (h : Fam base w fB rs nx) (n : Nat) : Fam base (w.setCell ⟨fB, 1, none⟩ (.int .i64 (n : Int))) fB rs n ∧ Keep [58] base w (w.setCell ⟨fB, 1, none⟩ (.int .i64 (n : Int))) := by
  obtain ⟨v, h1, h2⟩ := h.fam
  have kk : Keep [58] base w (w.setCell ⟨fB, 1, none⟩ (.int .i64 (n : Int))) := (Keep.refl _ _ _).set h1 (by simp) h.low _
  refine ⟨⟨h.low, ⟨v, Lib.heap_setCell_same h1 _, own_same h2 fun g cur _ hg => kk.same _ _ _ _ hg (by simp)⟩, fun i r hr => ?_, h.few⟩, kk⟩
  obtain ⟨g1, g2, g3⟩ := h.book i r hr
  exact ⟨g1.keep kk (by simp) (by simp [Mine]), g2.keep kk (by simp), g3⟩
/-- One field of a book is turned. -/
theorem Fam.put {g cap o : Nat} (h : Fam base w fB rs nx) {i : Nat} {r r' : Rb} (hr : rs[i]? = some r) (hv : w.cell? ⟨fB, 0, none⟩ = some (.slice (some ⟨g, 0, none⟩) rs.length cap)) (u : Value) (hc : rcells (rs.set i r') = (rcells rs).set o u)
    (hb : Cells base w r'.vC r'.cells ∧ Ints base w r'.vP r'.pgs ∧ r'.cells.length ≤ 4096 ∧ r'.pgs.length ≤ 1000) :
    Fam base (w.setCell ⟨g, o, none⟩ u) fB (rs.set i r') nx ∧ Keep [55] base w (w.setCell ⟨g, o, none⟩ u) := by
  obtain ⟨g', cap', e0, _, _, _, _, hl, _, hbg, hgl, _, _, _, _, ⟨cur, hcur⟩, hown⟩ := h.at_ hr
  rw [hv] at e0
  injection e0 with e0
  injection e0 with e0 e1 e2
  injection e0 with e0
  injection e0 with e0 _ _
  subst e0 e2
  obtain ⟨v, h1, h2⟩ := h.fam
  have kk : Keep [55] base w (w.setCell ⟨g, o, none⟩ u) := (Keep.refl _ _ _).set hcur (by simp) hbg _
  have hvv : v = .slice (some ⟨g, 0, none⟩) rs.length cap := by
    have := cellsOf h1 0
    rw [hv] at this
    simp at this
    exact this.symm
  subst hvv
  refine ⟨⟨h.low, ⟨_, (kk.same _ _ _ _ h1 (by simp)).trans h1, ?_⟩, fun j c hc' => ?_, by rw [List.length_set]; exact h.few⟩, kk⟩
  · rw [hc, List.length_set]; exact own_put3 hown u
  · rcases rget_set hr hc' with ⟨rfl, rfl⟩ | ⟨_, h7⟩
    · exact ⟨hb.1.keep kk (by simp) (by simp [Mine]), hb.2.1.keep kk (by simp), hb.2.2⟩
    · obtain ⟨g1, g2, g3⟩ := h.book j c h7
      exact ⟨g1.keep kk (by simp) (by simp [Mine]), g2.keep kk (by simp), g3⟩
end
/-- A row of numbers of one's own. -/
theorem Ints.own {base B n : Nat} {w : World} {v : Value} {l : List Nat} (h : w.ownsRow B 3 1 v n (l.map fun x => .int .i64 ((x : Nat) : Int))) (hn : n = l.length) : Ints base w v l := by
  subst hn
  have hc := fun g hg => h.cells (g := g) hg
  rcases h.2 with ⟨h4, h5⟩ | ⟨g, cap, cur, h4, h5, h6, h7, _⟩
  · exact ⟨none, 0, by rw [h4, h5], by omega, .inl h5⟩
  · refine ⟨_, cap, h4, h7, .inr ⟨g, 0, cur, _, rfl, h6, fun j hj => ?_⟩⟩
    have := hc g (by rw [h4]; rfl) j (.int .i64 ((l[j] : Nat) : Int)) (by simp [hj])
    rw [Go.WideShapes.add_plain] at this
    exact this
end Go.Proofs.Ytmipgpkeegggpaa.P
