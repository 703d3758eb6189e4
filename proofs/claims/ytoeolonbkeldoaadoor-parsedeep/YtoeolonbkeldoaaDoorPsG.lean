/- Nodes only grow: each of the parser's functions, by lists. -/
import Derived.Test.YtoeolonbkeldoaaDoorPsM
namespace Go.Proofs.YtoeolonbkeldoaaDoor.Ps
open Lx
set_option linter.unusedVariables false
/-- The nodes do not get fewer. -/
def Gr {α : Type} (f : M α) : Prop := ∀ s, s.nodes.length ≤ (f s).2.nodes.length
theorem skip_n (s : St) : (skip s).2.nodes = s.nodes := by unfold skip; simp only []; split <;> rfl
theorem take_n (m : List UInt8) (s : St) : (take m s).2.nodes = s.nodes := by
  unfold take; split
  · exact skip_n s
  · rfl
theorem gr_add (n : Nd) : Gr (add n) := fun s => by simp [add]
theorem gr_fail : Gr fail := fun s => by
  unfold fail
  split
  · exact gr_add _ s
  · exact gr_add _ { s with failed := true, at_ := (nxt s).a, toks := [bad] }
theorem gr_want (m : List UInt8) : Gr (want m) := fun s => by
  unfold want
  have h := take_n m s
  generalize take m s = P at *
  obtain ⟨b, s'⟩ := P
  simp only at h
  cases b
  · have := gr_fail s'; rw [h] at this; exact this
  · simp only [h]; exact Nat.le_refl _
theorem gr_textOf (k : List Nat) : Gr (textOf k) := fun s => by
  unfold textOf
  split
  · rw [skip_n]; exact Nat.le_refl _
  · exact gr_fail s
theorem gr_name : Gr name := gr_textOf _
theorem gr_over (n : Nd) (k : List Nat) : Gr (over n k) := fun s => gr_add _ s
theorem gr_itemsLoop {α : Type} {item : M α} (hi : Gr item) : ∀ (f : Nat) (l : List α), Gr (itemsLoop item f l)
  | 0, l, s => Nat.le_refl _
  | f + 1, l, s => by
    unfold itemsLoop
    have h := take_n [44] s
    generalize take [44] s = P at *
    obtain ⟨b, s'⟩ := P
    simp only at h
    cases b
    · simp only [h]; exact Nat.le_refl _
    · have h1 := hi s'
      have h2 := gr_itemsLoop hi f (l ++ [(item s').1]) (item s').2
      rw [h] at h1
      exact Nat.le_trans h1 h2
theorem gr_items {α : Type} {item : M α} (hi : Gr item) (m : List UInt8) : Gr (items m item) := fun s => by
  unfold items
  have h := take_n m s
  generalize take m s = P at *
  obtain ⟨b, s'⟩ := P
  simp only at h
  cases b
  · have h1 := hi s'
    have h2 := gr_itemsLoop hi (item s').2.toks.length [(item s').1] (item s').2
    have h3 := gr_want m (itemsLoop item (item s').2.toks.length [(item s').1] (item s').2).2
    rw [h] at h1
    exact Nat.le_trans h1 (Nat.le_trans h2 h3)
  · simp only [h]; exact Nat.le_refl _
theorem gr_chainLoop {lv : List UInt8 → Option Nd} {sub : M Nat} (hs : Gr sub) : ∀ (f left : Nat), Gr (chainLoop lv sub f left)
  | 0, l, s => Nat.le_refl _
  | f + 1, l, s => by
    unfold chainLoop
    split
    · exact Nat.le_refl _
    · rename_i n _
      have h0 := skip_n s
      have h1 := hs (skip s).2
      rw [h0] at h1
      have h2 := gr_over n [l, (sub (skip s).2).1] (sub (skip s).2).2
      have h3 := gr_chainLoop (lv := lv) hs f (over n [l, (sub (skip s).2).1] (sub (skip s).2).2).1 (over n [l, (sub (skip s).2).1] (sub (skip s).2).2).2
      exact Nat.le_trans h1 (Nat.le_trans h2 h3)
theorem gr_chain {part : M Nat} (hp : Gr part) : ∀ (row : List (List UInt8 → Option Nd)), Gr (chain part row)
  | [], s => hp s
  | lv :: row, s => Nat.le_trans (gr_chain hp row s) (gr_chainLoop (gr_chain hp row) _ _ _)
structure GrL (L : Lv) : Prop where
  e : Gr L.e
  u : Gr L.u
  p : Gr L.p
  s : Gr L.s
theorem gr_choice {L : Lv} (h : GrL L) : Gr (choice L) := fun s => by
  unfold choice
  have h1 := gr_chain (gr_chain h.u binaries) logics s
  have h2 := take_n [63] (chain (chain L.u binaries) logics s).2
  simp only []
  generalize take [63] (chain (chain L.u binaries) logics s).2 = P at *
  obtain ⟨b, s'⟩ := P
  simp only at h2
  rw [← h2] at h1
  cases b
  · exact h1
  · have h3 := h.e s'
    have h4 := gr_want [58] (L.e s').2
    have h5 := h.e (want [58] (L.e s').2).2
    have h6 := gr_over { k := 18 } [(chain (chain L.u binaries) logics s).1, (L.e s').1, (L.e (want [58] (L.e s').2).2).1] (L.e (want [58] (L.e s').2).2).2
    exact Nat.le_trans h1 (Nat.le_trans h3 (Nat.le_trans h4 (Nat.le_trans h5 h6)))
theorem gr_leaf (n : Nd) : Gr (leaf n) := fun s => by
  have := gr_add { n with a := (skip s).1.a } (skip s).2
  rw [skip_n] at this
  exact this
theorem gr_inParens {L : Lv} (h : GrL L) : Gr (inParens L) := fun s =>
  Nat.le_trans (gr_want [40] s) (Nat.le_trans (h.e _) (gr_want [41] _))
theorem gr_statementsLoop {L : Lv} (h : GrL L) : ∀ (f : Nat) (l : List Nat), Gr (statementsLoop L f l)
  | 0, l, s => Nat.le_refl _
  | f + 1, l, s => by
    unfold statementsLoop
    split
    · exact Nat.le_trans (h.s s) (gr_statementsLoop h f _ _)
    · exact Nat.le_refl _
theorem gr_statements {L : Lv} (h : GrL L) : Gr (statements L) := fun s => gr_statementsLoop h _ _ s
theorem gr_body {L : Lv} (h : GrL L) : Gr (body L) := fun s => Nat.le_trans (gr_want [123] s) (Nat.le_trans (gr_statements h _) (gr_want [125] _))
theorem gr_endS : Gr endS := fun s => by
  unfold endS
  have h := take_n [59] s
  generalize take [59] s = P at *
  obtain ⟨b, s'⟩ := P
  simp only at h
  cases b
  · simp only []
    split
    · have := gr_fail s'; rw [h] at this; exact this
    · rw [h]; exact Nat.le_refl _
  · simp only [h]; exact Nat.le_refl _
theorem gr_block {L : Lv} (h : GrL L) : Gr (block L) := fun s => Nat.le_trans (gr_body h s) (gr_add _ _)
theorem gr_inner {L : Lv} (h : GrL L) : Gr (inner L) := fun s => by
  unfold inner; split
  · exact gr_fail s
  · exact h.s s
theorem gr_jump (k : Nat) : Gr (jump k) := fun s => by
  have h1 := gr_endS (skip s).2
  rw [skip_n] at h1
  exact Nat.le_trans h1 (gr_add _ _)
theorem gr_exprS {L : Lv} (h : GrL L) : Gr (exprS L) := fun s => Nat.le_trans (h.e s) (Nat.le_trans (gr_endS _) (gr_over _ _ _))
theorem gr_whileS {L : Lv} (h : GrL L) : Gr (whileS L) := fun s => by
  have h1 := gr_inParens h (skip s).2
  rw [skip_n] at h1
  exact Nat.le_trans h1 (Nat.le_trans (gr_inner h _) (gr_add _ _))
theorem gr_returnS {L : Lv} (h : GrL L) : Gr (returnS L) := fun s => by
  unfold returnS
  have h0 := skip_n s
  simp only []
  generalize skip s = x at *
  obtain ⟨x1, s1⟩ := x
  simp only at h0 ⊢
  rw [← h0]
  split
  · exact Nat.le_trans (h.e s1) (Nat.le_trans (gr_endS _) (gr_add _ _))
  · exact Nat.le_trans (gr_endS s1) (gr_add _ _)
theorem gr_throwS {L : Lv} (h : GrL L) : Gr (throwS L) := fun s => by
  unfold throwS
  have h0 := skip_n s
  simp only []
  generalize skip s = x at *
  obtain ⟨x1, s1⟩ := x
  simp only at h0 ⊢
  rw [← h0]
  split
  · exact gr_fail s1
  · exact Nat.le_trans (h.e s1) (Nat.le_trans (gr_endS _) (gr_add _ _))
theorem gr_tryS {L : Lv} (h : GrL L) : Gr (tryS L) := fun s => by
  have h1 := gr_block h (skip s).2
  rw [skip_n] at h1
  exact Nat.le_trans h1 (Nat.le_trans (gr_want [99, 97, 116, 99, 104] _) (Nat.le_trans (gr_want [40] _) (Nat.le_trans (gr_name _) (Nat.le_trans (gr_want [41] _) (Nat.le_trans (gr_block h _) (gr_add _ _))))))
theorem gr_binding {L : Lv} (h : GrL L) (k : Nat) : Gr (binding L k) := fun s => by
  have h1 := gr_name (skip s).2
  rw [skip_n] at h1
  exact Nat.le_trans h1 (Nat.le_trans (gr_want [61] _) (Nat.le_trans (h.e _) (Nat.le_trans (gr_endS _) (gr_add _ _))))
theorem gr_func {L : Lv} (h : GrL L) (b : Bool) : Gr (func L b) := fun s => by
  unfold func
  simp only []
  have h0 := take_n [42] (skip s).2
  rw [skip_n] at h0
  rw [← h0]
  have h1 : (take [42] (skip s).2).2.nodes.length ≤ (if (b || decide ((nxt (take [42] (skip s).2).2).k = 3)) = true then name (take [42] (skip s).2).2 else ([], (take [42] (skip s).2).2)).2.nodes.length := by
    split
    · exact gr_name _
    · exact Nat.le_refl _
  refine Nat.le_trans h1 ?_
  exact Nat.le_trans (gr_want [40] _) (Nat.le_trans (gr_items gr_name [41] _) (Nat.le_trans (gr_body h _) (gr_add _ _)))
theorem gr_definition {L : Lv} (h : GrL L) : Gr (definition L) := fun s => Nat.le_trans (gr_func h true s) (gr_add _ _)
theorem gr_ifS {L : Lv} (h : GrL L) : Gr (ifS L) := fun s => by
  unfold ifS
  simp only []
  have h1 := gr_inParens h (skip s).2
  rw [skip_n] at h1
  have h2 := Nat.le_trans h1 (gr_inner h _)
  have h3 := take_n [101, 108, 115, 101] (inner L (inParens L (skip s).2).2).2
  generalize take [101, 108, 115, 101] (inner L (inParens L (skip s).2).2).2 = P at *
  obtain ⟨b, s'⟩ := P
  simp only at h3
  rw [← h3] at h2
  cases b
  · exact Nat.le_trans h2 (gr_add _ _)
  · exact Nat.le_trans h2 (Nat.le_trans (gr_inner h _) (gr_add _ _))
theorem gr_pair {L : Lv} (h : GrL L) : Gr (pair L) := fun s => Nat.le_trans (gr_textOf [3, 4, 2] s) (Nat.le_trans (gr_want [58] _) (h.e _))
theorem ite_le {c : Prop} [Decidable c] {n : Nat} {a b : Nat × St} (ha : n ≤ a.2.nodes.length) (hb : n ≤ b.2.nodes.length) : n ≤ (if c then a else b).2.nodes.length := by split <;> assumption
theorem gr_arr {L : Lv} (h : GrL L) (s : St) : s.nodes.length ≤ (add { k := 9, a := (skip s).1.a, kids := (items [93] L.e (skip s).2).1 } (items [93] L.e (skip s).2).2).2.nodes.length := by
  have h1 := gr_items h.e [93] (skip s).2
  rw [skip_n] at h1
  exact Nat.le_trans h1 (gr_add _ _)
theorem gr_obj {L : Lv} (h : GrL L) (s : St) : s.nodes.length ≤ (add { k := 8, a := (skip s).1.a, names := (items [125] (pair L) (skip s).2).1.map (·.1), kids := (items [125] (pair L) (skip s).2).1.map (·.2) } (items [125] (pair L) (skip s).2).2).2.nodes.length := by
  have h1 := gr_items (gr_pair h) [125] (skip s).2
  rw [skip_n] at h1
  exact Nat.le_trans h1 (gr_add _ _)
theorem gr_alone {L : Lv} (h : GrL L) : Gr (alone L) := fun s => by
  unfold alone
  exact (ite_le (gr_leaf _ s) (ite_le (gr_leaf _ s) (ite_le (gr_leaf _ s) (ite_le (gr_leaf _ s) (ite_le (gr_leaf _ s) (ite_le (gr_leaf _ s) (ite_le (gr_leaf _ s) (ite_le (gr_leaf _ s) (ite_le (gr_inParens h s) (ite_le (gr_arr h s) (ite_le (gr_obj h s) (ite_le (gr_func h false s) (gr_fail s)))))))))))))
theorem gr_primaryLoop {L : Lv} (h : GrL L) : ∀ (f p : Nat), Gr (primaryLoop L f p)
  | 0, p, s => Nat.le_refl _
  | f + 1, p, s => by
    unfold primaryLoop
    have h1 := take_n [46] s
    generalize take [46] s = P at *
    obtain ⟨b, s1⟩ := P
    simp only at h1
    rw [← h1]
    cases b
    · simp only []
      have h2 := take_n [91] s1
      generalize take [91] s1 = P at *
      obtain ⟨b, s2⟩ := P
      simp only at h2
      rw [← h2]
      cases b
      · simp only []
        have h3 := take_n [40] s2
        generalize take [40] s2 = P at *
        obtain ⟨b, s3⟩ := P
        simp only at h3
        rw [← h3]
        cases b
        · exact Nat.le_refl _
        · exact Nat.le_trans (gr_items h.e [41] s3) (Nat.le_trans (gr_over _ _ _) (gr_primaryLoop h f _ _))
      · exact Nat.le_trans (h.e s2) (Nat.le_trans (gr_want [93] _) (Nat.le_trans (gr_over _ _ _) (gr_primaryLoop h f _ _)))
    · exact Nat.le_trans (gr_textOf [3, 4] s1) (Nat.le_trans (gr_over _ _ _) (gr_primaryLoop h f _ _))
theorem gr_primary {L : Lv} (h : GrL L) : Gr (primary L) := fun s => Nat.le_trans (gr_alone h s) (gr_primaryLoop h _ _ _)
theorem gr_anyUnary {L : Lv} (h : GrL L) : Gr (anyUnary L) := fun s => by
  unfold anyUnary
  split
  · have h1 := h.u (skip s).2
    rw [skip_n] at h1
    exact Nat.le_trans h1 (gr_add _ _)
  · exact h.p s
theorem gr_anyExpr {L : Lv} (h : GrL L) : Gr (anyExpr L) := fun s => by
  unfold anyExpr
  have h1 := take_n [121, 105, 101, 108, 100] s
  generalize take [121, 105, 101, 108, 100] s = P at *
  obtain ⟨b, s1⟩ := P
  simp only at h1
  rw [← h1]
  cases b
  · simp only []
    have h2 := gr_choice h s1
    split
    · have h3 := take_n [61] (choice L s1).2
      generalize take [61] (choice L s1).2 = P at *
      obtain ⟨b, s2⟩ := P
      simp only at h3
      rw [← h3] at h2
      cases b
      · exact h2
      · exact Nat.le_trans h2 (Nat.le_trans (h.e _) (gr_over _ _ _))
    · exact h2
  · exact Nat.le_trans (h.e s1) (gr_add _ _)
theorem gr_anyStatement {L : Lv} (h : GrL L) : Gr (anyStatement L) := fun s => by
  unfold anyStatement
  exact (ite_le (gr_block h s) (ite_le (gr_ifS h s) (ite_le (gr_whileS h s) (ite_le (gr_jump 28 s) (ite_le (gr_jump 29 s) (ite_le (gr_returnS h s) (ite_le (gr_throwS h s) (ite_le (gr_tryS h s) (ite_le (gr_binding h 21 s) (ite_le (gr_binding h 22 s) (ite_le (gr_definition h s) (gr_exprS h s))))))))))))
theorem gr_lv : ∀ d, GrL (lv d)
  | 0 => ⟨gr_fail, gr_fail, gr_fail, gr_fail⟩
  | d + 1 => ⟨gr_anyExpr (gr_lv d), gr_anyUnary (gr_lv d), gr_primary (gr_lv d), gr_anyStatement (gr_lv d)⟩
end Go.Proofs.YtoeolonbkeldoaaDoor.Ps
