/- Texts: RpK RpE RpI RpF RpG RpH RpN. -/
import Derived.Test.YtpjmapoiinjakaaGreatDoorBn06
import Derived.Test.YtpjmapoiinjakaaGreatDoorBn26
section
namespace Go.Proofs.YtpjmapoiinjakaaGreatDoor.Ps.K
open Lx Ps
set_option linter.unusedVariables false
def Good (s : St) : Prop := True
/-- What failed has failed, and where. -/
def Le (s t : St) : Prop := s.failed = true → t.failed = true ∧ t.at_ = s.at_
theorem Le.good {s t : St} (h : Le s t) : Good t := trivial
theorem Le.refl {s : St} (g : Good s) : Le s s := fun h => ⟨h, rfl⟩
theorem Le.trans {a b c : St} (h : Le a b) (k : Le b c) : Le a c := fun e => ⟨(k (h e).1).1, ((k (h e).1).2).trans (h e).2⟩
def Sh {α : Type} (f : M α) : Prop := ∀ s, Good s → Le s (f s).2
theorem Le.then {α : Type} {f : M α} {a b : St} (h : Le a b) (k : Sh f) : Le a (f b).2 := h.trans (k b trivial)
theorem sh_skip : Sh skip := fun s g h => by
  unfold skip
  simp only []
  split <;> exact ⟨h, rfl⟩
theorem sh_take (m : List UInt8) : Sh (take m) := fun s g => by
  unfold take
  split
  · exact sh_skip s g
  · exact Le.refl g
theorem sh_add (n : Nd) : Sh (add n) := fun s g h => ⟨h, rfl⟩
theorem sh_fail : Sh fail := fun s g h => by
  unfold fail
  rw [if_pos h]
  exact ⟨h, rfl⟩
theorem sh_want (m : List UInt8) : Sh (want m) := fun s g => by
  unfold want
  have h := sh_take m s g
  generalize take m s = P at *
  obtain ⟨b, s'⟩ := P
  simp only at h
  cases b
  · exact h.then sh_fail
  · exact h
theorem sh_textOf (k : List Nat) : Sh (textOf k) := fun s g => by
  unfold textOf
  split
  · exact sh_skip s g
  · exact sh_fail s g
theorem sh_name : Sh name := sh_textOf _
theorem sh_over (n : Nd) (k : List Nat) : Sh (over n k) := fun s g => sh_add _ s g
theorem sh_itemsLoop {α : Type} {item : M α} (hi : Sh item) : ∀ (f : Nat) (l : List α), Sh (itemsLoop item f l)
  | 0, l, s, g => Le.refl g
  | f + 1, l, s, g => by
    unfold itemsLoop
    have h := sh_take [44] s g
    generalize take [44] s = P at *
    obtain ⟨b, s'⟩ := P
    simp only at h
    cases b
    · exact h
    · exact (h.then hi).then (sh_itemsLoop hi f _)
theorem sh_items {α : Type} {item : M α} (hi : Sh item) (m : List UInt8) : Sh (items m item) := fun s g => by
  unfold items
  have h := sh_take m s g
  generalize take m s = P at *
  obtain ⟨b, s'⟩ := P
  simp only at h
  cases b
  · exact ((h.then hi).then (sh_itemsLoop hi _ _)).then (sh_want m)
  · exact h
theorem sh_chainLoop {lv : List UInt8 → Option Nd} {sub : M Nat} (hs : Sh sub) : ∀ (f left : Nat), Sh (chainLoop lv sub f left)
  | 0, l, s, g => Le.refl g
  | f + 1, l, s, g => by
    unfold chainLoop
    split
    · exact Le.refl g
    · exact (((sh_skip s g).then hs).then (sh_over _ _)).then (sh_chainLoop hs f _)
theorem sh_chain {part : M Nat} (hp : Sh part) : ∀ (row : List (List UInt8 → Option Nd)), Sh (chain part row)
  | [], s, g => hp s g
  | lv :: row, s, g => (sh_chain hp row s g).then (sh_chainLoop (sh_chain hp row) _ _)
structure ShL (L : Lv) : Prop where
  e : Sh L.e
  u : Sh L.u
  p : Sh L.p
  s : Sh L.s
theorem sh_choice {L : Lv} (h : ShL L) : Sh (choice L) := fun s g => by
  unfold choice
  have h1 := sh_chain (sh_chain h.u binaries) logics s g
  have h2 := h1.then (sh_take [63])
  simp only []
  generalize take [63] (chain (chain L.u binaries) logics s).2 = P at *
  obtain ⟨b, s'⟩ := P
  simp only at h2
  cases b
  · exact h2
  · exact (((h2.then h.e).then (sh_want [58])).then h.e).then (sh_over _ _)
theorem sh_leaf (n : Nd) : Sh (leaf n) := fun s g => (sh_skip s g).then (sh_add _)
theorem sh_inParens {L : Lv} (h : ShL L) : Sh (inParens L) := fun s g => ((sh_want [40] s g).then h.e).then (sh_want [41])
theorem sh_statementsLoop {L : Lv} (h : ShL L) : ∀ (f : Nat) (l : List Nat), Sh (statementsLoop L f l)
  | 0, l, s, g => Le.refl g
  | f + 1, l, s, g => by
    unfold statementsLoop
    split
    · exact (h.s s g).then (sh_statementsLoop h f _)
    · exact Le.refl g
theorem sh_statements {L : Lv} (h : ShL L) : Sh (statements L) := fun s g => sh_statementsLoop h _ _ s g
theorem sh_body {L : Lv} (h : ShL L) : Sh (body L) := fun s g => ((sh_want [123] s g).then (sh_statements h)).then (sh_want [125])
theorem sh_endS : Sh endS := fun s g => by
  unfold endS
  have h := sh_take [59] s g
  generalize take [59] s = P at *
  obtain ⟨b, s'⟩ := P
  simp only at h
  cases b
  · simp only []
    split
    · exact h.then sh_fail
    · exact h
  · exact h
theorem sh_block {L : Lv} (h : ShL L) : Sh (block L) := fun s g => (sh_body h s g).then (sh_add _)
theorem sh_inner {L : Lv} (h : ShL L) : Sh (inner L) := fun s g => by
  unfold inner; split
  · exact sh_fail s g
  · exact h.s s g
theorem sh_jump (k : Nat) : Sh (jump k) := fun s g => ((sh_skip s g).then sh_endS).then (sh_add _)
theorem sh_exprS {L : Lv} (h : ShL L) : Sh (exprS L) := fun s g => ((h.e s g).then sh_endS).then (sh_over _ _)
theorem sh_whileS {L : Lv} (h : ShL L) : Sh (whileS L) := fun s g => (((sh_skip s g).then (sh_inParens h)).then (sh_inner h)).then (sh_add _)
theorem sh_returnS {L : Lv} (h : ShL L) : Sh (returnS L) := fun s g => by
  unfold returnS
  have h0 := sh_skip s g
  simp only []
  split
  · exact ((h0.then h.e).then sh_endS).then (sh_add _)
  · exact (h0.then sh_endS).then (sh_add _)
theorem sh_throwS {L : Lv} (h : ShL L) : Sh (throwS L) := fun s g => by
  unfold throwS
  have h0 := sh_skip s g
  simp only []
  split
  · exact h0.then sh_fail
  · exact ((h0.then h.e).then sh_endS).then (sh_add _)
theorem le_tryS {L : Lv} (h : ShL L) {s t : St} (r : Le t (skip s).2) : Le t (tryS L s).2 := by
  unfold tryS
  simp only []
  have r1 := r.then (sh_block h)
  have r2 := r1.then (sh_want [99, 97, 116, 99, 104])
  have r3 := r2.then (sh_want [40])
  have r4 := r3.then sh_name
  have r5 := r4.then (sh_want [41])
  have r6 := r5.then (sh_block h)
  exact r6.then (sh_add _)
theorem sh_tryS {L : Lv} (h : ShL L) : Sh (tryS L) := fun s g => le_tryS h (sh_skip s g)
theorem le_binding {L : Lv} (h : ShL L) (k : Nat) {s t : St} (r : Le t (skip s).2) : Le t (binding L k s).2 := by
  unfold binding
  simp only []
  have r1 := r.then sh_name
  have r2 := r1.then (sh_want [61])
  have r3 := r2.then h.e
  have r4 := r3.then sh_endS
  exact r4.then (sh_add _)
theorem sh_binding {L : Lv} (h : ShL L) (k : Nat) : Sh (binding L k) := fun s g => le_binding h k (sh_skip s g)
theorem sh_func {L : Lv} (h : ShL L) (b : Bool) : Sh (func L b) := fun s g => by
  unfold func
  simp only []
  have h0 := (sh_skip s g).then (sh_take [42])
  have h1 : Le s (if (b || decide ((nxt (take [42] (skip s).2).2).k = 3)) = true then name (take [42] (skip s).2).2 else ([], (take [42] (skip s).2).2)).2 := by
    split
    · exact h0.then sh_name
    · exact h0
  exact (((h1.then (sh_want [40])).then (sh_items sh_name [41])).then (sh_body h)).then (sh_add _)
theorem sh_definition {L : Lv} (h : ShL L) : Sh (definition L) := fun s g => by
  have r := sh_func h true s g
  unfold definition
  simp only []
  generalize func L true s = P at *
  exact r.then (sh_add _)
theorem sh_ifS {L : Lv} (h : ShL L) : Sh (ifS L) := fun s g => by
  unfold ifS
  simp only []
  have h2 := ((((sh_skip s g).then (sh_inParens h)).then (sh_inner h))).then (sh_take [101, 108, 115, 101])
  generalize take [101, 108, 115, 101] (inner L (inParens L (skip s).2).2).2 = P at *
  obtain ⟨b, s'⟩ := P
  simp only at h2
  cases b
  · exact h2.then (sh_add _)
  · exact (h2.then (sh_inner h)).then (sh_add _)
theorem sh_pair {L : Lv} (h : ShL L) : Sh (pair L) := fun s g => ((sh_textOf [3, 4, 2] s g).then (sh_want [58])).then h.e
theorem ite_Le {c : Prop} [Decidable c] {s : St} {a b : Nat × St} (ha : Le s a.2) (hb : Le s b.2) : Le s (if c then a else b).2 := by split <;> assumption
theorem sh_arr {L : Lv} (h : ShL L) (s : St) (g : Good s) : Le s (add { k := 9, a := (skip s).1.a, kids := (items [93] L.e (skip s).2).1 } (items [93] L.e (skip s).2).2).2 := ((sh_skip s g).then (sh_items h.e [93])).then (sh_add _)
theorem sh_obj {L : Lv} (h : ShL L) (s : St) (g : Good s) : Le s (add { k := 8, a := (skip s).1.a, names := (items [125] (pair L) (skip s).2).1.map (·.1), kids := (items [125] (pair L) (skip s).2).1.map (·.2) } (items [125] (pair L) (skip s).2).2).2 := ((sh_skip s g).then (sh_items (sh_pair h) [125])).then (sh_add _)
theorem sh_alone {L : Lv} (h : ShL L) : Sh (alone L) := fun s g => by
  unfold alone
  exact (ite_Le (sh_leaf _ s g) (ite_Le (sh_leaf _ s g) (ite_Le (sh_leaf _ s g) (ite_Le (sh_leaf _ s g) (ite_Le (sh_leaf _ s g) (ite_Le (sh_leaf _ s g) (ite_Le (sh_leaf _ s g) (ite_Le (sh_leaf _ s g) (ite_Le (sh_inParens h s g) (ite_Le (sh_arr h s g) (ite_Le (sh_obj h s g) (ite_Le (sh_func h false s g) (sh_fail s g)))))))))))))
theorem sh_primaryLoop {L : Lv} (h : ShL L) : ∀ (f p : Nat), Sh (primaryLoop L f p)
  | 0, p, s, g => Le.refl g
  | f + 1, p, s, g => by
    unfold primaryLoop
    have h1 := sh_take [46] s g
    generalize take [46] s = P at *
    obtain ⟨b, s1⟩ := P
    simp only at h1
    cases b
    · simp only []
      have h2 := h1.then (sh_take [91])
      generalize take [91] s1 = P at *
      obtain ⟨b, s2⟩ := P
      simp only at h2
      cases b
      · simp only []
        have h3 := h2.then (sh_take [40])
        generalize take [40] s2 = P at *
        obtain ⟨b, s3⟩ := P
        simp only at h3
        cases b
        · exact h3
        · exact ((h3.then (sh_items h.e [41])).then (sh_over _ _)).then (sh_primaryLoop h f _)
      · exact (((h2.then h.e).then (sh_want [93])).then (sh_over _ _)).then (sh_primaryLoop h f _)
    · exact ((h1.then (sh_textOf [3, 4])).then (sh_over _ _)).then (sh_primaryLoop h f _)
theorem sh_primary {L : Lv} (h : ShL L) : Sh (primary L) := fun s g => (sh_alone h s g).then (sh_primaryLoop h _ _)
theorem sh_anyUnary {L : Lv} (h : ShL L) : Sh (anyUnary L) := fun s g => by
  unfold anyUnary
  split
  · exact ((sh_skip s g).then h.u).then (sh_add _)
  · exact h.p s g
theorem sh_anyExpr {L : Lv} (h : ShL L) : Sh (anyExpr L) := fun s g => by
  unfold anyExpr
  have h1 := sh_take [121, 105, 101, 108, 100] s g
  generalize take [121, 105, 101, 108, 100] s = P at *
  obtain ⟨b, s1⟩ := P
  simp only at h1
  cases b
  · simp only []
    have h2 := h1.then (sh_choice h)
    split
    · have h3 := h2.then (sh_take [61])
      generalize take [61] (choice L s1).2 = P at *
      obtain ⟨b, s2⟩ := P
      simp only at h3
      cases b
      · exact h3
      · exact (h3.then h.e).then (sh_over _ _)
    · exact h2
  · exact (h1.then h.e).then (sh_add _)
theorem sh_anyStatement {L : Lv} (h : ShL L) : Sh (anyStatement L) := fun s g => by
  unfold anyStatement
  exact (ite_Le (sh_block h s g) (ite_Le (sh_ifS h s g) (ite_Le (sh_whileS h s g) (ite_Le (sh_jump 28 s g) (ite_Le (sh_jump 29 s g) (ite_Le (sh_returnS h s g) (ite_Le (sh_throwS h s g) (ite_Le (sh_tryS h s g) (ite_Le (sh_binding h 21 s g) (ite_Le (sh_binding h 22 s g) (ite_Le (sh_definition h s g) (sh_exprS h s g))))))))))))
theorem sh_lv : ∀ d, ShL (lv d)
  | 0 => ⟨sh_fail, sh_fail, sh_fail, sh_fail⟩
  | d + 1 => ⟨sh_anyExpr (sh_lv d), sh_anyUnary (sh_lv d), sh_primary (sh_lv d), sh_anyStatement (sh_lv d)⟩
end Go.Proofs.YtpjmapoiinjakaaGreatDoor.Ps.K
end
section
namespace Go.Proofs.YtpjmapoiinjakaaGreatDoor.Rp
open Lx
set_option linter.unusedVariables false
/-- Neither is wrong, and both stand alike. -/
def Sm (s : Ps.St) (r : Rt) : Prop := s.failed = false ∧ r.bad = false ∧ r.toks = s.toks ∧ r.nodes = s.nodes
/-- Both are wrong, and where. -/
def Fl (s : Ps.St) (r : Rt) : Prop := s.failed = true ∧ r.bad = true ∧ s.at_ = (nx r).a
/-- They stand beside one another. -/
def Cp (s : Ps.St) (r : Rt) : Prop := Ps.H2.Good s ∧ (Sm s r ∨ Fl s r)
theorem nx_eq {s : Ps.St} {r : Rt} (h : Sm s r) : nx r = Ps.nxt s := by unfold nx Ps.nxt; rw [h.2.2.1]
/-- What goes alike: a function of the one, one of the other. -/
structure Pair {α : Type} (f : Ps.M α) (g : Q α) : Prop where
  sh : Ps.H2.Sh f
  k : Ps.K.Sh f
  b : Sb g
  go : ∀ s r, Ps.H2.Good s → Sm s r → (Sm (f s).2 (g r).2 ∧ (f s).1 = (g r).1) ∨ Fl (f s).2 (g r).2
theorem Pair.c {α : Type} {f : Ps.M α} {g : Q α} (p : Pair f g) {s : Ps.St} {r : Rt} (h : Cp s r) : Cp (f s).2 (g r).2 := by
  refine ⟨(p.sh s h.1).good, ?_⟩
  rcases h.2 with h2 | ⟨h2, h3, h4⟩
  · rcases p.go s r h.1 h2 with h | h
    · exact .inl h.1
    · exact .inr h
  · have k1 := p.k s trivial h2
    have b1 := p.b r h3
    refine .inr ⟨k1.1, b1.1, ?_⟩
    rw [k1.2, h4]
    unfold nx; rw [b1.2]
/-- What is not wrong was not. -/
theorem Cp.back {s s' : Ps.St} {r r' : Rt} (h : Cp s r) (l : Ps.K.Le s s') (e : Sm s' r') : Sm s r := by
  rcases h.2 with h2 | h2
  · exact h2
  · have := (l h2.1).1; rw [e.1] at this; cases this
theorem Pair.v {α : Type} {f : Ps.M α} {g : Q α} (p : Pair f g) {s : Ps.St} {r : Rt} (h : Cp s r) (e : Sm (f s).2 (g r).2) : Sm s r ∧ (f s).1 = (g r).1 := by
  have h1 := h.back (p.k s trivial) e
  refine ⟨h1, ?_⟩
  rcases p.go s r h.1 h1 with h | h
  · exact h.2
  · have := h.1; rw [e.1] at this; cases this
theorem isS_iff {s : Ps.St} {r : Rt} (h : Sm s r) {m : List UInt8} (hm : m ≠ []) : isS m r = decide (Ps.mark s = m) := by
  unfold isS Ps.mark
  rw [nx_eq h]
  by_cases hk : (Ps.nxt s).k = 4 ∨ (Ps.nxt s).k = 5
  · rw [if_pos hk, decide_eq_true hk, Bool.true_and]
  · rw [if_neg hk, decide_eq_false hk, Bool.false_and]
    exact (decide_eq_false (fun e => hm e.symm)).symm
theorem sm_move {s : Ps.St} {r : Rt} (h : Sm s r) : Sm (Ps.skip s).2 (move r) := by
  unfold Ps.skip move
  rw [h.2.2.1]
  simp only []
  split
  · exact ⟨h.1, h.2.1, rfl, h.2.2.2⟩
  · exact h
theorem pair_take {m : List UInt8} (hm : m ≠ []) : Pair (Ps.take m) (has m) := ⟨Ps.H2.sh_take m, Ps.K.sh_take m, sb_has m, fun s r g h => by
  left
  unfold Ps.take has
  rw [h.2.1, isS_iff h hm, Bool.false_or]
  by_cases e : Ps.mark s = m
  · rw [if_pos e, decide_eq_true e]
    exact ⟨sm_move h, rfl⟩
  · rw [if_neg e, decide_eq_false e]
    exact ⟨h, rfl⟩⟩
theorem fl_fail {s : Ps.St} {r : Rt} (h : Sm s r) : Fl (Ps.fail s).2 (spoil r) := by
  unfold Ps.fail
  rw [if_neg (by rw [h.1]; simp)]
  exact ⟨rfl, rfl, by show (Ps.nxt s).a = _; unfold spoil; rw [← nx_eq h]; rfl⟩
theorem cp_fail {s : Ps.St} {r : Rt} (h : Cp s r) : Cp (Ps.fail s).2 (spoil r) := by
  refine ⟨(Ps.H2.sh_fail s h.1).good, .inr ?_⟩
  rcases h.2 with h2 | h2
  · exact fl_fail h2
  · have := Ps.K.sh_fail s trivial h2.1
    exact ⟨this.1, rfl, this.2.trans h2.2.2⟩
theorem pair_want {m : List UInt8} (hm : m ≠ []) : Pair (Ps.want m) (fun r => ((), must m r)) := ⟨Ps.H2.sh_want m, Ps.K.sh_want m, fun r => ba_must m r, fun s r g h => by
  have p := (pair_take hm).go s r g h
  unfold Ps.want must
  generalize Ps.take m s = A at *
  generalize has m r = B at *
  obtain ⟨a, s1⟩ := A
  obtain ⟨b, r1⟩ := B
  rcases p with ⟨p, e⟩ | p
  · simp only at e p
    subst e
    cases a
    · exact .inr (fl_fail p)
    · exact .inl ⟨p, rfl⟩
  · right
    simp only at p
    have h1 := Ps.K.sh_fail s1 trivial p.1
    cases a <;> cases b
    · exact ⟨h1.1, rfl, h1.2.trans p.2.2⟩
    · exact ⟨h1.1, p.2.1, h1.2.trans p.2.2⟩
    · exact ⟨p.1, rfl, p.2.2⟩
    · exact p⟩
theorem pair_name : Pair Ps.name rname := ⟨Ps.H2.sh_name, Ps.K.sh_name, sb_rname, fun s r g h => by
  unfold Ps.name Ps.textOf rname
  rw [h.2.1, nx_eq h, Bool.false_or]
  by_cases e : (Ps.nxt s).k = 3
  · rw [if_pos (by rw [e]; simp), if_neg (by simp [e])]
    exact .inl ⟨sm_move h, rfl⟩
  · rw [if_neg (by simpa using e), if_pos (by simp [e])]
    exact .inr (fl_fail h)⟩
theorem pair_endS : Pair Ps.endS (fun r => ((), ende r)) := ⟨Ps.H2.sh_endS, Ps.K.sh_endS, fun r => ba_ende r, fun s r g h => by
  have p := (pair_take (m := [59]) (by simp)).go s r g h
  unfold Ps.endS ende
  generalize Ps.take [59] s = A at *
  generalize has [59] r = B at *
  obtain ⟨a, s1⟩ := A
  obtain ⟨b, r1⟩ := B
  rcases p with ⟨p, e⟩ | p
  · simp only at e p
    subst e
    cases a
    · simp only
      rw [if_neg (show ¬ r1.bad = true by rw [p.2.1]; simp), nx_eq p, isS_iff p (by simp)]
      have hc : (decide ((Ps.nxt s1).k ≠ 0) && !decide (Ps.mark s1 = [125]) && !(Ps.nxt s1).ln) = (!Ps.closes s1 && !(Ps.nxt s1).ln) := by
        unfold Ps.closes
        by_cases h0 : (Ps.nxt s1).k = 0 <;> by_cases h1 : Ps.mark s1 = [125] <;> simp [h0, h1]
      rw [hc]
      cases hq : (!Ps.closes s1 && !(Ps.nxt s1).ln)
      · exact .inl ⟨p, trivial⟩
      · exact .inr (fl_fail p)
    · exact .inl ⟨p, rfl⟩
  · right
    simp only at p
    have h1 := Ps.K.sh_fail s1 trivial p.1
    have hx : ∀ (c : Bool), Fl (if c = true then ((), (Ps.fail s1).2) else ((), s1)).2 r1 := fun c => by
      cases c
      · exact p
      · exact ⟨h1.1, p.2.1, h1.2.trans p.2.2⟩
    cases a <;> cases b
    · simp only; rw [if_pos p.2.1]; exact hx _
    · exact hx _
    · simp only; rw [if_pos p.2.1]; exact p
    · exact p⟩
/-- A node more, the same one. -/
theorem cp_add {n n' : Ps.Nd} {s : Ps.St} {r : Rt} (h : Cp s r) (e : Sm s r → n = n') : Cp (Ps.add n s).2 (put n' r).2 := by
  refine ⟨(Ps.H2.sh_add n s h.1).good, ?_⟩
  rcases h.2 with h2 | h2
  · have := e h2
    subst this
    exact .inl ⟨h2.1, h2.2.1, h2.2.2.1, by show r.nodes ++ [n] = s.nodes ++ [n]; rw [h2.2.2.2]⟩
  · exact .inr h2
theorem add_v {n n' : Ps.Nd} {s : Ps.St} {r : Rt} (h : Sm (Ps.add n s).2 (put n' r).2) (c : Cp s r) : (Ps.add n s).1 = (put n' r).1 := by
  have h2 := c.back (Ps.K.sh_add n s trivial) h
  show s.nodes.length = r.nodes.length
  rw [h2.2.2.2]
/-- Two that end in a node, the same one. -/
theorem out_add {n n' : Ps.Nd} {s : Ps.St} {r : Rt} (h : Cp s r) (e : Sm s r → n = n') : (Sm (Ps.add n s).2 (put n' r).2 ∧ (Ps.add n s).1 = (put n' r).1) ∨ Fl (Ps.add n s).2 (put n' r).2 := by
  rcases (cp_add h e).2 with h1 | h1
  · exact .inl ⟨h1, add_v h1 h⟩
  · exact .inr h1
/-- What is to be shown of a level. -/
structure PL (L : Ps.Lv) (M : Lr) : Prop where
  e : Pair L.e M.e
  u : Pair L.u M.u
  p : Pair L.p M.p
  s : Pair L.s M.s
end Go.Proofs.YtpjmapoiinjakaaGreatDoor.Rp
end
section
namespace Go.Proofs.YtpjmapoiinjakaaGreatDoor.Ps
open Lx
set_option linter.unusedVariables false
/-- No part begins with the next token. -/
def Blk (s : St) : Prop := s.failed = false ∧ ((nxt s).k = 0 ∨ mark s = [125])
/-- It failed there. -/
def Dead (s t : St) : Prop := t.failed = true ∧ t.at_ = (nxt s).a
theorem Dead.go {s t t' : St} (h : Dead s t) (k : K.Le t t') : Dead s t' := ⟨(k h.1).1, (k h.1).2.trans h.2⟩
def Im (f : M Nat) : Prop := ∀ s, Blk s → Dead s (f s).2
theorem im_fail : Im fail := fun s h => by
  unfold fail
  rw [if_neg (by rw [h.1]; simp)]
  exact ⟨rfl, rfl⟩
theorem Blk.mark {s : St} (h : Blk s) : Ps.mark s = [] ∨ Ps.mark s = [125] := by
  rcases h.2 with h | h
  · left; unfold Ps.mark; rw [if_neg (by omega)]
  · exact .inr h
theorem Blk.kind {s : St} (h : Blk s) : (nxt s).k = 0 ∨ (nxt s).k = 4 ∨ (nxt s).k = 5 := by
  rcases h.2 with h | h
  · exact .inl h
  · right
    unfold Ps.mark at h
    split at h
    · assumption
    · cases h
theorem Blk.take {s : St} (h : Blk s) {m : List UInt8} (h1 : m ≠ []) (h2 : m ≠ [125]) : Ps.take m s = (false, s) := by
  unfold Ps.take
  rw [if_neg]
  intro e
  rcases h.mark with h | h
  · exact h1 (e.symm.trans h)
  · exact h2 (e.symm.trans h)
theorem im_chain {part : M Nat} (hi : Im part) (hk : K.Sh part) : ∀ (row : List (List UInt8 → Option Nd)), Im (chain part row)
  | [], s, h => hi s h
  | lv :: row, s, h => (im_chain hi hk row s h).go (K.sh_chainLoop (K.sh_chain hk row) _ _ _ trivial)
structure ImL (L : Lv) : Prop where
  e : Im L.e
  u : Im L.u
  p : Im L.p
  s : Im L.s
theorem im_alone (L : Lv) : Im (alone L) := fun s h => by
  have hk := h.kind
  have hm := h.mark
  have e : alone L s = fail s := by
    unfold alone
    simp only []
    rw [if_neg (by omega), if_neg (by omega), if_neg (by omega)]
    rcases hm with hm | hm <;> rw [hm] <;> simp
  rw [e]
  exact im_fail s h
theorem im_primary {L : Lv} (hk : K.ShL L) : Im (primary L) := fun s h => (im_alone L s h).go (K.sh_primaryLoop hk _ _ _ trivial)
theorem im_anyUnary {L : Lv} (hi : ImL L) : Im (anyUnary L) := fun s h => by
  unfold anyUnary
  rw [if_neg (by rcases h.mark with hm | hm <;> rw [hm] <;> simp)]
  exact hi.p s h
theorem im_choice {L : Lv} (hi : ImL L) (hk : K.ShL L) : Im (choice L) := fun s h => by
  have h1 := im_chain (im_chain hi.u hk.u binaries) (K.sh_chain hk.u binaries) logics s h
  have h2 := h1.go (K.sh_take [63] _ trivial)
  unfold choice
  simp only []
  generalize take [63] (chain (chain L.u binaries) logics s).2 = P at *
  obtain ⟨b, s1⟩ := P
  simp only at h2
  cases b
  · exact h2
  · have h3 := h2.go (hk.e s1 trivial)
    have h4 := h3.go (K.sh_want [58] _ trivial)
    have h5 := h4.go (hk.e _ trivial)
    exact h5.go (K.sh_over _ _ _ trivial)
theorem im_anyExpr {L : Lv} (hi : ImL L) (hk : K.ShL L) : Im (anyExpr L) := fun s h => by
  have h1 := im_choice hi hk s h
  unfold anyExpr
  rw [h.take (by simp) (by simp)]
  simp only
  generalize choice L s = P at *
  obtain ⟨x, s1⟩ := P
  simp only at h1 ⊢
  split
  · have h2 := h1.go (K.sh_take [61] _ trivial)
    generalize take [61] s1 = P at *
    obtain ⟨b, s2⟩ := P
    simp only at h2
    cases b
    · exact h2
    · exact (h2.go (hk.e _ trivial)).go (K.sh_over _ _ _ trivial)
  · exact h1
theorem im_exprS {L : Lv} (hi : ImL L) (hk : K.ShL L) : Im (exprS L) := fun s h => ((hi.e s h).go (K.sh_endS _ trivial)).go (K.sh_over _ _ _ trivial)
theorem im_anyStatement {L : Lv} (hi : ImL L) (hk : K.ShL L) : Im (anyStatement L) := fun s h => by
  have hm := h.mark
  have hb : ¬ Ps.mark s = [123] := by rcases hm with hm | hm <;> rw [hm] <;> simp
  have e : anyStatement L s = exprS L s := by
    unfold anyStatement
    simp only []
    rw [if_neg hb]
    rcases hm with hm | hm <;> rw [hm] <;> simp
  rw [e]
  exact im_exprS hi hk s h
theorem im_lv : ∀ d, ImL (lv d)
  | 0 => ⟨im_fail, im_fail, im_fail, im_fail⟩
  | d + 1 => ⟨im_anyExpr (im_lv d) (K.sh_lv d), im_anyUnary (im_lv d), im_primary (K.sh_lv d), im_anyStatement (im_lv d) (K.sh_lv d)⟩
end Go.Proofs.YtpjmapoiinjakaaGreatDoor.Ps
end
section
namespace Go.Proofs.YtpjmapoiinjakaaGreatDoor.Rp
open Lx
set_option linter.unusedVariables false
theorem Fl.want {s : Ps.St} {r : Rt} (h : Fl s r) (m : List UInt8) : Fl (Ps.want m s).2 (must m r) := by
  have h1 := Ps.K.sh_want m s trivial h.1
  have h2 := ba_must m r h.2.1
  refine ⟨h1.1, h2.1, ?_⟩
  rw [h1.2, h.2.2]; unfold nx; rw [h2.2]
theorem Fl.on {α : Type} {f : Ps.M α} {g : Q α} {s : Ps.St} {r : Rt} (h : Fl s r) (k : Ps.K.Sh f) (b : Sb g) : Fl (f s).2 (g r).2 := by
  have h1 := k s trivial h.1
  have h2 := b r h.2.1
  refine ⟨h1.1, h2.1, ?_⟩
  rw [h1.2, h.2.2]; unfold nx; rw [h2.2]
/-- Where no part begins the reference is wrong there, too. -/
theorem dead_s {L : Ps.Lv} {M : Lr} (p : PL L M) (hi : Ps.ImL L) {s : Ps.St} {r : Rt} (g : Ps.H2.Good s) (h : Sm s r) (hb : Ps.Blk s) : (M.s r).2.bad = true ∧ (nx (M.s r).2).a = (Ps.nxt s).a := by
  have hd := hi.s s hb
  rcases p.s.go s r g h with h1 | h1
  · have := h1.1.1; rw [hd.1] at this; cases this
  · exact ⟨h1.2.1, h1.2.2.symm.trans hd.2⟩
theorem list_body {L : Ps.Lv} {M : Lr} (p : PL L M) (hi : Ps.ImL L) (hs : Ps.H2.ShL L) (hk : Ps.K.ShL L) : ∀ (f : Nat) (l : List Nat) (s : Ps.St) (r : Rt), Ps.H2.Good s → Sm s r → s.toks.length + 1 ≤ f →
    (Sm (Ps.want [125] (Ps.statementsLoop L f l s).2).2 (must [125] (listLoop M false f l r).2) ∧ (Ps.statementsLoop L f l s).1 = (listLoop M false f l r).1) ∨ Fl (Ps.want [125] (Ps.statementsLoop L f l s).2).2 (must [125] (listLoop M false f l r).2)
  | 0, l, s, r, g, h, hf => by omega
  | f + 1, l, s, r, g, h, hf => by
    have hw : (Sm (Ps.want [125] s).2 (must [125] r) ∧ l = l) ∨ Fl (Ps.want [125] s).2 (must [125] r) := by
      rcases (pair_want (m := [125]) (by simp)).go s r g h with h1 | h1
      · exact .inl ⟨h1.1, rfl⟩
      · exact .inr h1
    unfold Ps.statementsLoop listLoop
    rw [if_neg (show ¬ r.bad = true by rw [h.2.1]; simp), isS_iff h (by simp), h.1]
    simp only [Bool.false_and, Bool.not_false, Bool.true_and, Bool.false_or]
    by_cases hm : Ps.mark s = [125]
    · have hc : Ps.closes s = true := by unfold Ps.closes; rw [decide_eq_true hm]; rfl
      rw [hc, decide_eq_true hm]
      simpa using hw
    · rw [decide_eq_false hm]
      by_cases h0 : (Ps.nxt s).k = 0
      · have hc : Ps.closes s = true := by unfold Ps.closes; rw [decide_eq_true h0]; simp
        rw [hc]
        simp only [Bool.not_true, Bool.false_eq_true, if_false]
        obtain ⟨d1, d2⟩ := dead_s p hi g h ⟨h.1, .inl h0⟩
        right
        have b1 := sb_listLoop M false f (l ++ [(M.s r).1]) (M.s r).2 d1
        have b2 := ba_must [125] (listLoop M false f (l ++ [(M.s r).1]) (M.s r).2).2 b1.1
        have e : Ps.want [125] s = ((), (Ps.fail s).2) := by
          unfold Ps.want
          rw [show Ps.take [125] s = (false, s) by unfold Ps.take; rw [if_neg hm]]
        rw [e]
        have hfl := fl_fail h
        refine ⟨hfl.1, b2.1, ?_⟩
        rw [hfl.2.2]
        unfold nx at d2 ⊢
        rw [b2.2, b1.2, d2]
        unfold spoil
        rw [h.2.2.1]; rfl
      · have hc : Ps.closes s = false := by unfold Ps.closes; rw [decide_eq_false h0, decide_eq_false hm]; rfl
        rw [hc]
        simp only [Bool.not_false, if_true, Bool.false_eq_true, if_false]
        have hg := hs.gs s g
        have hl := hs.s s g
        rcases p.s.go s r g h with h1 | h1
        · rw [h1.2]
          refine list_body p hi hs hk f _ _ _ hl.good h1.1 ?_
          rcases hg with h2 | h2
          · rw [h1.1.1] at h2; cases h2
          · omega
        · exact .inr ((h1.on (Ps.K.sh_statementsLoop hk f _) (sb_listLoop M false f _)).want [125])
theorem pair_body {L : Ps.Lv} {M : Lr} (p : PL L M) (hi : Ps.ImL L) (hs : Ps.H2.ShL L) (hk : Ps.K.ShL L) : Pair (Ps.body L) (body M) := ⟨Ps.H2.sh_body hs, Ps.K.sh_body hk, sb_body M, fun s r g h => by
  have w := (pair_want (m := [123]) (by simp)).go s r g h
  have gw := (Ps.H2.sh_want [123] s g).good
  unfold Ps.body body Ps.statements list
  simp only []
  rcases w with w | w
  · have := list_body p hi hs hk ((Ps.want [123] s).2.toks.length + 1) [] (Ps.want [123] s).2 (must [123] r) gw w.1 (Nat.le_refl _)
    rw [show (must [123] r).toks = (Ps.want [123] s).2.toks from w.1.2.2.1]
    exact this
  · right
    have k1 := Ps.K.sh_statementsLoop hk ((Ps.want [123] s).2.toks.length + 1) [] (Ps.want [123] s).2 trivial w.1
    have b1 := sb_listLoop M false ((must [123] r).toks.length + 1) [] (must [123] r) w.2.1
    have : Fl (Ps.statementsLoop L ((Ps.want [123] s).2.toks.length + 1) [] (Ps.want [123] s).2).2 (listLoop M false ((must [123] r).toks.length + 1) [] (must [123] r)).2 := ⟨k1.1, b1.1, by rw [k1.2, w.2.2]; unfold nx; rw [b1.2]⟩
    exact this.want [125]⟩
theorem pair_block {L : Ps.Lv} {M : Lr} (p : PL L M) (hi : Ps.ImL L) (hs : Ps.H2.ShL L) (hk : Ps.K.ShL L) : Pair (Ps.block L) (block M) := ⟨Ps.H2.sh_block hs, Ps.K.sh_block hk, sb_block M, fun s r g h => by
  have pb := pair_body p hi hs hk
  have c : Cp s r := ⟨g, .inl h⟩
  have c1 := pb.c c
  unfold Ps.block block
  simp only []
  refine out_add c1 fun e => ?_
  rw [(pb.v c e).2, nx_eq h]⟩
theorem pair_inner {L : Ps.Lv} {M : Lr} (p : PL L M) (hs : Ps.H2.ShL L) (hk : Ps.K.ShL L) : Pair (Ps.inner L) (inner M) := ⟨Ps.H2.sh_inner hs, Ps.K.sh_inner hk, sb_inner M, fun s r g h => by
  unfold Ps.inner inner
  rw [isS_iff h (by simp), isS_iff h (by simp), isS_iff h (by simp)]
  simp only []
  by_cases hc : Ps.mark s = [108, 101, 116] ∨ Ps.mark s = [99, 111, 110, 115, 116] ∨ Ps.mark s = [102, 117, 110, 99, 116, 105, 111, 110]
  · rw [if_pos hc, if_pos (show (decide (Ps.mark s = [108, 101, 116]) || decide (Ps.mark s = [99, 111, 110, 115, 116]) || decide (Ps.mark s = [102, 117, 110, 99, 116, 105, 111, 110])) = true by simpa [or_assoc] using hc), if_pos (show (spoil r).bad = true from rfl)]
    exact .inr (fl_fail h)
  · rw [if_neg hc, if_neg (show ¬ (decide (Ps.mark s = [108, 101, 116]) || decide (Ps.mark s = [99, 111, 110, 115, 116]) || decide (Ps.mark s = [102, 117, 110, 99, 116, 105, 111, 110])) = true by simpa [or_assoc] using hc), if_neg (show ¬ r.bad = true by rw [h.2.1]; simp)]
    exact p.s.go s r g h⟩
end Go.Proofs.YtpjmapoiinjakaaGreatDoor.Rp
end
section
namespace Go.Proofs.YtpjmapoiinjakaaGreatDoor.Rp
open Lx
set_option linter.unusedVariables false
/-- What came of the one, and of the other. -/
def Res {α : Type} (x : α × Ps.St) (y : α × Rt) : Prop := (Sm x.2 y.2 ∧ x.1 = y.1) ∨ Fl x.2 y.2
theorem cp_skip {s : Ps.St} {r : Rt} (g : Ps.H2.Good s) (h : Sm s r) : Cp (Ps.skip s).2 (move r) := ⟨(Ps.H2.sh_skip s g).good, .inl (sm_move h)⟩
/-- In parentheses. -/
def rpar (M : Lr) : Q Nat := fun r => let c := M.e (must [40] r); (c.1, must [41] c.2)
theorem cp_want {m : List UInt8} (hm : m ≠ []) {s : Ps.St} {r : Rt} (c : Cp s r) : Cp (Ps.want m s).2 (must m r) := (pair_want hm).c c
theorem v_want {m : List UInt8} (hm : m ≠ []) {s : Ps.St} {r : Rt} (c : Cp s r) (e : Sm (Ps.want m s).2 (must m r)) : Sm s r := ((pair_want hm).v c e).1
theorem cp_endS {s : Ps.St} {r : Rt} (c : Cp s r) : Cp (Ps.endS s).2 (ende r) := pair_endS.c c
theorem v_endS {s : Ps.St} {r : Rt} (c : Cp s r) (e : Sm (Ps.endS s).2 (ende r)) : Sm s r := (pair_endS.v c e).1
theorem cp_par {L : Ps.Lv} {M : Lr} (p : PL L M) {s : Ps.St} {r : Rt} (c : Cp s r) : Cp (Ps.inParens L s).2 (rpar M r).2 := cp_want (by simp) (p.e.c (cp_want (by simp) c))
theorem v_par {L : Ps.Lv} {M : Lr} (p : PL L M) {s : Ps.St} {r : Rt} (c : Cp s r) (e : Sm (Ps.inParens L s).2 (rpar M r).2) : Sm s r ∧ (Ps.inParens L s).1 = (rpar M r).1 := by
  have c1 := cp_want (m := [40]) (by simp) c
  have e1 := v_want (m := [41]) (by simp) (p.e.c c1) e
  have e2 := p.e.v c1 e1
  exact ⟨v_want (by simp) c e2.1, e2.2⟩
theorem go_jump (k : Nat) {s : Ps.St} {r : Rt} (g : Ps.H2.Good s) (h : Sm s r) : Res (Ps.jump k s) (put { k := k, a := (nx r).a } (ende (move r))) := by
  refine out_add (cp_endS (cp_skip g h)) fun e => ?_
  rw [nx_eq h]; rfl
theorem go_while {L : Ps.Lv} {M : Lr} (p : PL L M) (hs : Ps.H2.ShL L) (hk : Ps.K.ShL L) {s : Ps.St} {r : Rt} (g : Ps.H2.Good s) (h : Sm s r) :
    Res (Ps.whileS L s) (let c := rpar M (move r); let y := inner M c.2; put { k := 27, kids := [c.1, y.1], a := (nx r).a } y.2) := by
  have c1 := cp_par p (cp_skip g h)
  have c2 := (pair_inner p hs hk).c c1
  refine out_add c2 fun e => ?_
  have e2 := (pair_inner p hs hk).v c1 e
  have e1 := v_par p (cp_skip g h) e2.1
  rw [nx_eq h, e1.2, e2.2]; rfl
theorem go_if {L : Ps.Lv} {M : Lr} (p : PL L M) (hs : Ps.H2.ShL L) (hk : Ps.K.ShL L) {s : Ps.St} {r : Rt} (g : Ps.H2.Good s) (h : Sm s r) :
    Res (Ps.ifS L s) (let c := rpar M (move r); let y := inner M c.2
      match has [101, 108, 115, 101] y.2 with
      | (true, q) => let z := inner M q; put { k := 26, kids := [c.1, y.1, z.1], a := (nx r).a } z.2
      | (false, q) => put { k := 26, kids := [c.1, y.1], a := (nx r).a } q) := by
  have c1 := cp_par p (cp_skip g h)
  have c2 := (pair_inner p hs hk).c c1
  have pt := pair_take (m := [101, 108, 115, 101]) (by simp)
  have c3 := pt.c c2
  have v3 := fun e => pt.v c2 e
  have v2 := fun e => (pair_inner p hs hk).v c1 e
  have v1 := fun e => v_par p (cp_skip g h) e
  unfold Ps.ifS
  simp only []
  rcases c3.2 with h3 | h3
  · have w3 := v3 h3
    have w2 := v2 w3.1
    have w1 := v1 w2.1
    generalize Ps.take [101, 108, 115, 101] (Ps.inner L (Ps.inParens L (Ps.skip s).2).2).2 = A at *
    generalize has [101, 108, 115, 101] (inner M (rpar M (move r)).2).2 = B at *
    obtain ⟨a, s3⟩ := A
    obtain ⟨b, r3⟩ := B
    have := w3.2
    simp only at this
    subst this
    cases a
    · refine out_add c3 fun e => ?_
      rw [nx_eq h, w1.2, w2.2]; rfl
    · refine out_add ((pair_inner p hs hk).c c3) fun e => ?_
      rw [nx_eq h, w1.2, w2.2, ((pair_inner p hs hk).v c3 e).2]; rfl
  · right
    generalize Ps.take [101, 108, 115, 101] (Ps.inner L (Ps.inParens L (Ps.skip s).2).2).2 = A at *
    generalize has [101, 108, 115, 101] (inner M (rpar M (move r)).2).2 = B at *
    obtain ⟨a, s3⟩ := A
    obtain ⟨b, r3⟩ := B
    simp only at h3 c3
    have hp : ∀ {s' : Ps.St} {r' : Rt} (n n' : Ps.Nd), Fl s' r' → Fl (Ps.add n s').2 (put n' r').2 := fun n n' h => h
    have k1 := Ps.K.sh_inner hk s3 trivial h3.1
    have b1 := sb_inner M r3 h3.2.1
    cases a <;> cases b <;> apply hp
    · exact h3
    · exact ⟨h3.1, b1.1, by rw [h3.2.2]; unfold nx; rw [b1.2]⟩
    · exact ⟨k1.1, h3.2.1, k1.2.trans h3.2.2⟩
    · exact h3.on (Ps.K.sh_inner hk) (sb_inner M)
theorem go_return {L : Ps.Lv} {M : Lr} (p : PL L M) {s : Ps.St} {r : Rt} (g : Ps.H2.Good s) (h : Sm s r) :
    Res (Ps.returnS L s) (if !(nx (move r)).ln && decide ((nx (move r)).k ≠ 0) && !isS [59] (move r) && !isS [125] (move r) then let c := M.e (move r); put { k := 30, kids := [c.1], a := (nx r).a } (ende c.2)
    else put { k := 30, a := (nx r).a } (ende (move r))) := by
  have c0 := cp_skip g h
  have h0 := sm_move h
  unfold Ps.returnS
  simp only []
  have hc : (!(nx (move r)).ln && decide ((nx (move r)).k ≠ 0) && !isS [59] (move r) && !isS [125] (move r)) = (!(Ps.nxt (Ps.skip s).2).ln && !decide (Ps.mark (Ps.skip s).2 = [59]) && !Ps.closes (Ps.skip s).2) := by
    rw [isS_iff h0 (by simp), isS_iff h0 (by simp), nx_eq h0]
    unfold Ps.closes
    by_cases h1 : (Ps.nxt (Ps.skip s).2).k = 0 <;> by_cases h2 : Ps.mark (Ps.skip s).2 = [125] <;> by_cases h3 : Ps.mark (Ps.skip s).2 = [59] <;> simp [h1, h2, h3]
  rw [hc]
  cases !(Ps.nxt (Ps.skip s).2).ln && !decide (Ps.mark (Ps.skip s).2 = [59]) && !Ps.closes (Ps.skip s).2
  · refine out_add (cp_endS c0) fun e => ?_
    rw [nx_eq h]; rfl
  · refine out_add (cp_endS (p.e.c c0)) fun e => ?_
    rw [nx_eq h, (p.e.v c0 (v_endS (p.e.c c0) e)).2]; rfl
theorem go_throw {L : Ps.Lv} {M : Lr} (p : PL L M) {s : Ps.St} {r : Rt} (g : Ps.H2.Good s) (h : Sm s r) :
    Res (Ps.throwS L s) (let q := if (nx (move r)).ln then spoil (move r) else move r; let c := M.e q; put { k := 31, kids := [c.1], a := (nx r).a } (ende c.2)) := by
  have c0 := cp_skip g h
  have h0 := sm_move h
  unfold Ps.throwS
  simp only []
  rw [nx_eq h0]
  cases (Ps.nxt (Ps.skip s).2).ln
  · refine out_add (cp_endS (p.e.c c0)) fun e => ?_
    rw [nx_eq h, (p.e.v c0 (v_endS (p.e.c c0) e)).2]; rfl
  · right
    have f := fl_fail h0
    have b1 := p.e.b (spoil (move r)) rfl
    have b2 := ba_ende (M.e (spoil (move r))).2 b1.1
    exact ⟨f.1, b2.1, by
      show (Ps.fail (Ps.skip s).2).2.at_ = (nx (ende (M.e (spoil (move r))).2)).a
      rw [f.2.2]; unfold nx; rw [b2.2, b1.2]⟩
theorem go_binding {L : Ps.Lv} {M : Lr} (p : PL L M) (k : Nat) {s : Ps.St} {r : Rt} (g : Ps.H2.Good s) (h : Sm s r) :
    Res (Ps.binding L k s) (let n := rname (move r); let c := M.e (must [61] n.2); put { k := k, t := n.1, kids := [c.1], a := (nx r).a } (ende c.2)) := by
  have c0 := cp_skip g h
  have c1 := pair_name.c c0
  have c2 := cp_want (m := [61]) (by simp) c1
  have c3 := p.e.c c2
  refine out_add (cp_endS c3) fun e => ?_
  have e3 := p.e.v c2 (v_endS c3 e)
  have e1 := pair_name.v c0 (v_want (by simp) c1 e3.1)
  rw [nx_eq h, e3.2, e1.2]; rfl
theorem go_try {L : Ps.Lv} {M : Lr} (p : PL L M) (hi : Ps.ImL L) (hs : Ps.H2.ShL L) (hk : Ps.K.ShL L) {s : Ps.St} {r : Rt} (g : Ps.H2.Good s) (h : Sm s r) :
    Res (Ps.tryS L s) (let f := block M (move r); let n := rname (must [40] (must [99, 97, 116, 99, 104] f.2)); let q := block M (must [41] n.2); put { k := 32, t := n.1, kids := [f.1, q.1], a := (nx r).a } q.2) := by
  have pb := pair_block p hi hs hk
  have c0 := cp_skip g h
  have c1 := pb.c c0
  have c2 := cp_want (m := [99, 97, 116, 99, 104]) (by simp) c1
  have c3 := cp_want (m := [40]) (by simp) c2
  have c4 := pair_name.c c3
  have c5 := cp_want (m := [41]) (by simp) c4
  refine out_add (pb.c c5) fun e => ?_
  have e5 := pb.v c5 e
  have e4 := pair_name.v c3 (v_want (by simp) c4 e5.1)
  have e1 := pb.v c0 (v_want (by simp) c1 (v_want (by simp) c2 e4.1))
  rw [nx_eq h, e1.2, e4.2, e5.2]; rfl
theorem go_expr {L : Ps.Lv} {M : Lr} (p : PL L M) {s : Ps.St} {r : Rt} (g : Ps.H2.Good s) (h : Sm s r) :
    Res (Ps.exprS L s) (let k := M.e r; let q := ende k.2; if q.bad then (0, q) else put { k := 24, kids := [k.1], a := (q.nodes.getD k.1 {}).a } q) := by
  have c0 : Cp s r := ⟨g, .inl h⟩
  have c1 := cp_endS (p.e.c c0)
  unfold Ps.exprS Ps.over
  simp only []
  rcases c1.2 with h1 | h1
  · have e1 := p.e.v c0 (v_endS (p.e.c c0) h1)
    rw [if_neg (show ¬ (ende (M.e r).2).bad = true by rw [h1.2.1]; simp)]
    refine out_add c1 fun e => ?_
    rw [e1.2, h1.2.2.2]; rfl
  · rw [if_pos h1.2.1]
    exact .inr h1
end Go.Proofs.YtpjmapoiinjakaaGreatDoor.Rp
end
section
namespace Go.Proofs.YtpjmapoiinjakaaGreatDoor.Rp
open Lx
set_option linter.unusedVariables false
theorem step_has {m : List UInt8} (hm : m ≠ []) {s : Ps.St} {r : Rt} (h : Sm s r) : ∃ b s1 r1, Ps.take m s = (b, s1) ∧ has m r = (b, r1) ∧ Sm s1 r1 ∧ (Ps.H2.Good s → Ps.H2.Good s1) := by
  refine ⟨(Ps.take m s).1, (Ps.take m s).2, (has m r).2, rfl, ?_⟩
  unfold Ps.take has
  rw [h.2.1, isS_iff h hm, Bool.false_or]
  by_cases e : Ps.mark s = m
  · rw [if_pos e, decide_eq_true e]
    exact ⟨rfl, sm_move h, fun g => (Ps.H2.sh_skip s g).good⟩
  · rw [if_neg e, decide_eq_false e]
    exact ⟨rfl, h, id⟩
/-- Items of the reference's. -/
structure Loop {α : Type} (it : Q α) (g : Nat → List α → Q (List α)) : Prop where
  z : ∀ l r, g 0 l r = (l, r)
  s : ∀ f l r, g (f + 1) l r = match has [44] r with | (false, r) => (l, r) | (true, r) => g f (l ++ [(it r).1]) (it r).2
theorem Loop.sb {α : Type} {it : Q α} {g : Nat → List α → Q (List α)} (h : Loop it g) : ∀ (f : Nat) (l : List α), Sb (g f l)
  | 0, l => fun r hb => by rw [h.z]; exact ⟨hb, rfl⟩
  | f + 1, l => fun r hb => by rw [h.s, has_bad hb]; exact ⟨hb, rfl⟩
theorem go_loop {α : Type} {item : Ps.M α} {it : Q α} (p : Pair item it) {q : Nat → List α → Q (List α)} (hq : Loop it q) : ∀ (f : Nat) (l : List α) (s : Ps.St) (r : Rt), Ps.H2.Good s → Sm s r → Res (Ps.itemsLoop item f l s) (q f l r)
  | 0, l, s, r, g, h => by rw [hq.z]; exact .inl ⟨h, rfl⟩
  | f + 1, l, s, r, g, h => by
    obtain ⟨b, s1, r1, e1, e2, h1, g1⟩ := step_has (m := [44]) (by simp) h
    rw [hq.s, e2]
    unfold Ps.itemsLoop
    rw [e1]
    cases b
    · exact .inl ⟨h1, rfl⟩
    · simp only
      rcases p.go s1 r1 (g1 g) h1 with h2 | h2
      · rw [h2.2]
        exact go_loop p hq f _ _ _ (p.sh s1 (g1 g)).good h2.1
      · exact .inr (h2.on (Ps.K.sh_itemsLoop p.k f _) (hq.sb f _))
/-- The items after the first test. -/
theorem go_rest {α : Type} {item : Ps.M α} {it : Q α} (p : Pair item it) {q : Nat → List α → Q (List α)} (hq : Loop it q) {m : List UInt8} (hm : m ≠ []) {s : Ps.St} {r : Rt} (g : Ps.H2.Good s) (h : Sm s r) :
    Res ((Ps.itemsLoop item (item s).2.toks.length [(item s).1] (item s).2).1, (Ps.want m (Ps.itemsLoop item (item s).2.toks.length [(item s).1] (item s).2).2).2)
      ((q (it r).2.toks.length [(it r).1] (it r).2).1, must m (q (it r).2.toks.length [(it r).1] (it r).2).2) := by
  rcases p.go s r g h with h2 | h2
  · rw [h2.2, h2.1.2.2.1]
    have g2 := (p.sh s g).good
    have c2 : Cp (item s).2 (it r).2 := ⟨g2, .inl h2.1⟩
    rcases go_loop p hq (item s).2.toks.length [(it r).1] _ _ g2 h2.1 with h3 | h3
    · rcases (pair_want hm).go _ _ (Ps.H2.sh_itemsLoop p.sh _ _ _ g2).good h3.1 with h4 | h4
      · exact .inl ⟨h4.1, h3.2⟩
      · exact .inr h4
    · exact .inr (h3.want m)
  · exact .inr ((h2.on (Ps.K.sh_itemsLoop p.k _ _) (hq.sb _ _)).want m)
theorem loop_names : Loop rname namesLoop := ⟨fun _ _ => rfl, fun f l r => rfl⟩
theorem loop_commas (M : Lr) : Loop M.e (commasLoop M) := ⟨fun _ _ => rfl, fun f l r => rfl⟩
theorem pair_commas {L : Ps.Lv} {M : Lr} (p : PL L M) (hb : SbL M) {m : List UInt8} (hm : m ≠ []) : Pair (Ps.items m L.e) (commas M m) := ⟨Ps.H2.sh_items p.e.sh m, Ps.K.sh_items p.e.k m, sb_commas hb m, fun s r g h => by
  obtain ⟨b, s1, r1, e1, e2, h1, g1⟩ := step_has hm h
  unfold Ps.items commas
  rw [e1, e2]
  cases b
  · exact go_rest p.e (loop_commas M) hm (g1 g) h1
  · exact .inl ⟨h1, rfl⟩⟩
/-- The names of a function, and what ends them. -/
def rps : Q (List (List UInt8)) := fun r =>
  let ps := if isS [41] r then ([], r) else let x := rname r; namesLoop x.2.toks.length [x.1] x.2
  (ps.1, must [41] ps.2)
theorem sb_rps : Sb rps := fun r => by
  unfold rps
  simp only []
  split
  · exact ba_must [41] r
  · exact (((Ba.refl r).then sb_rname).then (sb_namesLoop _ _)).must [41]
theorem must_of {m : List UInt8} {r : Rt} (hb : r.bad = false) (h : isS m r = true) : must m r = move r := by
  unfold must has
  rw [hb, h]; rfl
theorem pair_rps : Pair (Ps.items [41] Ps.name) rps := ⟨Ps.H2.sh_items Ps.H2.sh_name [41], Ps.K.sh_items Ps.K.sh_name [41], sb_rps, fun s r g h => by
  unfold Ps.items rps Ps.take
  by_cases e : Ps.mark s = [41]
  · rw [if_pos e]
    have hi : isS [41] r = true := by rw [isS_iff h (by simp)]; exact decide_eq_true e
    simp only []
    rw [if_pos hi]
    left
    show Sm _ (must [41] r) ∧ _
    rw [must_of h.2.1 hi]
    exact ⟨sm_move h, rfl⟩
  · rw [if_neg e]
    have hi : ¬ isS [41] r = true := by rw [isS_iff h (by simp), decide_eq_false e]; simp
    simp only []
    rw [if_neg hi]
    exact go_rest pair_name loop_names (by simp) g h⟩
theorem pair_opt (named : Bool) : Pair (fun s => if named || decide ((Ps.nxt s).k = 3) then Ps.name s else ([], s)) (fun r => if named || decide ((nx r).k = 3) then rname r else ([], r)) :=
  ⟨fun s g => by
    split
    · exact Ps.H2.sh_name s g
    · exact Ps.H2.Le.refl g, fun s g => by
    split
    · exact Ps.K.sh_name s g
    · exact Ps.K.Le.refl g, fun r => by
    split
    · exact sb_rname r
    · exact Ba.refl r, fun s r g h => by
    rw [nx_eq h]
    split
    · exact pair_name.go s r g h
    · exact .inl ⟨h, rfl⟩⟩
theorem go_func {L : Ps.Lv} {M : Lr} (p : PL L M) (hi : Ps.ImL L) (hs : Ps.H2.ShL L) (hk : Ps.K.ShL L) (named : Bool) {s : Ps.St} {r : Rt} (g : Ps.H2.Good s) (h : Sm s r) (hm : Ps.mark s = [102, 117, 110, 99, 116, 105, 111, 110]) : Res (Ps.func L named s) (func M named r) := by
  have e0 : must [102, 117, 110, 99, 116, 105, 111, 110] r = move r := must_of h.2.1 (by rw [isS_iff h (by simp)]; exact decide_eq_true hm)
  have pb := pair_body p hi hs hk
  have pt := pair_take (m := [42]) (by simp)
  have c0 := cp_skip g h
  have c1 := pt.c c0
  have c2 := (pair_opt named).c c1
  have c3 := cp_want (m := [40]) (by simp) c2
  have c4 := pair_rps.c c3
  have c5 := pb.c c4
  unfold Ps.func func
  dsimp only
  rw [e0]
  refine out_add c5 fun e => ?_
  have e5 := pb.v c4 e
  have e4 := pair_rps.v c3 e5.1
  have e2 := (pair_opt named).v c1 (v_want (m := [40]) (by simp) c2 e4.1)
  have e1 := pt.v c0 e2.1
  have q5 := e5.2
  have q4 := e4.2
  have q2 := e2.2
  have q1 := e1.2
  rw [nx_eq h]
  rw [q1, q2]
  rw [show (Ps.items [41] Ps.name (Ps.want [40] (if (named || decide ((Ps.nxt (Ps.take [42] (Ps.skip s).2).2).k = 3)) = true then Ps.name (Ps.take [42] (Ps.skip s).2).2 else ([], (Ps.take [42] (Ps.skip s).2).2)).2).2).1 = _ from q4]
  rw [q5]
  rfl
end Go.Proofs.YtpjmapoiinjakaaGreatDoor.Rp
end
section
namespace Go.Proofs.YtpjmapoiinjakaaGreatDoor.Rp
open Lx
set_option linter.unusedVariables false
theorem pair_deeper {f : Ps.M Nat} {q : Q Nat} (sh : Ps.H2.Sh f) (k : Ps.K.Sh f) (h : ∀ s r, Ps.H2.Good s → Sm s r → Res (f s) (q r)) : Pair f (deeper q) := ⟨sh, k, sb_deeper q, fun s r g e => by
  unfold deeper
  rw [if_neg (show ¬ r.bad = true by rw [e.2.1]; simp)]
  exact h s r g e⟩
theorem hasnt {m : List UInt8} (hm : m ≠ []) {s : Ps.St} {r : Rt} (h : Sm s r) (e : ¬ Ps.mark s = m) : has m r = (false, r) := by
  unfold has
  rw [h.2.1, isS_iff h hm, decide_eq_false e]; rfl
theorem has_yes {m : List UInt8} (hm : m ≠ []) {s : Ps.St} {r : Rt} (h : Sm s r) (e : Ps.mark s = m) : has m r = (true, move r) := by
  unfold has
  rw [h.2.1, isS_iff h hm, decide_eq_true e]; rfl
theorem isS_no {m : List UInt8} (hm : m ≠ []) {s : Ps.St} {r : Rt} (h : Sm s r) (e : ¬ Ps.mark s = m) : isS m r = false := by rw [isS_iff h hm, decide_eq_false e]
theorem isS_yes {m : List UInt8} (hm : m ≠ []) {s : Ps.St} {r : Rt} (h : Sm s r) (e : Ps.mark s = m) : isS m r = true := by rw [isS_iff h hm, decide_eq_true e]
theorem go_any {L : Ps.Lv} {M : Lr} (p : PL L M) (hi : Ps.ImL L) (hs : Ps.H2.ShL L) (hk : Ps.K.ShL L) (s : Ps.St) (r : Rt) (g : Ps.H2.Good s) (h : Sm s r) : Res (Ps.anyStatement L s) (one M r) := by
  unfold Ps.anyStatement one
  dsimp only
  by_cases m1 : Ps.mark s = [123]
  · rw [if_pos m1, if_pos (isS_yes (by simp) h m1)]
    exact (pair_block p hi hs hk).go s r g h
  rw [if_neg m1, isS_no (by simp) h m1, if_neg Bool.false_ne_true]
  by_cases mf : Ps.mark s = [102, 117, 110, 99, 116, 105, 111, 110]
  · rw [if_pos (isS_yes (by simp) h mf)]
    iterate 9 rw [if_neg (by rw [mf]; decide)]
    rw [if_pos mf]
    unfold Ps.definition
    dsimp only
    have gf := go_func p hi hs hk true g h mf
    have gg := (Ps.H2.sh_func hs true s g).good
    generalize Ps.func L true s = X at *
    generalize func M true r = Y at *
    rcases gf with gf | gf
    · rw [gf.2, nx_eq h]
      exact out_add ⟨gg, .inl gf.1⟩ (fun _ => rfl)
    · exact .inr ⟨gf.1, gf.2.1, gf.2.2⟩
  rw [isS_no (by simp) h mf, if_neg Bool.false_ne_true]
  by_cases m2 : Ps.mark s = [105, 102]
  · rw [if_pos m2, has_yes (by simp) h m2]
    exact go_if p hs hk g h
  rw [if_neg m2, hasnt (by simp) h m2]; dsimp only
  by_cases m3 : Ps.mark s = [119, 104, 105, 108, 101]
  · rw [if_pos m3, has_yes (by simp) h m3]
    exact go_while p hs hk g h
  rw [if_neg m3, hasnt (by simp) h m3]; dsimp only
  by_cases m4 : Ps.mark s = [98, 114, 101, 97, 107]
  · rw [if_pos m4, has_yes (by simp) h m4]
    exact go_jump 28 g h
  rw [if_neg m4, hasnt (by simp) h m4]; dsimp only
  by_cases m5 : Ps.mark s = [99, 111, 110, 116, 105, 110, 117, 101]
  · rw [if_pos m5, has_yes (by simp) h m5]
    exact go_jump 29 g h
  rw [if_neg m5, hasnt (by simp) h m5]; dsimp only
  by_cases m6 : Ps.mark s = [114, 101, 116, 117, 114, 110]
  · rw [if_pos m6, has_yes (by simp) h m6]
    exact go_return p g h
  rw [if_neg m6, hasnt (by simp) h m6]; dsimp only
  by_cases m7 : Ps.mark s = [116, 104, 114, 111, 119]
  · rw [if_pos m7, has_yes (by simp) h m7]
    exact go_throw p g h
  rw [if_neg m7, hasnt (by simp) h m7]; dsimp only
  by_cases m8 : Ps.mark s = [116, 114, 121]
  · rw [if_pos m8, has_yes (by simp) h m8]
    exact go_try p hi hs hk g h
  rw [if_neg m8, hasnt (by simp) h m8]; dsimp only
  by_cases m9 : Ps.mark s = [108, 101, 116]
  · rw [if_pos m9, isS_yes (by simp) h m9, isS_no (m := [99, 111, 110, 115, 116]) (by simp) h (by rw [m9]; decide)]
    exact go_binding p 21 g h
  rw [if_neg m9, isS_no (by simp) h m9]
  by_cases m10 : Ps.mark s = [99, 111, 110, 115, 116]
  · rw [if_pos m10, isS_yes (by simp) h m10]
    exact go_binding p 22 g h
  rw [if_neg m10, isS_no (by simp) h m10, if_neg mf]
  exact go_expr p g h
theorem go_unary {L : Ps.Lv} {M : Lr} (p : PL L M) (s : Ps.St) (r : Rt) (g : Ps.H2.Good s) (h : Sm s r) : Res (Ps.anyUnary L s) (unary M r) := by
  unfold Ps.anyUnary unary
  rw [isS_iff h (by simp), isS_iff h (by simp), isS_iff h (by simp)]
  by_cases hc : Ps.mark s = [33] ∨ Ps.mark s = [45] ∨ Ps.mark s = [116, 121, 112, 101, 111, 102]
  · rw [if_pos hc, if_pos (by simpa [or_assoc] using hc)]
    dsimp only
    have c0 := cp_skip g h
    refine out_add (p.u.c c0) fun e => ?_
    rw [nx_eq h, (p.u.v c0 e).2]; rfl
  · rw [if_neg hc, if_neg (by simpa [or_assoc] using hc)]
    exact p.p.go s r g h
end Go.Proofs.YtpjmapoiinjakaaGreatDoor.Rp
end
