/- Texts: RpBd RpFw ScKt ScNs OBool. -/
import Derived.Test.YtkaacmghgobhmaaBn06
import Derived.Test.YtkaacmghgobhmaaBn00
import Derived.Test.YtkaacmghgobhmaaBn16
import Derived.Test.YtkaacmghgobhmaaRows
import Derived.WalkKit
import Derived.Deep.Slices
import Derived.Deep.Strs
import Derived.ChangeSame
import Derived.OpenShut
section
namespace Go.Proofs.Ytkaacmghgobhmaa.Rp
open Lx Ps
set_option linter.unusedVariables false
/-- b: what is left over where all is well; a: nodes where it is bad already; c: where it becomes bad. -/
def Bt (b a c : Nat) (x y : Rt) : Prop := Gd x → Gd y ∧ y.toks.length ≤ x.toks.length ∧ (x.bad = true → y.bad = true ∧ y.nodes.length ≤ x.nodes.length + a) ∧ (x.bad = false → y.bad = false → y.nodes.length + 8 * y.toks.length + b ≤ x.nodes.length + 8 * x.toks.length) ∧ (x.bad = false → y.bad = true → y.nodes.length + 8 * y.toks.length ≤ x.nodes.length + 8 * x.toks.length + c)
theorem Bt.refl (x : Rt) : Bt 0 0 0 x x := fun g => ⟨g, Nat.le_refl _, fun h => ⟨h, by omega⟩, fun _ _ => by omega, fun h1 h2 => by rw [h1] at h2; cases h2⟩
theorem Bt.then {b1 a1 c1 b2 a2 c2 : Nat} {x y z : Rt} (h : Bt b1 a1 c1 x y) (k : Bt b2 a2 c2 y z) : Bt (b1 + b2) (a1 + a2) (max (c1 + a2) c2) x z := fun g => by
  obtain ⟨g1, t1, p1, q1, s1⟩ := h g
  obtain ⟨g2, t2, p2, q2, s2⟩ := k g1
  refine ⟨g2, Nat.le_trans t2 t1, fun hx => ?_, fun hx hz => ?_, fun hx hz => ?_⟩
  · obtain ⟨hy, n1⟩ := p1 hx
    obtain ⟨hz, n2⟩ := p2 hy
    exact ⟨hz, by omega⟩
  · cases hy : y.bad
    · have := q1 hx hy
      have := q2 hy hz
      omega
    · rw [(p2 hy).1] at hz; cases hz
  · cases hy : y.bad
    · have := q1 hx hy
      have := s2 hy hz
      have := Nat.le_max_right (c1 + a2) c2
      omega
    · have := s1 hx hy
      have := (p2 hy).2
      have := Nat.le_max_left (c1 + a2) c2
      omega
theorem Bt.up {b a c b' a' c' : Nat} {x y : Rt} (h : Bt b a c x y) (hb : b' ≤ b) (ha : a ≤ a') (hc : c ≤ c') : Bt b' a' c' x y := fun g => by
  obtain ⟨g1, t1, p1, q1, s1⟩ := h g
  exact ⟨g1, t1, fun hx => ⟨(p1 hx).1, by have := (p1 hx).2; omega⟩, fun hx hy => by have := q1 hx hy; omega, fun hx hy => by have := s1 hx hy; omega⟩
theorem Bt.put {b a c : Nat} {x y : Rt} (h : Bt (b + 1) a c x y) (n : Nd) : Bt b (a + 1) (c + 1) x (Rp.put n y).2 := fun g => by
  obtain ⟨g1, t1, p1, q1, s1⟩ := h g
  have hl : (Rp.put n y).2.nodes.length = y.nodes.length + 1 := by show (y.nodes ++ [n]).length = _; simp
  have ht : (Rp.put n y).2.toks = y.toks := rfl
  have hb : (Rp.put n y).2.bad = y.bad := rfl
  refine ⟨⟨g1.one, g1.last⟩, t1, fun hx => ⟨(p1 hx).1, by have := (p1 hx).2; omega⟩, fun hx hy => ?_, fun hx hy => ?_⟩
  · have := q1 hx hy; rw [ht, hl]; omega
  · have := s1 hx hy; rw [ht, hl]; omega
theorem bt_spoil (b : Nat) (x : Rt) : Bt b 0 0 x (spoil x) := fun g => ⟨⟨g.one, g.last⟩, Nat.le_refl _, fun h => ⟨rfl, Nat.le_refl _⟩, fun _ h => (nomatch h), fun _ _ => Nat.le_refl _⟩
theorem bt_move {x : Rt} (h0 : (nx x).k ≠ 0) (h6 : (nx x).k ≠ 6) : Bt 8 0 0 x (move x) := fun g => by
  have hm : (move x).bad = x.bad ∧ (move x).nodes = x.nodes := by unfold move; split <;> exact ⟨rfl, rfl⟩
  have hl : (move x).toks.length + 1 ≤ x.toks.length := by
    have h := on_move h0 h6 (r := { x with bad := false }) ⟨g.one, g.last⟩
    have e : (move { x with bad := false }).toks = (move x).toks := by unfold move; split <;> rfl
    have e2 : (move { x with bad := false }).bad = false := by unfold move; split <;> rfl
    rcases h.2 with h | h
    · rw [e2] at h; cases h
    · rw [e] at h; exact h
  refine ⟨move_gd g, by omega, fun h => ⟨by rw [hm.1]; exact h, by rw [hm.2]; omega⟩, fun _ _ => by rw [hm.2]; omega, fun _ _ => by rw [hm.2]; omega⟩
theorem isS_ks {m : List UInt8} {r : Rt} (h : isS m r = true) : (nx r).k ≠ 0 ∧ (nx r).k ≠ 6 := by
  unfold isS at h
  simp only [Bool.and_eq_true, decide_eq_true_eq] at h
  omega
theorem bt_yes {m : List UInt8} {x y : Rt} (h : has m x = (true, y)) : Bt 8 0 0 x y := by
  unfold has at h
  split at h
  · cases h
  · rename_i h1
    cases h
    cases e : isS m x
    · rw [e] at h1; simp at h1
    · exact bt_move (isS_ks e).1 (isS_ks e).2
theorem bt_no {m : List UInt8} {x y : Rt} (h : has m x = (false, y)) : Bt 0 0 0 x y := by rw [has_no h]; exact Bt.refl x
theorem bt_has (m : List UInt8) (x : Rt) : Bt 0 0 0 x (has m x).2 := by
  rcases e : has m x with ⟨b, y⟩
  cases b
  · exact bt_no e
  · exact (bt_yes e).up (by omega) (by omega) (by omega)
theorem bt_must (m : List UInt8) (x : Rt) : Bt 8 0 0 x (must m x) := by
  unfold must
  rcases e : has m x with ⟨b, y⟩
  cases b
  · rw [has_no e]; exact bt_spoil 8 x
  · exact bt_yes e
theorem bt_rname (x : Rt) : Bt 8 0 0 x (rname x).2 := by
  unfold rname
  by_cases h : (x.bad || decide ((nx x).k ≠ 3)) = true
  · rw [if_pos h]; exact bt_spoil 8 x
  · rw [if_neg h]
    have hk : (nx x).k = 3 := by
      simp only [Bool.or_eq_true, decide_eq_true_eq, not_or, Decidable.not_not] at h
      exact h.2
    exact bt_move (by omega) (by omega)
theorem bt_ende (x : Rt) : Bt 0 0 0 x (ende x) := by
  unfold ende
  rcases e : has [59] x with ⟨b, y⟩
  cases b
  · have hy := has_no e
    subst hy
    simp only
    split
    · exact Bt.refl _
    · split
      · exact bt_spoil 0 _
      · exact Bt.refl _
  · exact (bt_yes e).up (by omega) (by omega) (by omega)
/-- Where it is bad nothing happens. -/
theorem bt_stop {b c : Nat} {x y : Rt} (h : x.bad = true) (e : y = x) : Bt b 0 c x y := fun g => by
  subst e
  exact ⟨g, Nat.le_refl _, fun h => ⟨h, by omega⟩, fun h2 => (by rw [h] at h2; cases h2), fun h2 => (by rw [h] at h2; cases h2)⟩
/-- Where it is not bad, what is said of that alone. -/
theorem Bt.good {b a c a' : Nat} {x y : Rt} (h : x.bad = false) (k : Bt b a c x y) : Bt b a' c x y := fun g => by
  obtain ⟨g1, t1, p1, q1, s1⟩ := k g
  exact ⟨g1, t1, fun h2 => (by rw [h] at h2; cases h2), q1, s1⟩
structure BtL (C : Nat) (L : Lr) : Prop where
  e : ∀ r, Bt 1 0 C r (L.e r).2
  u : ∀ r, Bt 1 0 C r (L.u r).2
  p : ∀ r, Bt 1 0 C r (L.p r).2
  s : ∀ r, Bt 0 0 C r (L.s r).2
section
variable {C : Nat} {L : Lr}
theorem bt_listLoop (h : BtL C L) (last : Bool) : ∀ (f : Nat) (l : List Nat) (r : Rt), Bt 0 0 C r (listLoop L last f l r).2
  | 0, l, r => (Bt.refl r).up (by omega) (by omega) (by omega)
  | f + 1, l, r => by
    unfold listLoop
    split
    · exact (Bt.refl r).up (by omega) (by omega) (by omega)
    · split
      · exact (Bt.refl r).up (by omega) (by omega) (by omega)
      · exact ((h.s r).then (bt_listLoop h last f _ _)).up (by omega) (by omega) (by omega)
theorem bt_list (h : BtL C L) (last : Bool) (r : Rt) : Bt 0 0 C r (list L last r).2 := bt_listLoop h last _ _ r
theorem bt_body (h : BtL C L) (r : Rt) : Bt 16 0 C r (body L r).2 := (((bt_must _ r).then (bt_list h false _)).then (bt_must _ _)).up (by omega) (by omega) (by omega)
theorem bt_block (h : BtL C L) (r : Rt) : Bt 1 1 (C + 1) r (block L r).2 := ((bt_body h r).up (b' := 2) (by omega) (Nat.le_refl _) (Nat.le_refl _)).put _
theorem bt_inner (h : BtL C L) (r : Rt) : Bt 0 0 C r (inner L r).2 := by
  unfold inner
  simp only
  split
  · split
    · exact (bt_spoil 0 r).up (by omega) (by omega) (by omega)
    · rename_i h; exact absurd rfl h
  · split
    · exact (Bt.refl r).up (by omega) (by omega) (by omega)
    · exact h.s r
theorem bt_namesLoop : ∀ (f : Nat) (l : List (List UInt8)) (r : Rt), Bt 0 0 0 r (namesLoop f l r).2
  | 0, l, r => Bt.refl r
  | f + 1, l, r => by
    unfold namesLoop
    split
    · rename_i e; exact bt_no e
    · rename_i e; exact (((bt_yes e).then (bt_rname _)).then (bt_namesLoop f _ _)).up (by omega) (by omega) (by omega)
theorem bt_pars (r : Rt) : Bt 0 0 0 r (pars r).2 := by
  unfold pars
  split
  · exact Bt.refl r
  · exact ((bt_rname r).then (bt_namesLoop _ _ _)).up (by omega) (by omega) (by omega)
theorem bt_fname (named : Bool) (r : Rt) : Bt 0 0 0 r (fname named r).2 := by
  unfold fname
  split
  · exact (bt_rname r).up (by omega) (by omega) (by omega)
  · exact Bt.refl r
theorem bt_func (h : BtL C L) (named : Bool) (r : Rt) : Bt 2 1 (C + 1) r (func L named r).2 :=
  Bt.put (b := 2) (a := 0) (c := C) (((((((bt_must _ r).then (bt_has [42] _)).then (bt_fname named _)).then (bt_must _ _)).then (bt_pars _)).then (bt_must _ _)).then (bt_body h _) |>.up (by omega) (by omega) (by omega)) _
theorem bt_commasLoop (h : BtL C L) : ∀ (f : Nat) (l : List Nat) (r : Rt), Bt 0 0 C r (commasLoop L f l r).2
  | 0, l, r => (Bt.refl r).up (by omega) (by omega) (by omega)
  | f + 1, l, r => by
    unfold commasLoop
    split
    · rename_i e; exact (bt_no e).up (by omega) (by omega) (by omega)
    · rename_i e; exact (((bt_yes e).then (h.e _)).then (bt_commasLoop h f _ _)).up (by omega) (by omega) (by omega)
theorem bt_commas (h : BtL C L) (m : List UInt8) (r : Rt) : Bt 8 0 C r (commas L m r).2 := by
  unfold commas
  split
  · rename_i e; exact (bt_yes e).up (by omega) (by omega) (by omega)
  · rename_i e; exact ((((bt_no e).then (h.e _)).then (bt_commasLoop h _ _ _)).then (bt_must _ _)).up (by omega) (by omega) (by omega)
theorem bt_binLoop (row : List (List UInt8)) {sub : Q Nat} {c : Nat} (hs : ∀ r, Bt 1 0 c r (sub r).2) : ∀ (f k : Nat) (r : Rt), Bt 0 0 (c + 1) r (binLoop row sub f k r).2
  | 0, k, r => (Bt.refl r).up (by omega) (by omega) (by omega)
  | f + 1, k, r => by
    unfold binLoop
    split
    · rename_i e
      simp only [Bool.and_eq_true, Bool.not_eq_true', decide_eq_true_eq] at e
      refine Bt.good e.1.1 (Bt.up (Bt.then (Bt.put (b := 8) (a := 0) (c := c) (((bt_move (by omega) (by omega)).then (hs _)).up (by omega) (by omega) (by omega)) _) (bt_binLoop row hs f _ _)) (by omega) (Nat.le_refl _) (by omega))
    · exact (Bt.refl r).up (by omega) (by omega) (by omega)
theorem bt_bin (h : BtL C L) : ∀ row r, Bt 1 0 (C + row.length) r (bin L row r).2
  | [], r => h.u r
  | row :: rest, r => ((bt_bin h rest r).then (bt_binLoop row (bt_bin h rest) _ _ _)).up (by omega) (by omega) (by simp only [List.length_cons]; omega)
theorem bt_cond (h : BtL C L) (r : Rt) : Bt 1 0 (C + 6) r (cond L r).2 := by
  have h0 : Bt 1 0 (C + 6) r (bin L rrows r).2 := bt_bin h rrows r
  unfold cond
  simp only
  split
  · exact h0
  · rename_i hk
    split
    · rename_i e; exact (h0.then (bt_no e)).up (by omega) (by omega) (by omega)
    · rename_i e
      have h1 := (((bt_yes e).then (h.e _)).then (bt_must [58] _))
      split
      · exact (h0.then h1).up (by omega) (by omega) (by omega)
      · have h2 := Bt.put (b := 8) (a := 0) (c := C) ((h1.then (h.e _)).up (by omega) (by omega) (by omega)) { k := 18, kids := [(bin L rrows r).1, (L.e (by assumption)).1, (L.e (must [58] (L.e (by assumption)).2)).1], a := ((L.e (must [58] (L.e (by assumption)).2)).2.nodes.getD (bin L rrows r).1 {}).a }
        exact (h0.then (Bt.good (by simpa using hk) h2 (a' := 0))).up (by omega) (by omega) (by omega)
theorem bt_assign (h : BtL C L) (r : Rt) : Bt 1 1 (C + 6) r (assign L r).2 := by
  unfold assign
  simp only
  split
  · rename_i e
    exact (Bt.put (b := 8) (a := 0) (c := C) (((bt_yes e).then (h.e _)).up (by omega) (by omega) (by omega)) _).up (by omega) (by omega) (by omega)
  · rename_i r1 e
    have h0 := ((bt_no e).then (bt_cond h r1)).up (b' := 1) (a' := 0) (c' := C + 6) (by omega) (by omega) (by omega)
    generalize cond L _ = k at *
    obtain ⟨k1, k2⟩ := k
    simp only at h0 ⊢
    cases hb : k2.bad
    · simp only [Bool.false_eq_true, if_false]
      generalize isTarget _ = tt
      cases tt
      · exact h0.up (by omega) (by omega) (by omega)
      · simp only [if_true]
        split
        · rename_i e'; exact (h0.then (bt_no e')).up (by omega) (by omega) (by omega)
        · rename_i r2 e'
          have h2 := Bt.put (b := 8) (a := 0) (c := C) (((bt_yes e').then (h.e _)).up (by omega) (by omega) (by omega)) { k := 19, kids := [k1, (L.e r2).1], a := ((L.e r2).2.nodes.getD k1 {}).a }
          exact (h0.then (Bt.good (a' := 0) hb h2)).up (by omega) (by omega) (by omega)
    · exact h0.up (by omega) (by omega) (by omega)
theorem bt_unary (h : BtL C L) (r : Rt) : Bt 1 1 (C + 1) r (unary L r).2 := by
  unfold unary
  cases e : (isS [33] r || isS [45] r || isS [116, 121, 112, 101, 111, 102] r)
  · exact (h.p r).up (by omega) (by omega) (by omega)
  · have hk : (nx r).k ≠ 0 ∧ (nx r).k ≠ 6 := by
      cases e1 : isS [33] r
      · cases e2 : isS [45] r
        · rw [e1, e2] at e; exact isS_ks e
        · exact isS_ks e2
      · exact isS_ks e1
    exact (Bt.put (b := 8) (a := 0) (c := C) (((bt_move hk.1 hk.2).then (h.u _)).up (by omega) (by omega) (by omega)) _).up (by omega) (by omega) (by omega)
theorem bt_objLoop (h : BtL C L) : ∀ (f : Nat) (N : List (List UInt8)) (K : List Nat) (r : Rt), Bt 0 0 C r (objLoop L f N K r).2
  | 0, N, K, r => (Bt.refl r).up (by omega) (by omega) (by omega)
  | f + 1, N, K, r => by
    unfold objLoop
    simp only
    split
    · split
      · rename_i hk
        split
        · exact (Bt.refl r).up (by omega) (by omega) (by omega)
        · have h1 := ((bt_move (x := r) (by omega) (by omega)).then (bt_must [58] _)).then (h.e _)
          split
          · rename_i e; exact (h1.then (bt_no e)).up (by omega) (by omega) (by omega)
          · rename_i e; exact ((h1.then (bt_yes e)).then (bt_objLoop h f _ _ _)).up (by omega) (by omega) (by omega)
      · split
        · exact (bt_spoil 0 r).up (by omega) (by omega) (by omega)
        · rename_i h; exact absurd rfl h
    · exact (Bt.refl r).up (by omega) (by omega) (by omega)
theorem bt_object (h : BtL C L) (a : Nat) (r : Rt) : Bt 0 1 (C + 1) r (object L a r).2 := by
  have h0 := bt_objLoop h (r.toks.length + 1) [] [] r
  unfold object
  split
  · rename_i e; rw [e] at h0; exact h0.up (by omega) (by omega) (by omega)
  · rename_i e
    rw [e] at h0
    exact (Bt.put (b := 7) (a := 0) (c := C) ((h0.then (bt_must [125] _)).up (by omega) (by omega) (by omega)) _).up (by omega) (by omega) (by omega)
theorem bt_first (h : BtL C L) (r : Rt) : Bt 1 1 (C + 1) r (first L r).2 := by
  unfold first
  simp only
  split
  · exact (Bt.put (b := 7) (a := 0) (c := 0) (bt_move (by omega) (by omega)) _).up (by omega) (by omega) (by omega)
  split
  · exact (Bt.put (b := 7) (a := 0) (c := 0) (bt_move (by omega) (by omega)) _).up (by omega) (by omega) (by omega)
  split
  · exact (Bt.put (b := 7) (a := 0) (c := 0) (bt_move (by omega) (by omega)) _).up (by omega) (by omega) (by omega)
  split
  · exact (Bt.put (b := 7) (a := 0) (c := 0) (bt_move (by omega) (by omega)) _).up (by omega) (by omega) (by omega)
  split
  · exact (bt_func h false r).up (by omega) (by omega) (by omega)
  split
  · rename_i e; exact (((bt_yes e).then (h.e _)).then (bt_must _ _)).up (by omega) (by omega) (by omega)
  rename_i e1
  have g1 := bt_no e1
  split
  · rename_i e
    exact (Bt.put (b := 8) (a := 0) (c := C) (((g1.then (bt_yes e)).then (bt_commas h _ _)).up (by omega) (by omega) (by omega)) _).up (by omega) (by omega) (by omega)
  rename_i e2
  have g2 := g1.then (bt_no e2)
  split
  · rename_i e; exact ((g2.then (bt_yes e)).then (bt_object h _ _)).up (by omega) (by omega) (by omega)
  · rename_i e; exact ((g2.then (bt_no e)).then (bt_spoil 1 _)).up (by omega) (by omega) (by omega)
theorem bt_postLoop (h : BtL C L) : ∀ (f k : Nat) (r : Rt), Bt 0 0 (C + 1) r (postLoop L f k r).2
  | 0, k, r => (Bt.refl r).up (by omega) (by omega) (by omega)
  | f + 1, k, r => by
    unfold postLoop
    simp only
    split
    · exact (Bt.refl r).up (by omega) (by omega) (by omega)
    rename_i hb
    have hb' : r.bad = false := by simpa using hb
    refine Bt.good hb' (a := 1) ?_
    split
    · rename_i e
      have g := bt_yes e
      split
      · exact (g.then (bt_spoil 0 _)).up (by omega) (by omega) (by omega)
      · have h1 := Bt.put (b := 8) (a := 0) (c := 0) ((g.then (bt_move (by omega) (by omega))).up (by omega) (by omega) (by omega))
        exact ((h1 _).then (bt_postLoop h f _ _)).up (by omega) (by omega) (by omega)
    rename_i e1
    have g1 := bt_no e1
    split
    · rename_i e
      have h1 := Bt.put (b := 8) (a := 0) (c := C) ((((g1.then (bt_yes e)).then (h.e _)).then (bt_must [93] _)).up (by omega) (by omega) (by omega))
      exact ((h1 _).then (bt_postLoop h f _ _)).up (by omega) (by omega) (by omega)
    rename_i e2
    have g2 := g1.then (bt_no e2)
    split
    · rename_i e
      have h1 := Bt.put (b := 8) (a := 0) (c := C) (((g2.then (bt_yes e)).then (bt_commas h [41] _)).up (by omega) (by omega) (by omega))
      exact ((h1 _).then (bt_postLoop h f _ _)).up (by omega) (by omega) (by omega)
    · rename_i e; exact (g2.then (bt_no e)).up (by omega) (by omega) (by omega)
theorem bt_post (h : BtL C L) (r : Rt) : Bt 1 1 (C + 1) r (post L r).2 := ((bt_first h r).then (bt_postLoop h _ _ _)).up (by omega) (by omega) (by omega)
theorem bt_one (h : BtL C L) (r : Rt) : Bt 0 9 (C + 6) r (one L r).2 := by
  unfold one
  simp only
  split
  · exact (bt_block h r).up (by omega) (by omega) (by omega)
  split
  · exact (Bt.put (b := 1) (a := 1) (c := C + 1) (bt_func h true r) _).up (by omega) (by omega) (by omega)
  split
  · rename_i e
    have g := (((((bt_yes e).then (bt_must [40] _)).then (h.e _)).then (bt_must [41] _)).then (bt_inner h _)).up (b' := 8) (a' := 0) (c' := C) (by omega) (by omega) (by omega)
    split
    · rename_i e'; exact (Bt.put (b := 1) (a := 0) (c := C) (((g.then (bt_yes e')).then (bt_inner h _)).up (by omega) (by omega) (by omega)) _).up (by omega) (by omega) (by omega)
    · rename_i e'; exact (Bt.put (b := 1) (a := 0) (c := C) ((g.then (bt_no e')).up (by omega) (by omega) (by omega)) _).up (by omega) (by omega) (by omega)
  rename_i e1
  have g1 := bt_no e1
  split
  · rename_i e
    exact (Bt.put (b := 1) (a := 0) (c := C) ((((((g1.then (bt_yes e)).then (bt_must [40] _)).then (h.e _)).then (bt_must [41] _)).then (bt_inner h _)).up (by omega) (by omega) (by omega)) _).up (by omega) (by omega) (by omega)
  rename_i e2
  have g2 := g1.then (bt_no e2)
  split
  · rename_i e; exact (Bt.put (b := 1) (a := 0) (c := C) (((g2.then (bt_yes e)).then (bt_ende _)).up (by omega) (by omega) (by omega)) _).up (by omega) (by omega) (by omega)
  rename_i e3
  have g3 := g2.then (bt_no e3)
  split
  · rename_i e; exact (Bt.put (b := 1) (a := 0) (c := C) (((g3.then (bt_yes e)).then (bt_ende _)).up (by omega) (by omega) (by omega)) _).up (by omega) (by omega) (by omega)
  rename_i e4
  have g4 := g3.then (bt_no e4)
  split
  · rename_i e
    have g := g4.then (bt_yes e)
    split
    · exact (Bt.put (b := 1) (a := 0) (c := C) (((g.then (h.e _)).then (bt_ende _)).up (by omega) (by omega) (by omega)) _).up (by omega) (by omega) (by omega)
    · exact (Bt.put (b := 1) (a := 0) (c := C) ((g.then (bt_ende _)).up (by omega) (by omega) (by omega)) _).up (by omega) (by omega) (by omega)
  rename_i e5
  have g5 := g4.then (bt_no e5)
  split
  · rename_i e
    have g := g5.then (bt_yes e)
    split
    · exact (Bt.put (b := 1) (a := 0) (c := C) ((((g.then (bt_spoil 0 _)).then (h.e _)).then (bt_ende _)).up (by omega) (by omega) (by omega)) _).up (by omega) (by omega) (by omega)
    · exact (Bt.put (b := 1) (a := 0) (c := C) (((g.then (h.e _)).then (bt_ende _)).up (by omega) (by omega) (by omega)) _).up (by omega) (by omega) (by omega)
  rename_i e6
  have g6 := g5.then (bt_no e6)
  split
  · rename_i e
    exact (Bt.put (b := 1) (a := 2) (c := C + 2) (((((((g6.then (bt_yes e)).then (bt_block h _)).then (bt_must _ _)).then (bt_must _ _)).then (bt_rname _)).then (bt_must _ _)).then (bt_block h _) |>.up (by omega) (by omega) (by omega)) _).up (by omega) (by omega) (by omega)
  rename_i r7 e7
  have g7 := g6.then (bt_no e7)
  cases e : (isS [108, 101, 116] r7 || isS [99, 111, 110, 115, 116] r7)
  · have g8 := (g7.then (h.e r7)).then (bt_ende _)
    rw [if_neg (by simp)]
    split
    · exact g8.up (by omega) (by omega) (by omega)
    · exact (Bt.put (b := 0) (a := 0) (c := C) (g8.up (by omega) (by omega) (by omega)) _).up (by omega) (by omega) (by omega)
  · rw [if_pos rfl]
    have hk : (nx r7).k ≠ 0 ∧ (nx r7).k ≠ 6 := by
      cases e1 : isS [108, 101, 116] r7
      · rw [e1] at e; exact isS_ks e
      · exact isS_ks e1
    exact (Bt.put (b := 1) (a := 0) (c := C) ((((((g7.then (bt_move hk.1 hk.2)).then (bt_rname _)).then (bt_must [61] _)).then (h.e _)).then (bt_ende _)).up (by omega) (by omega) (by omega)) _).up (by omega) (by omega) (by omega)
theorem bt_deeper {f : Q Nat} {b a c : Nat} (hf : ∀ r, Bt b a c r (f r).2) (r : Rt) : Bt b 0 c r (deeper f r).2 := by
  unfold deeper
  by_cases h : r.bad = true
  · rw [if_pos h]; exact bt_stop h rfl
  · rw [if_neg h]; exact Bt.good (by simpa using h) (hf r)
end
theorem bt_rl : ∀ d, BtL (6 * d) (rl d)
  | 0 => ⟨fun r => (bt_spoil 1 r).up (by omega) (by omega) (by omega), fun r => (bt_spoil 1 r).up (by omega) (by omega) (by omega), fun r => (bt_spoil 1 r).up (by omega) (by omega) (by omega), fun r => (bt_spoil 0 r).up (by omega) (by omega) (by omega)⟩
  | d + 1 => by
    have h := bt_rl d
    exact ⟨fun r => (bt_deeper (bt_assign h) r).up (by omega) (by omega) (by omega), fun r => (bt_deeper (bt_unary h) r).up (by omega) (by omega) (by omega), fun r => (bt_deeper (bt_post h) r).up (by omega) (by omega) (by omega), fun r => (bt_deeper (bt_one h) r).up (by omega) (by omega) (by omega)⟩
/-- A program's nodes are few. -/
theorem few (r : Rt) (g : Gd r) (hb : r.bad = false) (hn : r.nodes = []) (ht : r.toks.length ≤ 4097) : (list (rl 40) true r).2.nodes.length ≤ 40000 := by
  obtain ⟨_, _, _, q, s⟩ := bt_list (bt_rl 40) true r g
  rw [hn] at q s
  simp only [List.length_nil] at q s
  cases h : (list (rl 40) true r).2.bad
  · have := q hb h; omega
  · have := s hb h; omega
end Go.Proofs.Ytkaacmghgobhmaa.Rp
end
section
namespace Go.Proofs.Ytkaacmghgobhmaa.Rp
open Lx
theorem run_lens (l : List UInt8) : ∀ (f p : Nat), p ≤ l.length → l.length < p + f → 1 ≤ (run l f p).length ∧ (run l f p).length + p ≤ l.length + 1 ∧ ∀ T, (run l f p).getLast? = some T → T.k = 0 ∨ T.k = 6
  | 0, p, hp, hf => by omega
  | f + 1, p, hp, hf => by
    unfold run
    split
    · rename_i h
      refine ⟨by simp, by simp; omega, fun T hT => ?_⟩
      have : T = tok l p := by simpa using hT.symm
      rw [this]; exact h
    · rename_i h
      have h1 := tok_ok l p hp
      have h5 := h1.2.2.2.2.1 (fun e => h (.inl e)) (fun e => h (.inr e))
      have ih := run_lens l f (tok l p).e h1.2.2.1 (by omega)
      refine ⟨by simp, by rw [List.length_cons]; omega, fun T hT => ih.2.2 T ?_⟩
      rw [List.getLast?_cons] at hT
      cases hg : (run l f (tok l p).e).getLast? with
      | none => have := ih.1; rw [List.getLast?_eq_none_iff] at hg; rw [hg] at this; simp at this
      | some U => rw [hg] at hT; simpa using hT
theorem all_lens (l : List UInt8) : 1 ≤ (all l).length ∧ (all l).length ≤ l.length + 1 ∧ ∀ T, (all l).getLast? = some T → T.k = 0 ∨ T.k = 6 := by
  have := run_lens l (l.length + 1) 0 (by omega) (by omega)
  exact ⟨this.1, by have := this.2.1; unfold all; omega, this.2.2⟩
theorem gd_alls (l : List UInt8) : Gd ⟨Lx.all l, [], false⟩ := ⟨(all_lens l).1, (all_lens l).2.2⟩
theorem fews (l : List UInt8) (h : l.length ≤ 4096) : (list (rl 40) true ⟨Lx.all l, [], false⟩).2.nodes.length ≤ 40000 := few _ (gd_alls l) rfl rfl (by have := (all_lens l).2.1; show (Lx.all l).length ≤ _; omega)
end Go.Proofs.Ytkaacmghgobhmaa.Rp
end
section
namespace Go.Proofs.Ytkaacmghgobhmaa.Rd
open Go.RowKit
open L (tkA own_block own_below info_of)
set_option linter.unusedVariables false
theorem fit_of {l : List Ps.Nd} (h : Sc.fitB l = true) : Fit l := by
  unfold Sc.fitB at h
  simp only [Bool.and_eq_true, List.all_eq_true, decide_eq_true_eq, Bool.not_eq_true', List.isEmpty_eq_false_iff] at h
  obtain ⟨⟨h1, h2⟩, h3⟩ := h
  exact ⟨h1, h2, fun x hx => ⟨(h3 x hx).1.1.1.1.1, (h3 x hx).1.1.1.1.2, (h3 x hx).1.1.1.2⟩, fun x hx => (h3 x hx).1.1.2, fun x hx => ⟨(h3 x hx).1.2, (h3 x hx).2⟩⟩
/-- What is read of a tree, as it lies. -/
def NodesAt (W : World) (g : Nat) (l : List Ps.Nd) : Prop := g < W.heap.size ∧ ∀ j (h : j < l.length), W.cell? ⟨g, j * 6, none⟩ = some (.int .i64 (l[j].k : Int)) ∧ W.cell? ⟨g, j * 6 + 2, none⟩ = some (.string ⟨l[j].t.toArray⟩)
theorem NodesAt.below {W W' : World} {g : Nat} {l : List Ps.Nd} (h : NodesAt W g l) (hb : Below W.heap.size W W') : NodesAt W' g l :=
  ⟨Nat.lt_of_lt_of_le h.1 hb.size, fun j hj => ⟨(hb.cell (p := ⟨g, j * 6, none⟩) h.1).trans (h.2 j hj).1, (hb.cell (p := ⟨g, j * 6 + 2, none⟩) h.1).trans (h.2 j hj).2⟩⟩
theorem Told.nodesAt {W : World} {v : Value} {l : List Ps.Nd} (h : Told W v l) (hl : l ≠ []) : ∃ g cap, v = .slice (some ⟨g, 0, none⟩) l.length cap ∧ l.length ≤ cap ∧ NodesAt W g l := by
  obtain ⟨ad, cap, rfl⟩ := h.slice
  obtain ⟨g, rfl, _, hg, hc, H⟩ := h.both hl
  refine ⟨g, cap, rfl, hc, hg, fun j hj => ?_⟩
  obtain ⟨an, ak, cn, ck, h1, _⟩ := H j hj
  exact ⟨h1 0 (by omega), h1 2 (by omega)⟩
/-- A text whose tree is known. -/
def Reads (U : List UInt8) (l : List Ps.Nd) : Prop := ∀ W, Calls Try.prog 12 #[.string ⟨U.toArray⟩] W fun e w' => ∃ g cap, e = .returned (.agg #[.slice (some ⟨g, 0, none⟩) l.length cap, .int .i64 0, .bool true]) ∧ l.length ≤ cap ∧ Hid (NodesAt w' g l) ∧ Hid (Told w' (.slice (some ⟨g, 0, none⟩) l.length cap) l) ∧ Hid (Below W.heap.size W w')
theorem reads_of {U : List UInt8} {l : List Ps.Nd} (hU : U.length ≤ 4096) (h : Rp.rparse U = (l, 0, true)) (hl : l ≠ []) : Reads U l := fun W => by
  refine (rParse_any U W (fun h => Nat.le_trans (Rp.fews U h) (by omega))).mono ?_
  rintro e w' ⟨v, rfl, ht, hb⟩
  rw [h] at ht ⊢
  obtain ⟨g, cap, rfl, hc, hN⟩ := ht.nodesAt hl
  exact ⟨g, cap, rfl, hc, hN, ht, hb⟩
theorem SpotsAt.cells {W : World} {g n : Nat} {S : Nat → Int × Int} (h : SpotsAt W g n n S) {j : Nat} (hj : j < n) : W.cell? ⟨g, j * 2, none⟩ = some (.int .i64 (S j).1) ∧ W.cell? ⟨g, j * 2 + 1, none⟩ = some (.int .i64 (S j).2) := by
  obtain ⟨M, h1, _, h3⟩ := h
  unfold World.cell?
  rw [h1]
  exact h3 j hj
theorem NumsAt.cells {W : World} {g n : Nat} {S : Nat → Int} (h : NumsAt W g n n S) {j : Nat} (hj : j < n) : W.cell? ⟨g, j, none⟩ = some (.int .i64 (S j)) := by
  obtain ⟨M, h1, _, h3⟩ := h
  unfold World.cell?
  rw [h1]
  exact h3 j hj
theorem NumsAt.lt {W : World} {g n k : Nat} {S : Nat → Int} (h : NumsAt W g n k S) : g < W.heap.size := by
  obtain ⟨M, h1, _⟩ := h; exact lt_of_some h1
theorem NumsAt.below {W W' : World} {g n k : Nat} {S : Nat → Int} (h : NumsAt W g n k S) (hb : Below W.heap.size W W') : NumsAt W' g n k S := by
  obtain ⟨M, h1, h2⟩ := h
  exact ⟨M, (hb.block _ (lt_of_some h1)).trans h1, h2⟩
/-- Spots of a tree that lies anywhere. -/
def Spots (l : List Ps.Nd) (S : Nat → Int × Int) : Prop := ∀ W v, Told W v l → Calls Try.prog 13 #[v] W fun e w' => ∃ R, e = .returned (.slice (some ⟨R, 0, none⟩) l.length l.length) ∧ W.heap.size ≤ R ∧ Hid (Below W.heap.size W w') ∧ Hid (SpotsAt w' R l.length l.length S)
theorem spots_of {l : List Ps.Nd} (h : Sc.fitB l = true) : Spots l (Sc.spot l (Sc.found l)) := fun W v ht => by
  refine (spots_any (fit_of h) ht).mono ?_
  rintro e w' ⟨R, rfl, h1, h2, h3⟩
  exact ⟨R, rfl, h1, h2, h3⟩
def Slots (l : List Ps.Nd) (S : Nat → Int) : Prop := ∀ W v, Told W v l → Calls Try.prog 14 #[v] W fun e w' => ∃ R, e = .returned (.slice (some ⟨R, 0, none⟩) l.length l.length) ∧ W.heap.size ≤ R ∧ Hid (Below W.heap.size W w') ∧ Hid (NumsAt w' R l.length l.length S)
theorem slots_of {l : List Ps.Nd} (h : Sc.fitB l = true) : Slots l (fun j => slotOf (Sc.found l) ((Sc.found l).own.getD j 0)) := fun W v ht => by
  refine (slots_any (fit_of h) ht).mono ?_
  rintro e w' ⟨R, rfl, h1, h2, h3⟩
  exact ⟨R, rfl, h1, h2, h3⟩
/-! ## The document's example, and a name -/
def t0 : List Ps.Nd := (Rp.rparse []).1
def t1 : List Ps.Nd := (Rp.rparse [108, 101, 116, 32, 97, 32, 61, 32, 49, 59, 32, 97]).1
theorem t0_ok : Rp.rparse [] = (t0, 0, true) ∧ t0.length = 1 ∧ Sc.fitB t0 = true ∧ slotOf (Sc.found t0) ((Sc.found t0).own.getD 0 0) = 0 := by decide +kernel
theorem t1_ok : Rp.rparse [108, 101, 116, 32, 97, 32, 61, 32, 49, 59, 32, 97] = (t1, 0, true) ∧ t1.length = 5 ∧ Sc.fitB t1 = true ∧ Sc.spot t1 (Sc.found t1) 2 = (0, 0) := by decide +kernel
theorem run_fieldT10 (u : Value) (a : Int) (b : Bool) (W : World) : (Instr.field 31 (.agg #[u, .int .i64 a, .bool b]) 0).run Try.prog W = .ok u W := by
  simp [Instr.field, go_sem, asAgg]
set_option maxRecDepth 100000 in
set_option maxHeartbeats 1000000 in
theorem awake_core (l0 l1 : List Ps.Nd) (n0 n1 : Nat) (hn0 : l0.length = n0) (hn1 : l1.length = n1) (h0 : n0 = 1) (h1 : n1 = 5) (S0 : Nat → Int) (S1 : Nat → Int × Int) (hS0 : S0 0 = 0) (hS1 : S1 2 = (0, 0)) (w : World)
    (HP0 : Hid (Reads [] l0)) (HP1 : Hid (Reads [108, 101, 116, 32, 97, 32, 61, 32, 49, 59, 32, 97] l1)) (HSL : Hid (Slots l0 S0)) (HSP : Hid (Spots l1 S1)) :
    Calls Try.prog 9 #[] w fun e w' => e = .returned (.bool true) ∧ Below w.heap.size w w' := by
  have HQ0 : Hid (∀ W, Calls Try.prog 12 #[.string ⟨#[]⟩] W fun e w' => ∃ g cap, e = .returned (.agg #[.slice (some ⟨g, 0, none⟩) l0.length cap, .int .i64 0, .bool true]) ∧ l0.length ≤ cap ∧ Hid (NodesAt w' g l0) ∧ Hid (Told w' (.slice (some ⟨g, 0, none⟩) l0.length cap) l0) ∧ Hid (Below W.heap.size W w')) := HP0.out
  have HQ1 : Hid (∀ W, Calls Try.prog 12 #[.string ⟨#[108, 101, 116, 32, 97, 32, 61, 32, 49, 59, 32, 97]⟩] W fun e w' => ∃ g cap, e = .returned (.agg #[.slice (some ⟨g, 0, none⟩) l1.length cap, .int .i64 0, .bool true]) ∧ l1.length ≤ cap ∧ Hid (NodesAt w' g l1) ∧ Hid (Told w' (.slice (some ⟨g, 0, none⟩) l1.length cap) l1) ∧ Hid (Below W.heap.size W w')) := HP1.out
  clear HP0 HP1
  have hfld := run_fieldT10
  go_enter Try.func9, Try.ntmps9
  go_wp2_with fail
  refine Calls.mono (HQ0.out _) ?_
  rintro e w1 ⟨g, cap, rfl, hc, hN, hT, hB⟩
  clear hN HQ0
  go_wp2_with fail
  have hTT := hT.out
  rw [show l0.length = 1 by omega] at hTT
  have hSL := HSL.out _ _ hTT
  refine Calls.mono hSL ?_
  rintro e w2 ⟨R, rfl, hR, hB2, hS2⟩
  clear hT HSL hSL hTT
  have HB2 : Hid (Below w.heap.size w w2) := hB.out.trans (hB2.out.mono hB.out.size)
  have HS2 : Hid (NumsAt w2 R n0 n0 S0) := by rw [← hn0]; exact hS2.out
  clear hB hB2 hS2 hR
  go_wp2_with fail
  refine Calls.mono (HQ1.out _) ?_
  rintro e w3 ⟨g1, cap1, rfl, hc1, hN1, hT1, hB3⟩
  clear hN1 HQ1
  go_wp2_with fail
  have hTT1 := hT1.out
  rw [show l1.length = 5 by omega] at hTT1
  have hSP := HSP.out _ _ hTT1
  refine Calls.mono hSP ?_
  rintro e w4 ⟨R1, rfl, hR1, hB4, hS4⟩
  have hB24 := hB3.out.trans (hB4.out.mono hB3.out.size)
  have hS24 := HS2.out.below hB24
  have cs := hS24.cells (j := 0) (by omega)
  have hRl := hS24.lt
  have hS4' : SpotsAt w4 R1 n1 n1 S1 := by rw [← hn1]; exact hS4.out
  have ⟨cp, cq⟩ := hS4'.cells (j := 2) (by omega)
  have hRl1 := hS4'.lt
  rw [hS0] at cs
  rw [hS1] at cp cq
  have HB5 : Hid (Below w.heap.size w w4) := HB2.out.trans (hB24.mono HB2.out.size)
  have hl0 : l0.length = 1 := by omega
  have hl1 : l1.length = 5 := by omega
  simp only [hl1]
  clear hT1 HSP hSP hTT1 HB2 HS2 hB3 hB4 hS4 hS24 hS4' hB24 hR1
  go_wp2_with fail
  go_ret
  exact ⟨rfl, HB5.out⟩
theorem awake_any (w : World) : Calls Try.prog 9 #[] w fun e w' => e = .returned (.bool true) ∧ Below w.heap.size w w' :=
  awake_core t0 t1 1 5 t0_ok.2.1 t1_ok.2.1 rfl rfl (fun j => slotOf (Sc.found t0) ((Sc.found t0).own.getD j 0)) _ t0_ok.2.2.2 t1_ok.2.2.2 w (reads_of (by simp) t0_ok.1 (by intro h; have := t0_ok.2.1; rw [h] at this; simp at this)) (reads_of (by simp) t1_ok.1 (by intro h; have := t1_ok.2.1; rw [h] at this; simp at this)) (slots_of t0_ok.2.2.1) (spots_of t1_ok.2.2.1)
end Go.Proofs.Ytkaacmghgobhmaa.Rd
end
section
namespace Go.Proofs.Ytkaacmghgobhmaa.Sc
set_option linter.unusedVariables false
def bA : List UInt8 := [108, 101, 116, 32, 97, 32, 61, 32, 49, 59, 32]
def bX : List UInt8 := [108, 101, 116, 32, 120, 32, 61, 32, 50, 59, 32]
def b0 : List UInt8 := [108, 101, 116, 32, 97, 32, 61, 32, 48, 59, 10]
def opensT : List Bool → List UInt8
  | [] => []
  | b :: bs => [123, 32] ++ ((if b then bA else bX) ++ opensT bs)
def closesT : Nat → List UInt8
  | 0 => []
  | n + 1 => [32, 125] ++ closesT n
def nestT (bs : List Bool) : List UInt8 := b0 ++ (opensT bs ++ (97 :: closesT bs.length))
def nearOf : Nat → List Bool → Nat
  | n, [] => n
  | n, b :: bs => nearOf (if b then 0 else n + 1) bs
def allA (l : List Ps.Nd) (S : Nat → Int × Int) (w : Int × Int) : Nat → Bool
  | 0 => true
  | k + 1 => (match l[k]? with
    | none => true
    | some x => if x.k = 3 then if x.t = [97] then decide (S k = w) else true else true) && allA l S w k
def okNest (bs : List Bool) : Bool :=
  match Rp.rparse (nestT bs) with
  | (l, a, ok) => ok && decide (a = 0) && fitB l && allA l (spot l (found l)) ((nearOf 0 bs : Nat), 0) l.length
def rows : Nat → List (List Bool)
  | 0 => [[]]
  | n + 1 => (rows n).map (true :: ·) ++ (rows n).map (false :: ·)
theorem rows_all : ∀ (bs : List Bool), bs ∈ rows bs.length
  | [] => by simp [rows]
  | b :: bs => by
    have ih := rows_all bs
    cases b <;> simp [rows, ih]
theorem len_opens : ∀ bs, (opensT bs).length = 13 * bs.length
  | [] => rfl
  | b :: bs => by
    have ih := len_opens bs
    have h : (if b then bA else bX).length = 11 := by cases b <;> rfl
    rw [opensT, List.length_append, List.length_append, h, ih]
    simp; omega
theorem len_closes : ∀ n, (closesT n).length = 2 * n
  | 0 => rfl
  | n + 1 => by rw [closesT, List.length_append, len_closes n]; simp; omega
theorem len_nest (bs : List Bool) : (nestT bs).length = 12 + 15 * bs.length := by
  have h : b0.length = 11 := rfl
  rw [nestT, List.length_append, List.length_append, List.length_cons, len_opens, len_closes, h]; omega
end Go.Proofs.Ytkaacmghgobhmaa.Sc
end
section
-- PROVED: slices of bools that came in, opened.
namespace Go.Proofs.Ytkaacmghgobhmaa.Ob
open Go.RowKit Go.ChangeShapes Go.WideShapes Go.Deep
set_option linter.unusedVariables false
theorem oc4 : Try.prog.cellsOf 4 = 1 := by kernel_rfl
theorem lt_of_cell {w : World} {a : Addr} {v : Value} (h : w.cell? a = some v) : a.block < w.heap.size := by
  unfold World.cell? at h
  by_cases hb : a.block < w.heap.size
  · exact hb
  · rw [Array.getElem?_eq_none (by omega)] at h; cases h
section
variable {H : Type} {enc : TypeId × Value → H} {w : World} {base : Nat} {spare : Nat → Bool} {held : Bool}
/-- A slice, element by element. -/
theorem open_list {t e : TypeId} {k : Nat} {α : Type} (dflt : α) (ht : Try.prog.underlying t = some (.slice e)) (hk : Try.prog.cellsOf e = k) (hk0 : 0 < k) (Q : List Value → α → Prop)
    (ho : ∀ n cs y, DataW.trod enc Try.prog w base spare held n e cs = some y → ∃ a, Q cs a) {fuel : Nat} {cs : List Value} {x : DataW H × List MemPlace} (h : DataW.trod enc Try.prog w base spare held fuel t cs = some x) :
    ∃ ad len cap, cs = [.slice ad len cap] ∧ len ≤ cap ∧ cap ≤ maxLen ∧ ∃ L : List α, L.length = len ∧ (len = 0 ∨ ∃ b off, ad = some ⟨b, off, none⟩ ∧ b < w.heap.size ∧ ∀ j (hj : j < L.length), ∃ cs, cs.length = k ∧ Q cs L[j] ∧ ∀ i u, cs[i]? = some u → w.cell? ⟨b, off + j * k + i, none⟩ = some u) := by
  rcases open_slice ht h with ⟨hcs, _⟩ | ⟨a, len, cap, m, n, D, Pl, hcs, hb, hl, hm, hmm, _, hx⟩
  · exact ⟨none, 0, 0, hcs, Nat.le_refl _, Nat.zero_le _, [], rfl, .inl rfl⟩
  · refine ⟨some a, len, cap, hcs, hl, hm, ?_⟩
    have hlm : len ≤ m := by rw [hmm]; split <;> omega
    by_cases h0 : len = 0
    · exact ⟨[], h0.symm, .inl h0⟩
    · have : Inhabited α := ⟨dflt⟩
      have key : ∀ i, i < len → ∃ a' : α, ∃ cs, cs.length = k ∧ Q cs a' ∧ ∀ i' u, cs[i']? = some u → w.cell? (a.add (i * k + i')) = some u := fun i hi => by
        obtain ⟨cs', h1, h2⟩ := hx i (by omega)
        rw [hk] at h1
        obtain ⟨_, hlen, hcell⟩ := World.cells?_some h1
        obtain ⟨a', ha'⟩ := ho _ _ _ h2
        refine ⟨a', cs', hlen, ha', fun i' u hu => ?_⟩
        have hlt : i' < k := by
          rcases Nat.lt_or_ge i' k with h | h
          · exact h
          · rw [List.getElem?_eq_none (by omega)] at hu; cases hu
        have := hcell i' (by omega)
        rw [add_add] at this
        rw [this, hu]
      obtain ⟨b, off, spot⟩ := a
      have hspot : spot = none := by
        obtain ⟨_, cs, hlen, _, hc⟩ := key 0 (by omega)
        have hlt : 0 < cs.length := by omega
        have := hc 0 _ (List.getElem?_eq_getElem hlt)
        simpa [Addr.add] using World.cell?_spot this
      subst hspot
      have hb : b < w.heap.size := by
        obtain ⟨_, cs, hlen, _, hc⟩ := key 0 (by omega)
        have hlt : 0 < cs.length := by omega
        have := hc 0 _ (List.getElem?_eq_getElem hlt)
        rw [add_plain] at this
        exact lt_of_cell this
      obtain ⟨q, hq⟩ := choose_lt key
      refine ⟨(List.range len).map q, by simp, .inr ⟨b, off, rfl, hb, fun j hj => ?_⟩⟩
      rw [List.length_map, List.length_range] at hj
      rw [List.getElem_map, List.getElem_range]
      obtain ⟨cs, h1, h2, h3⟩ := hq j hj
      refine ⟨cs, h1, h2, fun i u hu => ?_⟩
      have := h3 i u hu
      rw [add_plain, ← Nat.add_assoc] at this
      exact this
/-- A slice of bools, as it lies. -/
def IsBools (w : World) (ad : Option Addr) (len cap : Nat) (L : List Bool) : Prop :=
  L.length = len ∧ len ≤ cap ∧ cap ≤ maxLen ∧ (len = 0 ∨ ∃ b off, ad = some ⟨b, off, none⟩ ∧ b < w.heap.size ∧ ∀ j (h : j < L.length), w.cell? ⟨b, off + j, none⟩ = some (.bool L[j]))
theorem open_bools {fuel : Nat} {ad : Option Addr} {len cap : Nat} {x : DataW H × List MemPlace} (h : DataW.trod enc Try.prog w base spare held fuel 28 [.slice ad len cap] = some x) : ∃ L, IsBools w ad len cap L := by
  obtain ⟨ad', len', cap', hcs, hl, hm, L, hL, h2⟩ := open_list (α := Bool) false Try.underlying28 oc4 (by omega) (fun cs s => cs = [.bool s]) (fun n cs y hy => by
    obtain ⟨s, hs, _⟩ := DataW.trod_bool Try.underlying4 hy
    exact ⟨s, hs⟩) h
  simp only [List.cons.injEq, Value.slice.injEq, and_true] at hcs
  obtain ⟨rfl, rfl, rfl⟩ := hcs
  refine ⟨L, hL, hl, hm, h2.imp id ?_⟩
  rintro ⟨b, off, h3, h4, h5⟩
  refine ⟨b, off, h3, h4, fun j hj => ?_⟩
  obtain ⟨cs, h6, h7, h8⟩ := h5 j hj
  have := h8 0 (.bool L[j]) (by rw [h7]; rfl)
  simpa using this
end
end Go.Proofs.Ytkaacmghgobhmaa.Ob
end
