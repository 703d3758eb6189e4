/- Texts: RpBd RpFw SfA SfB. -/
import Derived.Test.YtkaacmghgobhmaaBn06
import Derived.Test.YtkaacmghgobhmaaBn00
import Derived.Test.YtkaacmghgobhmaaBn16
import Derived.Test.YtkaacmghgobhmaaBn17
import Derived.Test.YtkaacmghgobhmaaBn18
section
namespace Go.Proofs.Ytkaacmghgobhmaa.Rp
open Lx Ps
set_option linter.unusedVariables false
/-- b: what is left over where all is well; a: nodes where it is bad already; c: where it becomes bad. -/
def Bt (b a c : Nat) (x y : Rt) : Prop := Gd x → Gd y ∧ y.toks.length ≤ x.toks.length ∧ (x.bad = true → y.bad = true ∧ y.nodes.length ≤ x.nodes.length + a) ∧ (x.bad = false → y.bad = false → y.nodes.length + 8 * y.toks.length + b ≤ x.nodes.length + 8 * x.toks.length) ∧ (x.bad = false → y.bad = true → y.nodes.length + 8 * y.toks.length ≤ x.nodes.length + 8 * x.toks.length + c)
theorem Bt.refl (x : Rt) : Bt 0 0 0 x x := fun g => ⟨g, Nat.le_refl _, fun h => ⟨h, by omega⟩, fun _ _ => by omega, fun h1 h2 => by rw [h1] at h2; cases h2⟩
theorem Bt.then {b1 a1 c1 b2 a2 c2 : Nat} {x y z : Rt} (h : Bt b1 a1 c1 x y) (k : Bt b2 a2 c2 y z) : Bt (b1 + b2) (a1 + a2) (max (c1 + a2) c2) x z := fun g => by
  obtain ⟨g1, t1, p1, q1, s1⟩ := h g
  obtain ⟨g2, t2, p2, q2, s2⟩ := k g1
  refine ⟨g2, Nat.le_trans t2 t1, fun hx => ?_, fun hx hz => ?_, fun hx hz => ?_⟩
  · obtain ⟨hy, n1⟩ := p1 hx
    obtain ⟨hz, n2⟩ := p2 hy
    exact ⟨hz, by omega⟩
  · cases hy : y.bad
    · have := q1 hx hy
      have := q2 hy hz
      omega
    · rw [(p2 hy).1] at hz; cases hz
  · cases hy : y.bad
    · have := q1 hx hy
      have := s2 hy hz
      have := Nat.le_max_right (c1 + a2) c2
      omega
    · have := s1 hx hy
      have := (p2 hy).2
      have := Nat.le_max_left (c1 + a2) c2
      omega
theorem Bt.up {b a c b' a' c' : Nat} {x y : Rt} (h : Bt b a c x y) (hb : b' ≤ b) (ha : a ≤ a') (hc : c ≤ c') : Bt b' a' c' x y := fun g => by
  obtain ⟨g1, t1, p1, q1, s1⟩ := h g
  exact ⟨g1, t1, fun hx => ⟨(p1 hx).1, by have := (p1 hx).2; omega⟩, fun hx hy => by have := q1 hx hy; omega, fun hx hy => by have := s1 hx hy; omega⟩
theorem Bt.put {b a c : Nat} {x y : Rt} (h : Bt (b + 1) a c x y) (n : Nd) : Bt b (a + 1) (c + 1) x (Rp.put n y).2 := fun g => by
  obtain ⟨g1, t1, p1, q1, s1⟩ := h g
  have hl : (Rp.put n y).2.nodes.length = y.nodes.length + 1 := by show (y.nodes ++ [n]).length = _; simp
  have ht : (Rp.put n y).2.toks = y.toks := rfl
  have hb : (Rp.put n y).2.bad = y.bad := rfl
  refine ⟨⟨g1.one, g1.last⟩, t1, fun hx => ⟨(p1 hx).1, by have := (p1 hx).2; omega⟩, fun hx hy => ?_, fun hx hy => ?_⟩
  · have := q1 hx hy; rw [ht, hl]; omega
  · have := s1 hx hy; rw [ht, hl]; omega
theorem bt_spoil (b : Nat) (x : Rt) : Bt b 0 0 x (spoil x) := fun g => ⟨⟨g.one, g.last⟩, Nat.le_refl _, fun h => ⟨rfl, Nat.le_refl _⟩, fun _ h => (nomatch h), fun _ _ => Nat.le_refl _⟩
theorem bt_move {x : Rt} (h0 : (nx x).k ≠ 0) (h6 : (nx x).k ≠ 6) : Bt 8 0 0 x (move x) := fun g => by
  have hm : (move x).bad = x.bad ∧ (move x).nodes = x.nodes := by unfold move; split <;> exact ⟨rfl, rfl⟩
  have hl : (move x).toks.length + 1 ≤ x.toks.length := by
    have h := on_move h0 h6 (r := { x with bad := false }) ⟨g.one, g.last⟩
    have e : (move { x with bad := false }).toks = (move x).toks := by unfold move; split <;> rfl
    have e2 : (move { x with bad := false }).bad = false := by unfold move; split <;> rfl
    rcases h.2 with h | h
    · rw [e2] at h; cases h
    · rw [e] at h; exact h
  refine ⟨move_gd g, by omega, fun h => ⟨by rw [hm.1]; exact h, by rw [hm.2]; omega⟩, fun _ _ => by rw [hm.2]; omega, fun _ _ => by rw [hm.2]; omega⟩
theorem isS_ks {m : List UInt8} {r : Rt} (h : isS m r = true) : (nx r).k ≠ 0 ∧ (nx r).k ≠ 6 := by
  unfold isS at h
  simp only [Bool.and_eq_true, decide_eq_true_eq] at h
  omega
theorem bt_yes {m : List UInt8} {x y : Rt} (h : has m x = (true, y)) : Bt 8 0 0 x y := by
  unfold has at h
  split at h
  · cases h
  · rename_i h1
    cases h
    cases e : isS m x
    · rw [e] at h1; simp at h1
    · exact bt_move (isS_ks e).1 (isS_ks e).2
theorem bt_no {m : List UInt8} {x y : Rt} (h : has m x = (false, y)) : Bt 0 0 0 x y := by rw [has_no h]; exact Bt.refl x
theorem bt_has (m : List UInt8) (x : Rt) : Bt 0 0 0 x (has m x).2 := by
  rcases e : has m x with ⟨b, y⟩
  cases b
  · exact bt_no e
  · exact (bt_yes e).up (by omega) (by omega) (by omega)
theorem bt_must (m : List UInt8) (x : Rt) : Bt 8 0 0 x (must m x) := by
  unfold must
  rcases e : has m x with ⟨b, y⟩
  cases b
  · rw [has_no e]; exact bt_spoil 8 x
  · exact bt_yes e
theorem bt_rname (x : Rt) : Bt 8 0 0 x (rname x).2 := by
  unfold rname
  by_cases h : (x.bad || decide ((nx x).k ≠ 3)) = true
  · rw [if_pos h]; exact bt_spoil 8 x
  · rw [if_neg h]
    have hk : (nx x).k = 3 := by
      simp only [Bool.or_eq_true, decide_eq_true_eq, not_or, Decidable.not_not] at h
      exact h.2
    exact bt_move (by omega) (by omega)
theorem bt_ende (x : Rt) : Bt 0 0 0 x (ende x) := by
  unfold ende
  rcases e : has [59] x with ⟨b, y⟩
  cases b
  · have hy := has_no e
    subst hy
    simp only
    split
    · exact Bt.refl _
    · split
      · exact bt_spoil 0 _
      · exact Bt.refl _
  · exact (bt_yes e).up (by omega) (by omega) (by omega)
/-- Where it is bad nothing happens. -/
theorem bt_stop {b c : Nat} {x y : Rt} (h : x.bad = true) (e : y = x) : Bt b 0 c x y := fun g => by
  subst e
  exact ⟨g, Nat.le_refl _, fun h => ⟨h, by omega⟩, fun h2 => (by rw [h] at h2; cases h2), fun h2 => (by rw [h] at h2; cases h2)⟩
/-- Where it is not bad, what is said of that alone. -/
theorem Bt.good {b a c a' : Nat} {x y : Rt} (h : x.bad = false) (k : Bt b a c x y) : Bt b a' c x y := fun g => by
  obtain ⟨g1, t1, p1, q1, s1⟩ := k g
  exact ⟨g1, t1, fun h2 => (by rw [h] at h2; cases h2), q1, s1⟩
structure BtL (C : Nat) (L : Lr) : Prop where
  e : ∀ r, Bt 1 0 C r (L.e r).2
  u : ∀ r, Bt 1 0 C r (L.u r).2
  p : ∀ r, Bt 1 0 C r (L.p r).2
  s : ∀ r, Bt 0 0 C r (L.s r).2
section
variable {C : Nat} {L : Lr}
theorem bt_listLoop (h : BtL C L) (last : Bool) : ∀ (f : Nat) (l : List Nat) (r : Rt), Bt 0 0 C r (listLoop L last f l r).2
  | 0, l, r => (Bt.refl r).up (by omega) (by omega) (by omega)
  | f + 1, l, r => by
    unfold listLoop
    split
    · exact (Bt.refl r).up (by omega) (by omega) (by omega)
    · split
      · exact (Bt.refl r).up (by omega) (by omega) (by omega)
      · exact ((h.s r).then (bt_listLoop h last f _ _)).up (by omega) (by omega) (by omega)
theorem bt_list (h : BtL C L) (last : Bool) (r : Rt) : Bt 0 0 C r (list L last r).2 := bt_listLoop h last _ _ r
theorem bt_body (h : BtL C L) (r : Rt) : Bt 16 0 C r (body L r).2 := (((bt_must _ r).then (bt_list h false _)).then (bt_must _ _)).up (by omega) (by omega) (by omega)
theorem bt_block (h : BtL C L) (r : Rt) : Bt 1 1 (C + 1) r (block L r).2 := ((bt_body h r).up (b' := 2) (by omega) (Nat.le_refl _) (Nat.le_refl _)).put _
theorem bt_inner (h : BtL C L) (r : Rt) : Bt 0 0 C r (inner L r).2 := by
  unfold inner
  simp only
  split
  · split
    · exact (bt_spoil 0 r).up (by omega) (by omega) (by omega)
    · rename_i h; exact absurd rfl h
  · split
    · exact (Bt.refl r).up (by omega) (by omega) (by omega)
    · exact h.s r
theorem bt_namesLoop : ∀ (f : Nat) (l : List (List UInt8)) (r : Rt), Bt 0 0 0 r (namesLoop f l r).2
  | 0, l, r => Bt.refl r
  | f + 1, l, r => by
    unfold namesLoop
    split
    · rename_i e; exact bt_no e
    · rename_i e; exact (((bt_yes e).then (bt_rname _)).then (bt_namesLoop f _ _)).up (by omega) (by omega) (by omega)
theorem bt_pars (r : Rt) : Bt 0 0 0 r (pars r).2 := by
  unfold pars
  split
  · exact Bt.refl r
  · exact ((bt_rname r).then (bt_namesLoop _ _ _)).up (by omega) (by omega) (by omega)
theorem bt_fname (named : Bool) (r : Rt) : Bt 0 0 0 r (fname named r).2 := by
  unfold fname
  split
  · exact (bt_rname r).up (by omega) (by omega) (by omega)
  · exact Bt.refl r
theorem bt_func (h : BtL C L) (named : Bool) (r : Rt) : Bt 2 1 (C + 1) r (func L named r).2 :=
  Bt.put (b := 2) (a := 0) (c := C) (((((((bt_must _ r).then (bt_has [42] _)).then (bt_fname named _)).then (bt_must _ _)).then (bt_pars _)).then (bt_must _ _)).then (bt_body h _) |>.up (by omega) (by omega) (by omega)) _
theorem bt_commasLoop (h : BtL C L) : ∀ (f : Nat) (l : List Nat) (r : Rt), Bt 0 0 C r (commasLoop L f l r).2
  | 0, l, r => (Bt.refl r).up (by omega) (by omega) (by omega)
  | f + 1, l, r => by
    unfold commasLoop
    split
    · rename_i e; exact (bt_no e).up (by omega) (by omega) (by omega)
    · rename_i e; exact (((bt_yes e).then (h.e _)).then (bt_commasLoop h f _ _)).up (by omega) (by omega) (by omega)
theorem bt_commas (h : BtL C L) (m : List UInt8) (r : Rt) : Bt 8 0 C r (commas L m r).2 := by
  unfold commas
  split
  · rename_i e; exact (bt_yes e).up (by omega) (by omega) (by omega)
  · rename_i e; exact ((((bt_no e).then (h.e _)).then (bt_commasLoop h _ _ _)).then (bt_must _ _)).up (by omega) (by omega) (by omega)
theorem bt_binLoop (row : List (List UInt8)) {sub : Q Nat} {c : Nat} (hs : ∀ r, Bt 1 0 c r (sub r).2) : ∀ (f k : Nat) (r : Rt), Bt 0 0 (c + 1) r (binLoop row sub f k r).2
  | 0, k, r => (Bt.refl r).up (by omega) (by omega) (by omega)
  | f + 1, k, r => by
    unfold binLoop
    split
    · rename_i e
      simp only [Bool.and_eq_true, Bool.not_eq_true', decide_eq_true_eq] at e
      refine Bt.good e.1.1 (Bt.up (Bt.then (Bt.put (b := 8) (a := 0) (c := c) (((bt_move (by omega) (by omega)).then (hs _)).up (by omega) (by omega) (by omega)) _) (bt_binLoop row hs f _ _)) (by omega) (Nat.le_refl _) (by omega))
    · exact (Bt.refl r).up (by omega) (by omega) (by omega)
theorem bt_bin (h : BtL C L) : ∀ row r, Bt 1 0 (C + row.length) r (bin L row r).2
  | [], r => h.u r
  | row :: rest, r => ((bt_bin h rest r).then (bt_binLoop row (bt_bin h rest) _ _ _)).up (by omega) (by omega) (by simp only [List.length_cons]; omega)
theorem bt_cond (h : BtL C L) (r : Rt) : Bt 1 0 (C + 6) r (cond L r).2 := by
  have h0 : Bt 1 0 (C + 6) r (bin L rrows r).2 := bt_bin h rrows r
  unfold cond
  simp only
  split
  · exact h0
  · rename_i hk
    split
    · rename_i e; exact (h0.then (bt_no e)).up (by omega) (by omega) (by omega)
    · rename_i e
      have h1 := (((bt_yes e).then (h.e _)).then (bt_must [58] _))
      split
      · exact (h0.then h1).up (by omega) (by omega) (by omega)
      · have h2 := Bt.put (b := 8) (a := 0) (c := C) ((h1.then (h.e _)).up (by omega) (by omega) (by omega)) { k := 18, kids := [(bin L rrows r).1, (L.e (by assumption)).1, (L.e (must [58] (L.e (by assumption)).2)).1], a := ((L.e (must [58] (L.e (by assumption)).2)).2.nodes.getD (bin L rrows r).1 {}).a }
        exact (h0.then (Bt.good (by simpa using hk) h2 (a' := 0))).up (by omega) (by omega) (by omega)
theorem bt_assign (h : BtL C L) (r : Rt) : Bt 1 1 (C + 6) r (assign L r).2 := by
  unfold assign
  simp only
  split
  · rename_i e
    exact (Bt.put (b := 8) (a := 0) (c := C) (((bt_yes e).then (h.e _)).up (by omega) (by omega) (by omega)) _).up (by omega) (by omega) (by omega)
  · rename_i r1 e
    have h0 := ((bt_no e).then (bt_cond h r1)).up (b' := 1) (a' := 0) (c' := C + 6) (by omega) (by omega) (by omega)
    generalize cond L _ = k at *
    obtain ⟨k1, k2⟩ := k
    simp only at h0 ⊢
    cases hb : k2.bad
    · simp only [Bool.false_eq_true, if_false]
      generalize isTarget _ = tt
      cases tt
      · exact h0.up (by omega) (by omega) (by omega)
      · simp only [if_true]
        split
        · rename_i e'; exact (h0.then (bt_no e')).up (by omega) (by omega) (by omega)
        · rename_i r2 e'
          have h2 := Bt.put (b := 8) (a := 0) (c := C) (((bt_yes e').then (h.e _)).up (by omega) (by omega) (by omega)) { k := 19, kids := [k1, (L.e r2).1], a := ((L.e r2).2.nodes.getD k1 {}).a }
          exact (h0.then (Bt.good (a' := 0) hb h2)).up (by omega) (by omega) (by omega)
    · exact h0.up (by omega) (by omega) (by omega)
theorem bt_unary (h : BtL C L) (r : Rt) : Bt 1 1 (C + 1) r (unary L r).2 := by
  unfold unary
  cases e : (isS [33] r || isS [45] r || isS [116, 121, 112, 101, 111, 102] r)
  · exact (h.p r).up (by omega) (by omega) (by omega)
  · have hk : (nx r).k ≠ 0 ∧ (nx r).k ≠ 6 := by
      cases e1 : isS [33] r
      · cases e2 : isS [45] r
        · rw [e1, e2] at e; exact isS_ks e
        · exact isS_ks e2
      · exact isS_ks e1
    exact (Bt.put (b := 8) (a := 0) (c := C) (((bt_move hk.1 hk.2).then (h.u _)).up (by omega) (by omega) (by omega)) _).up (by omega) (by omega) (by omega)
theorem bt_objLoop (h : BtL C L) : ∀ (f : Nat) (N : List (List UInt8)) (K : List Nat) (r : Rt), Bt 0 0 C r (objLoop L f N K r).2
  | 0, N, K, r => (Bt.refl r).up (by omega) (by omega) (by omega)
  | f + 1, N, K, r => by
    unfold objLoop
    simp only
    split
    · split
      · rename_i hk
        split
        · exact (Bt.refl r).up (by omega) (by omega) (by omega)
        · have h1 := ((bt_move (x := r) (by omega) (by omega)).then (bt_must [58] _)).then (h.e _)
          split
          · rename_i e; exact (h1.then (bt_no e)).up (by omega) (by omega) (by omega)
          · rename_i e; exact ((h1.then (bt_yes e)).then (bt_objLoop h f _ _ _)).up (by omega) (by omega) (by omega)
      · split
        · exact (bt_spoil 0 r).up (by omega) (by omega) (by omega)
        · rename_i h; exact absurd rfl h
    · exact (Bt.refl r).up (by omega) (by omega) (by omega)
theorem bt_object (h : BtL C L) (a : Nat) (r : Rt) : Bt 0 1 (C + 1) r (object L a r).2 := by
  have h0 := bt_objLoop h (r.toks.length + 1) [] [] r
  unfold object
  split
  · rename_i e; rw [e] at h0; exact h0.up (by omega) (by omega) (by omega)
  · rename_i e
    rw [e] at h0
    exact (Bt.put (b := 7) (a := 0) (c := C) ((h0.then (bt_must [125] _)).up (by omega) (by omega) (by omega)) _).up (by omega) (by omega) (by omega)
theorem bt_first (h : BtL C L) (r : Rt) : Bt 1 1 (C + 1) r (first L r).2 := by
  unfold first
  simp only
  split
  · exact (Bt.put (b := 7) (a := 0) (c := 0) (bt_move (by omega) (by omega)) _).up (by omega) (by omega) (by omega)
  split
  · exact (Bt.put (b := 7) (a := 0) (c := 0) (bt_move (by omega) (by omega)) _).up (by omega) (by omega) (by omega)
  split
  · exact (Bt.put (b := 7) (a := 0) (c := 0) (bt_move (by omega) (by omega)) _).up (by omega) (by omega) (by omega)
  split
  · exact (Bt.put (b := 7) (a := 0) (c := 0) (bt_move (by omega) (by omega)) _).up (by omega) (by omega) (by omega)
  split
  · exact (bt_func h false r).up (by omega) (by omega) (by omega)
  split
  · rename_i e; exact (((bt_yes e).then (h.e _)).then (bt_must _ _)).up (by omega) (by omega) (by omega)
  rename_i e1
  have g1 := bt_no e1
  split
  · rename_i e
    exact (Bt.put (b := 8) (a := 0) (c := C) (((g1.then (bt_yes e)).then (bt_commas h _ _)).up (by omega) (by omega) (by omega)) _).up (by omega) (by omega) (by omega)
  rename_i e2
  have g2 := g1.then (bt_no e2)
  split
  · rename_i e; exact ((g2.then (bt_yes e)).then (bt_object h _ _)).up (by omega) (by omega) (by omega)
  · rename_i e; exact ((g2.then (bt_no e)).then (bt_spoil 1 _)).up (by omega) (by omega) (by omega)
theorem bt_postLoop (h : BtL C L) : ∀ (f k : Nat) (r : Rt), Bt 0 0 (C + 1) r (postLoop L f k r).2
  | 0, k, r => (Bt.refl r).up (by omega) (by omega) (by omega)
  | f + 1, k, r => by
    unfold postLoop
    simp only
    split
    · exact (Bt.refl r).up (by omega) (by omega) (by omega)
    rename_i hb
    have hb' : r.bad = false := by simpa using hb
    refine Bt.good hb' (a := 1) ?_
    split
    · rename_i e
      have g := bt_yes e
      split
      · exact (g.then (bt_spoil 0 _)).up (by omega) (by omega) (by omega)
      · have h1 := Bt.put (b := 8) (a := 0) (c := 0) ((g.then (bt_move (by omega) (by omega))).up (by omega) (by omega) (by omega))
        exact ((h1 _).then (bt_postLoop h f _ _)).up (by omega) (by omega) (by omega)
    rename_i e1
    have g1 := bt_no e1
    split
    · rename_i e
      have h1 := Bt.put (b := 8) (a := 0) (c := C) ((((g1.then (bt_yes e)).then (h.e _)).then (bt_must [93] _)).up (by omega) (by omega) (by omega))
      exact ((h1 _).then (bt_postLoop h f _ _)).up (by omega) (by omega) (by omega)
    rename_i e2
    have g2 := g1.then (bt_no e2)
    split
    · rename_i e
      have h1 := Bt.put (b := 8) (a := 0) (c := C) (((g2.then (bt_yes e)).then (bt_commas h [41] _)).up (by omega) (by omega) (by omega))
      exact ((h1 _).then (bt_postLoop h f _ _)).up (by omega) (by omega) (by omega)
    · rename_i e; exact (g2.then (bt_no e)).up (by omega) (by omega) (by omega)
theorem bt_post (h : BtL C L) (r : Rt) : Bt 1 1 (C + 1) r (post L r).2 := ((bt_first h r).then (bt_postLoop h _ _ _)).up (by omega) (by omega) (by omega)
theorem bt_one (h : BtL C L) (r : Rt) : Bt 0 9 (C + 6) r (one L r).2 := by
  unfold one
  simp only
  split
  · exact (bt_block h r).up (by omega) (by omega) (by omega)
  split
  · exact (Bt.put (b := 1) (a := 1) (c := C + 1) (bt_func h true r) _).up (by omega) (by omega) (by omega)
  split
  · rename_i e
    have g := (((((bt_yes e).then (bt_must [40] _)).then (h.e _)).then (bt_must [41] _)).then (bt_inner h _)).up (b' := 8) (a' := 0) (c' := C) (by omega) (by omega) (by omega)
    split
    · rename_i e'; exact (Bt.put (b := 1) (a := 0) (c := C) (((g.then (bt_yes e')).then (bt_inner h _)).up (by omega) (by omega) (by omega)) _).up (by omega) (by omega) (by omega)
    · rename_i e'; exact (Bt.put (b := 1) (a := 0) (c := C) ((g.then (bt_no e')).up (by omega) (by omega) (by omega)) _).up (by omega) (by omega) (by omega)
  rename_i e1
  have g1 := bt_no e1
  split
  · rename_i e
    exact (Bt.put (b := 1) (a := 0) (c := C) ((((((g1.then (bt_yes e)).then (bt_must [40] _)).then (h.e _)).then (bt_must [41] _)).then (bt_inner h _)).up (by omega) (by omega) (by omega)) _).up (by omega) (by omega) (by omega)
  rename_i e2
  have g2 := g1.then (bt_no e2)
  split
  · rename_i e; exact (Bt.put (b := 1) (a := 0) (c := C) (((g2.then (bt_yes e)).then (bt_ende _)).up (by omega) (by omega) (by omega)) _).up (by omega) (by omega) (by omega)
  rename_i e3
  have g3 := g2.then (bt_no e3)
  split
  · rename_i e; exact (Bt.put (b := 1) (a := 0) (c := C) (((g3.then (bt_yes e)).then (bt_ende _)).up (by omega) (by omega) (by omega)) _).up (by omega) (by omega) (by omega)
  rename_i e4
  have g4 := g3.then (bt_no e4)
  split
  · rename_i e
    have g := g4.then (bt_yes e)
    split
    · exact (Bt.put (b := 1) (a := 0) (c := C) (((g.then (h.e _)).then (bt_ende _)).up (by omega) (by omega) (by omega)) _).up (by omega) (by omega) (by omega)
    · exact (Bt.put (b := 1) (a := 0) (c := C) ((g.then (bt_ende _)).up (by omega) (by omega) (by omega)) _).up (by omega) (by omega) (by omega)
  rename_i e5
  have g5 := g4.then (bt_no e5)
  split
  · rename_i e
    have g := g5.then (bt_yes e)
    split
    · exact (Bt.put (b := 1) (a := 0) (c := C) ((((g.then (bt_spoil 0 _)).then (h.e _)).then (bt_ende _)).up (by omega) (by omega) (by omega)) _).up (by omega) (by omega) (by omega)
    · exact (Bt.put (b := 1) (a := 0) (c := C) (((g.then (h.e _)).then (bt_ende _)).up (by omega) (by omega) (by omega)) _).up (by omega) (by omega) (by omega)
  rename_i e6
  have g6 := g5.then (bt_no e6)
  split
  · rename_i e
    exact (Bt.put (b := 1) (a := 2) (c := C + 2) (((((((g6.then (bt_yes e)).then (bt_block h _)).then (bt_must _ _)).then (bt_must _ _)).then (bt_rname _)).then (bt_must _ _)).then (bt_block h _) |>.up (by omega) (by omega) (by omega)) _).up (by omega) (by omega) (by omega)
  rename_i r7 e7
  have g7 := g6.then (bt_no e7)
  cases e : (isS [108, 101, 116] r7 || isS [99, 111, 110, 115, 116] r7)
  · have g8 := (g7.then (h.e r7)).then (bt_ende _)
    rw [if_neg (by simp)]
    split
    · exact g8.up (by omega) (by omega) (by omega)
    · exact (Bt.put (b := 0) (a := 0) (c := C) (g8.up (by omega) (by omega) (by omega)) _).up (by omega) (by omega) (by omega)
  · rw [if_pos rfl]
    have hk : (nx r7).k ≠ 0 ∧ (nx r7).k ≠ 6 := by
      cases e1 : isS [108, 101, 116] r7
      · rw [e1] at e; exact isS_ks e
      · exact isS_ks e1
    exact (Bt.put (b := 1) (a := 0) (c := C) ((((((g7.then (bt_move hk.1 hk.2)).then (bt_rname _)).then (bt_must [61] _)).then (h.e _)).then (bt_ende _)).up (by omega) (by omega) (by omega)) _).up (by omega) (by omega) (by omega)
theorem bt_deeper {f : Q Nat} {b a c : Nat} (hf : ∀ r, Bt b a c r (f r).2) (r : Rt) : Bt b 0 c r (deeper f r).2 := by
  unfold deeper
  by_cases h : r.bad = true
  · rw [if_pos h]; exact bt_stop h rfl
  · rw [if_neg h]; exact Bt.good (by simpa using h) (hf r)
end
theorem bt_rl : ∀ d, BtL (6 * d) (rl d)
  | 0 => ⟨fun r => (bt_spoil 1 r).up (by omega) (by omega) (by omega), fun r => (bt_spoil 1 r).up (by omega) (by omega) (by omega), fun r => (bt_spoil 1 r).up (by omega) (by omega) (by omega), fun r => (bt_spoil 0 r).up (by omega) (by omega) (by omega)⟩
  | d + 1 => by
    have h := bt_rl d
    exact ⟨fun r => (bt_deeper (bt_assign h) r).up (by omega) (by omega) (by omega), fun r => (bt_deeper (bt_unary h) r).up (by omega) (by omega) (by omega), fun r => (bt_deeper (bt_post h) r).up (by omega) (by omega) (by omega), fun r => (bt_deeper (bt_one h) r).up (by omega) (by omega) (by omega)⟩
/-- A program's nodes are few. -/
theorem few (r : Rt) (g : Gd r) (hb : r.bad = false) (hn : r.nodes = []) (ht : r.toks.length ≤ 4097) : (list (rl 40) true r).2.nodes.length ≤ 40000 := by
  obtain ⟨_, _, _, q, s⟩ := bt_list (bt_rl 40) true r g
  rw [hn] at q s
  simp only [List.length_nil] at q s
  cases h : (list (rl 40) true r).2.bad
  · have := q hb h; omega
  · have := s hb h; omega
end Go.Proofs.Ytkaacmghgobhmaa.Rp
end
section
namespace Go.Proofs.Ytkaacmghgobhmaa.Rp
open Lx
theorem run_lens (l : List UInt8) : ∀ (f p : Nat), p ≤ l.length → l.length < p + f → 1 ≤ (run l f p).length ∧ (run l f p).length + p ≤ l.length + 1 ∧ ∀ T, (run l f p).getLast? = some T → T.k = 0 ∨ T.k = 6
  | 0, p, hp, hf => by omega
  | f + 1, p, hp, hf => by
    unfold run
    split
    · rename_i h
      refine ⟨by simp, by simp; omega, fun T hT => ?_⟩
      have : T = tok l p := by simpa using hT.symm
      rw [this]; exact h
    · rename_i h
      have h1 := tok_ok l p hp
      have h5 := h1.2.2.2.2.1 (fun e => h (.inl e)) (fun e => h (.inr e))
      have ih := run_lens l f (tok l p).e h1.2.2.1 (by omega)
      refine ⟨by simp, by rw [List.length_cons]; omega, fun T hT => ih.2.2 T ?_⟩
      rw [List.getLast?_cons] at hT
      cases hg : (run l f (tok l p).e).getLast? with
      | none => have := ih.1; rw [List.getLast?_eq_none_iff] at hg; rw [hg] at this; simp at this
      | some U => rw [hg] at hT; simpa using hT
theorem all_lens (l : List UInt8) : 1 ≤ (all l).length ∧ (all l).length ≤ l.length + 1 ∧ ∀ T, (all l).getLast? = some T → T.k = 0 ∨ T.k = 6 := by
  have := run_lens l (l.length + 1) 0 (by omega) (by omega)
  exact ⟨this.1, by have := this.2.1; unfold all; omega, this.2.2⟩
theorem gd_alls (l : List UInt8) : Gd ⟨Lx.all l, [], false⟩ := ⟨(all_lens l).1, (all_lens l).2.2⟩
theorem fews (l : List UInt8) (h : l.length ≤ 4096) : (list (rl 40) true ⟨Lx.all l, [], false⟩).2.nodes.length ≤ 40000 := few _ (gd_alls l) rfl rfl (by have := (all_lens l).2.1; show (Lx.all l).length ≤ _; omega)
end Go.Proofs.Ytkaacmghgobhmaa.Rp
end
section
namespace Go.Proofs.Ytkaacmghgobhmaa.Sr
theorem setKids_snoc : ∀ (K : List Nat) (k i : Nat) (u : List Int), setKids (K ++ [k]) i u = (setKids K i u).set k (i : Int)
  | [], k, i, u => rfl
  | x :: K, k, i, u => by rw [List.cons_append, setKids, setKids, setKids_snoc K]
end Go.Proofs.Ytkaacmghgobhmaa.Sr
namespace Go.Proofs.Ytkaacmghgobhmaa.Rp
theorem okB_kind {n : Ps.Nd} {ks : List Nat} (h : okB n ks = true) : n.k ≤ 33 := by
  unfold okB at h
  by_cases c1 : n.k = 8
  · omega
  rw [if_neg c1] at h
  by_cases c2 : n.k = 9
  · omega
  rw [if_neg c2] at h
  by_cases c3 : n.k = 10 ∨ n.k = 25 ∨ n.k = 33
  · omega
  rw [if_neg c3] at h
  by_cases c4 : n.k = 11 ∨ n.k = 14 ∨ n.k = 20 ∨ n.k = 21 ∨ n.k = 22 ∨ n.k = 24 ∨ n.k = 31
  · omega
  rw [if_neg c4] at h
  by_cases c5 : n.k = 12 ∨ n.k = 15 ∨ n.k = 16 ∨ n.k = 17 ∨ n.k = 19
  · omega
  rw [if_neg c5] at h
  by_cases c6 : n.k = 13
  · omega
  rw [if_neg c6] at h
  by_cases c7 : n.k = 18
  · omega
  rw [if_neg c7] at h
  by_cases c8 : n.k = 23
  · omega
  rw [if_neg c8] at h
  by_cases c9 : n.k = 26
  · omega
  rw [if_neg c9] at h
  by_cases c10 : n.k = 27
  · omega
  rw [if_neg c10] at h
  by_cases c11 : n.k = 30
  · omega
  rw [if_neg c11] at h
  by_cases c12 : n.k = 32
  · omega
  rw [if_neg c12, Bool.and_eq_true] at h
  exact of_decide_eq_true h.1
end Go.Proofs.Ytkaacmghgobhmaa.Rp
namespace Go.Proofs.Ytkaacmghgobhmaa.Rd
open Go.RowKit
open L (tkA own_block own_below info_of wpList_append_run)
open Rp (Wf kindAt kidsAt)
set_option linter.unusedVariables false
/-- What a program's tree holds is little. -/
theorem fit_rparse (src : List UInt8) (h : (Rp.rparse src).2.2 = true) : Fit (Rp.rparse src).1 := by
  have hw := Rp.rparse_wf src h
  have hs := Rp.rparse_short src
  have hfew : (Rp.rparse src).1.length ≤ 1000000 ∧ ∀ x ∈ (Rp.rparse src).1, x.names.length ≤ 1000000 ∧ x.kids.length ≤ 1000000 := by
    rw [rparse_fin]
    by_cases h : 4096 < src.length
    · rw [if_pos h]; exact ⟨by simp, by simp⟩
    rw [if_neg h]
    split
    · exact ⟨by simp, by simp⟩
    · have h1 : (fin src).2.nodes.length ≤ 40000 := Rp.fews src (by omega)
      obtain ⟨h2, h3⟩ := Rp.few_in ⟨Lx.all src, [], false⟩ (Rp.gd_alls src) rfl (by have := (Rp.all_lens src).2.1; show (Lx.all src).length ≤ _; omega)
      have h2 : ∀ n ∈ (fin src).2.nodes, Rp.Sm1 n := h2
      have h3 : (fin src).1.length ≤ 4098 := h3
      show ((fin src).2.nodes ++ [_]).length ≤ _ ∧ ∀ x ∈ (fin src).2.nodes ++ [_], _
      refine ⟨by rw [List.length_append, List.length_singleton]; omega, fun x hx => ?_⟩
      rcases List.mem_append.1 hx with hx | hx
      · have := h2 x hx; exact ⟨by have := this.1; omega, by have := this.2; omega⟩
      · rw [List.mem_singleton] at hx
        subst hx
        exact ⟨by simp, by show (fin src).1.length ≤ _; omega⟩
  generalize (Rp.rparse src).1 = l at *
  have hat : ∀ x ∈ l, ∃ a, a < l.length ∧ l.getD a {} = x := fun x hx => by
    obtain ⟨a, ha, e⟩ := List.getElem_of_mem hx
    exact ⟨a, ha, by rw [Sr.getD_at ha]; exact e⟩
  refine ⟨hw.last.1, hfew.1, fun x hx => ⟨(hfew.2 x hx).1, (hfew.2 x hx).2, fun k hk => ?_⟩, fun x hx => ?_, fun x hx => ?_⟩
  · obtain ⟨a, ha, e⟩ := hat x hx
    have := hw.kid a ha k (by unfold kidsAt; rw [e]; exact hk)
    have := hfew.1
    omega
  · obtain ⟨a, ha, e⟩ := hat x hx
    have := Rp.okB_kind (hw.ok a ha)
    rw [e] at this; omega
  · have := hs x hx
    exact ⟨by have := this.1; omega, fun y hy => by have := this.2 y hy; omega⟩
def IntsAt (W : World) (R : Nat) (U : List Int) : Prop := W.heap[R]? = some (.cells (intsV U) 3 (0, 0))
theorem IntsAt.lt {W : World} {R : Nat} {U : List Int} (h : IntsAt W R U) : R < W.heap.size := lt_of_some h
theorem IntsAt.cell {W : World} {R k : Nat} {U : List Int} (h : IntsAt W R U) (hk : k < U.length) : W.cell? ⟨R, k, none⟩ = some (.int .i64 (U.getD k 0)) ∧ W.frozen? ⟨R, k, none⟩ = false := by
  refine ⟨?_, by unfold World.frozen?; rw [h]; rfl⟩
  unfold World.cell?
  rw [h]
  simp [List.getElem?_eq_getElem hk]
theorem IntsAt.below {W W' : World} {R : Nat} {U : List Int} (h : IntsAt W R U) (hb : Below W.heap.size W W') : IntsAt W' R U := (hb.block _ h.lt).trans h
theorem IntsAt.set {W : World} {R k : Nat} {U : List Int} (h : IntsAt W R U) (v : Int) : IntsAt (W.setCell ⟨R, k, none⟩ (.int .i64 v)) R (U.set k v) := ints_set h v
/-- A node's kids, as they lie. -/
theorem Told.kidsIn {W : World} {v : Value} {l : List Ps.Nd} (h : Told W v l) (hl : l ≠ []) : ∃ g cap, v = .slice (some ⟨g, 0, none⟩) l.length cap ∧ g < W.heap.size ∧ l.length ≤ cap ∧ ∀ a, a < l.length → ∃ (ak : Option Addr) (ck : Nat), W.cell? ⟨g, a * 6 + 4, none⟩ = some (.slice ak (kidsAt l a).length ck) ∧ (kidsAt l a).length ≤ ck ∧ ∀ j (hj : j < (kidsAt l a).length), ∃ gk, ak = some ⟨gk, 0, none⟩ ∧ gk < W.heap.size ∧ W.cell? ⟨gk, j, none⟩ = some (.int .i64 ((kidsAt l a)[j] : Int)) := by
  obtain ⟨ad, cap, rfl⟩ := h.slice
  obtain ⟨g, rfl, _, hg, hc, H⟩ := h.both hl
  refine ⟨g, cap, rfl, hg, hc, fun a ha => ?_⟩
  obtain ⟨an, ak, cn, ck, h1, _, h3⟩ := H a ha
  have ek : kidsAt l a = l[a].kids := by unfold kidsAt; rw [Sr.getD_at ha]
  obtain ⟨ad, cp, e, k1, k2⟩ := h3
  simp only [Value.slice.injEq] at e
  obtain ⟨rfl, _, rfl⟩ := e
  rw [ek]
  refine ⟨ak, ck, h1 4 (by omega), k1, fun j hj => ?_⟩
  rcases k2 with k2 | ⟨gk, e, hgk, hc⟩
  · rw [k2] at hj; simp at hj
  · exact ⟨gk, e, hgk, hc j hj⟩
set_option maxRecDepth 100000 in
set_option maxHeartbeats 4000000 in
theorem around_core (w : World) (g n cap : Nat) (l : List Ps.Nd) (hn : l.length = n) (hnn : n ≤ 1000000) (hcap : n ≤ cap) (hg : g < w.heap.size) (HW : Hid (Wf l)) (HS : Hid (∀ a, a < n → (kidsAt l a).length ≤ 1000000))
    (HK : Hid (∀ a, a < n → ∃ (ak : Option Addr) (ck : Nat), w.cell? ⟨g, a * 6 + 4, none⟩ = some (.slice ak (kidsAt l a).length ck) ∧ (kidsAt l a).length ≤ ck ∧ ∀ j (hj : j < (kidsAt l a).length), ∃ gk, ak = some ⟨gk, 0, none⟩ ∧ gk < w.heap.size ∧ w.cell? ⟨gk, j, none⟩ = some (.int .i64 ((kidsAt l a)[j] : Int)))) :
    Calls Try.prog 26 #[.slice (some ⟨g, 0, none⟩) n cap] w fun e w' => ∃ R, e = .returned (.slice (some ⟨R, 0, none⟩) n n) ∧ w.heap.size ≤ R ∧ Below w.heap.size w w' ∧ IntsAt w' R (Sr.around l) := by
  obtain ⟨M, hM, _, hmk⟩ := make_ints n hnn
  have HNN : Hid (l.length = n) := hn
  go_enter Try.func26, Try.ntmps26
  have H0 : Hid (Below w.heap.size w (w.alloc (.cells M 3)) ∧ FillAt (w.alloc (.cells M 3)) w.heap.size n 0) := ⟨(Below.refl _ _).alloc (Nat.le_refl _) _, M, (MapKept.heap_alloc w _).1, hM, fun j hj => by omega⟩
  go_wp2_with fail
  go_loopw [4] (fun i W => ∃ k : Nat, k ≤ n ∧ i = .int .i64 (k : Int) ∧ Hid (Below w.heap.size w W ∧ FillAt W w.heap.size n k)) (fun i _ => n - (L.intOf i).toNat)
  case atStart => exact ⟨0, by omega, rfl, H0⟩
  case round =>
    obtain ⟨k, hk, rfl, HW1⟩ := hrel
    clear H0
    by_cases hkn : k < n
    · have hkn' : (k : Int) < n := by omega
      have hk0 : (0 : Int) ≤ k := by omega
      obtain ⟨M1, m1, m2, m3⟩ := HW1.out.2
      have hRl : w.heap.size < wr.heap.size := lt_of_some m1
      obtain ⟨u, cu⟩ : ∃ u, wr.cell? ⟨w.heap.size, k, none⟩ = some u := ⟨M1[k], by unfold World.cell?; rw [m1]; exact Array.getElem?_eq_getElem (by show k < M1.size; omega)⟩
      have fu : wr.frozen? ⟨w.heap.size, k, none⟩ = false := by unfold World.frozen?; rw [m1]; rfl
      have H1 : Hid (Below w.heap.size w (wr.setCell ⟨w.heap.size, k, none⟩ (.int .i64 (-1))) ∧ FillAt (wr.setCell ⟨w.heap.size, k, none⟩ (.int .i64 (-1))) w.heap.size n (k + 1)) := ⟨HW1.out.1.setCell (Nat.le_refl _) _, HW1.out.2.set hkn⟩
      clear m1 m2 m3 HW1
      go_wp2_with fail
      go_roundw
      case rel => exact ⟨k + 1, by omega, by go_num, H1⟩
      case measure => simp [L.intOf] <;> omega
    · have hkn' : ¬ (k : Int) < n := by omega
      have : k = n := by omega
      subst this
      have H2 : Hid (Below w.heap.size w wr ∧ IntsAt wr w.heap.size (Sr.aroundTo l 0)) := ⟨HW1.out.1, by show _ = _; rw [Sr.aroundTo, HNN.out]; exact HW1.out.2.full⟩
      clear HW1
      go_wp2_with fail
      go_loopw [5] (fun i W => ∃ q : Nat, q ≤ k ∧ i = .int .i64 (q : Int) ∧ Hid (Below w.heap.size w W ∧ IntsAt W w.heap.size (Sr.aroundTo l q))) (fun i _ => k - (L.intOf i).toNat)
      case atStart => exact ⟨0, by omega, rfl, H2⟩
      case round =>
        obtain ⟨q, hq, rfl, HW2⟩ := hrel
        clear H2
        by_cases hqk : q < k
        · have hqk' : (q : Int) < k := by omega
          have hq0 : (0 : Int) ≤ q := by omega
          have HKQ : Hid (_) := HK.out q hqk
          have hsm := HS.out q hqk
          have hwk : ∀ j (hj : j < (kidsAt l q).length), (kidsAt l q)[j] < k := fun j hj => by have := HW.out.kid q (by rw [HNN.out]; exact hqk) _ (List.getElem_mem hj); omega
          have HWK : Hid (_) := hwk
          have H3 : Hid (Below w.heap.size w wr ∧ IntsAt wr w.heap.size (Sr.setKids ((kidsAt l q).take 0) q (Sr.aroundTo l q))) := HW2
          have hlen : (Sr.aroundTo l q).length = k := by rw [Sr.aroundTo_len]; exact HNN.out
          have HLN : Hid (∀ K, (Sr.setKids K q (Sr.aroundTo l q)).length = k) := fun K => by rw [Sr.setKids_len]; exact hlen
          have HEND : Hid (Sr.setKids ((kidsAt l q).take (kidsAt l q).length) q (Sr.aroundTo l q) = Sr.aroundTo l (q + 1)) := by show _ = _; rw [List.take_length]; rfl
          clear HW2 hwk hlen
          generalize Sr.aroundTo l q = U at *
          go_wp2_with fail
          go_loopw [6] (fun i W => ∃ j : Nat, j ≤ (kidsAt l q).length ∧ i = .int .i64 (j : Int) ∧ Hid (Below w.heap.size w W ∧ IntsAt W w.heap.size (Sr.setKids ((kidsAt l q).take j) q U))) (fun i _ => (kidsAt l q).length - (L.intOf i).toNat)
          case atStart => exact ⟨0, by omega, rfl, H3⟩
          case round =>
            obtain ⟨j, hj, rfl, HW3⟩ := hrel
            clear H3
            obtain ⟨ak, ck, c1, c2, c3⟩ := HKQ.out
            have d1 := (HW3.out.1.cell (p := ⟨g, q * 6 + 4, none⟩) hg).trans c1
            have hg' := Nat.lt_of_lt_of_le hg HW3.out.1.size
            by_cases hjm : j < (kidsAt l q).length
            · have hjm' : (j : Int) < (kidsAt l q).length := by omega
              have hj0 : (0 : Int) ≤ j := by omega
              obtain ⟨gk, rfl, hgk, c4⟩ := c3 j hjm
              have d2 := (HW3.out.1.cell (p := ⟨gk, j, none⟩) hgk).trans c4
              have hgk' := Nat.lt_of_lt_of_le hgk HW3.out.1.size
              have hxk := HWK.out j hjm
              have hxk' : (((kidsAt l q)[j] : Nat) : Int) < k := by omega
              have hx0 : (0 : Int) ≤ ((kidsAt l q)[j] : Nat) := by omega
              obtain ⟨cu, fu⟩ := HW3.out.2.cell (k := (kidsAt l q)[j]) (by rw [HLN.out]; exact hxk)
              have hRl := HW3.out.2.lt
              have htk : (kidsAt l q).take (j + 1) = (kidsAt l q).take j ++ [(kidsAt l q)[j]] := List.take_succ_eq_append_getElem hjm
              have H4 : Hid (Below w.heap.size w (wr.setCell ⟨w.heap.size, (kidsAt l q)[j], none⟩ (.int .i64 (q : Int))) ∧ IntsAt (wr.setCell ⟨w.heap.size, (kidsAt l q)[j], none⟩ (.int .i64 (q : Int))) w.heap.size (Sr.setKids ((kidsAt l q).take (j + 1)) q U)) := ⟨HW3.out.1.setCell (Nat.le_refl _) _, by rw [htk, Sr.setKids_snoc]; exact HW3.out.2.set _⟩
              clear HW3 c3 c4 c1 htk HWK HLN HKQ
              generalize (kidsAt l q)[j] = x at *
              generalize (Sr.setKids (List.take j (kidsAt l q)) q U).getD x 0 = y at *
              go_wp2_with fail
              go_roundw
              case rel => exact ⟨j + 1, by omega, by go_num, H4⟩
              case measure => simp [L.intOf] <;> omega
            · have hjm' : ¬ (j : Int) < (kidsAt l q).length := by omega
              have : j = (kidsAt l q).length := by omega
              have H5 : Hid (Below w.heap.size w wr ∧ IntsAt wr w.heap.size (Sr.aroundTo l (q + 1))) := ⟨HW3.out.1, by rw [← HEND.out, ← this]; exact HW3.out.2⟩
              clear HW3 c3 c1 HKQ HWK HLN HEND
              go_wp2_with fail
              go_roundw
              case rel => exact ⟨q + 1, by omega, by go_num, H5⟩
              case measure => simp [L.intOf] <;> omega
        · have hqk' : ¬ (q : Int) < k := by omega
          have : q = k := by omega
          subst this
          go_wp2_with fail
          go_ret
          exact ⟨_, rfl, Nat.le_refl _, HW2.out.1, by show IntsAt _ _ (Sr.aroundTo l l.length); rw [HNN.out]; exact HW2.out.2⟩
theorem around_any {w : World} {l : List Ps.Nd} {nv : Value} (hf : Fit l) (hw : Wf l) (ht : Told w nv l) :
    Calls Try.prog 26 #[nv] w fun e w' => ∃ R, e = .returned (.slice (some ⟨R, 0, none⟩) l.length l.length) ∧ w.heap.size ≤ R ∧ Below w.heap.size w w' ∧ IntsAt w' R (Sr.around l) := by
  obtain ⟨g, cap, rfl, hg, hc, H⟩ := ht.kidsIn hf.ne
  exact around_core w g l.length cap l rfl hf.few hc hg hw (fun a ha => by have := (hf.small _ (List.getElem_mem ha)).2.1; unfold kidsAt; rw [Sr.getD_at ha]; exact this) H
end Go.Proofs.Ytkaacmghgobhmaa.Rd
end
section
namespace Go.Proofs.Ytkaacmghgobhmaa.Sr
theorem idx_at (s : List UInt8) : ∀ (N : List (List UInt8)) (k : Nat) (h : k < N.length), N[k] = s → (∀ j (hj : j < N.length), j < k → N[j] ≠ s) → N.idxOf? s = some k
  | [], k, h, _, _ => by simp at h
  | x :: N, 0, h, e, _ => by
    have e : x = s := e
    subst e
    simp [List.idxOf?, List.findIdx?_cons]
  | x :: N, k + 1, h, e, hn => by
    have h0 : x ≠ s := hn 0 (by simp) (by omega)
    have hk : k < N.length := by simpa using h
    have ih := idx_at s N k hk e (fun j hj hlt => hn (j + 1) (by simp; omega) (by omega))
    unfold List.idxOf? at ih ⊢
    rw [List.findIdx?_cons]
    have hb : (x == s) = false := by rw [beq_eq_false_iff_ne]; exact h0
    rw [hb, ih]
    rfl
theorem idx_no {s : List UInt8} {N : List (List UInt8)} (h : ∀ j (hj : j < N.length), N[j] ≠ s) : N.idxOf? s = none := by
  rw [List.idxOf?_eq_none_iff]
  intro hm
  obtain ⟨j, hj, e⟩ := List.getElem_of_mem hm
  exact h j hj e
theorem decls_snoc (l : List Ps.Nd) (K : List Nat) (k : Nat) : decls l (K ++ [k]) = decls l K ++ (if isD (Rp.kindAt l k) then [k] else []) := by
  unfold decls
  rw [List.filter_append]
  cases h : isD (Rp.kindAt l k) <;> simp [h]
theorem decls_len (l : List Ps.Nd) (K : List Nat) : (decls l K).length ≤ K.length := List.length_filter_le _ _
end Go.Proofs.Ytkaacmghgobhmaa.Sr
namespace Go.Proofs.Ytkaacmghgobhmaa.Rd
open Go.RowKit
open L (tkA own_block own_below info_of wpList_append_run)
open Rp (Wf kindAt kidsAt)
set_option linter.unusedVariables false
set_option maxRecDepth 100000 in
set_option maxHeartbeats 1000000 in
theorem place_any (w : World) (ad : Option Addr) (m cap : Nat) (s : List UInt8) (N : List (List UInt8)) (h : NamesIn w (.slice ad m cap) N) (hn : N.length ≤ 100000000) :
    Calls Try.prog 28 #[.slice ad m cap, .string ⟨s.toArray⟩] w fun e w' => e = .returned (.int .i64 (Sr.place N s)) ∧ w' = w := by
  obtain ⟨ad', cap', e, hc, hcell⟩ := h
  simp only [Value.slice.injEq] at e
  obtain ⟨rfl, rfl, rfl⟩ := e
  have HC : Hid (_) := hcell
  clear hcell
  generalize hr : Sr.place N s = r
  go_enter Try.func28, Try.ntmps28
  go_wp2_with fail
  go_loop [5] (fun i => ∃ k : Nat, k ≤ N.length ∧ i = .int .i64 (k : Int) ∧ Hid (∀ j (hj : j < N.length), j < k → N[j] ≠ s)) (fun i => N.length - (L.intOf i).toNat)
  case atStart => exact ⟨0, by omega, rfl, (show ∀ j (hj : j < N.length), j < 0 → N[j] ≠ s from fun j _ h => by omega)⟩
  case round =>
    obtain ⟨k, hk, rfl, HN⟩ := hrel
    by_cases hkn : k < N.length
    · have hkn' : (k : Int) < N.length := by omega
      have hk0 : (0 : Int) ≤ k := by omega
      obtain ⟨g, rfl, hg, c⟩ := HC.out.resolve_left (fun e => by rw [e] at hkn; simp at hkn)
      have ck := c k hkn
      by_cases hx : N[k] = s
      · rw [hx] at ck
        have hp : Sr.place N s = (k : Int) := by unfold Sr.place; rw [Sr.idx_at s N k hkn hx HN.out]
        rw [hp] at hr
        subst hr
        clear HN HC c hx hp
        go_wp2_with fail
        go_ret
        exact ⟨rfl, rfl⟩
      · have hb : (N[k] == s) = false := by rw [beq_eq_false_iff_ne]; exact hx
        have HN1 : Hid (∀ j (hj : j < N.length), j < k + 1 → N[j] ≠ s) := (show ∀ j (hj : j < N.length), j < k + 1 → N[j] ≠ s from fun j hj h => by
          by_cases e : j = k
          · subst e; exact hx
          · exact HN.out j hj (by omega))
        clear HN c hx
        generalize N[k] = x at *
        go_wp2_with fail
        go_round
        case rel => exact ⟨k + 1, by omega, by go_num, HN1⟩
        case measure => simp [L.intOf]; omega
    · have hkn' : ¬ (k : Int) < N.length := by omega
      have hp : Sr.place N s = -1 := by unfold Sr.place; rw [Sr.idx_no (fun j hj => HN.out j hj (by omega))]
      rw [hp] at hr
      subst hr
      clear HN HC hp
      go_wp2_with fail
      go_ret
      exact ⟨rfl, rfl⟩
/-- A node, as it lies. -/
def NodeIn (W : World) (g : Nat) (l : List Ps.Nd) (a : Nat) : Prop := ∃ (an ak : Option Addr) (cn ck : Nat), W.cell? ⟨g, a * 6, none⟩ = some (.int .i64 (kindAt l a : Int)) ∧ W.cell? ⟨g, a * 6 + 2, none⟩ = some (.string ⟨(l.getD a {}).t.toArray⟩) ∧ W.cell? ⟨g, a * 6 + 3, none⟩ = some (.slice an (l.getD a {}).names.length cn) ∧ W.cell? ⟨g, a * 6 + 4, none⟩ = some (.slice ak (kidsAt l a).length ck) ∧
  NamesIn W (.slice an (l.getD a {}).names.length cn) (l.getD a {}).names ∧ (kidsAt l a).length ≤ ck ∧ ∀ j (hj : j < (kidsAt l a).length), ∃ gk, ak = some ⟨gk, 0, none⟩ ∧ gk < W.heap.size ∧ W.cell? ⟨gk, j, none⟩ = some (.int .i64 ((kidsAt l a)[j] : Int))
theorem NodeIn.below {W W' : World} {g a : Nat} {l : List Ps.Nd} (h : NodeIn W g l a) (hg : g < W.heap.size) (hb : Below W.heap.size W W') : NodeIn W' g l a := by
  obtain ⟨an, ak, cn, ck, h1, h2, h3, h4, h5, h6, h7⟩ := h
  refine ⟨an, ak, cn, ck, (hb.cell (p := ⟨g, a * 6, none⟩) hg).trans h1, (hb.cell (p := ⟨g, a * 6 + 2, none⟩) hg).trans h2, (hb.cell (p := ⟨g, a * 6 + 3, none⟩) hg).trans h3, (hb.cell (p := ⟨g, a * 6 + 4, none⟩) hg).trans h4, h5.below hb, h6, fun j hj => ?_⟩
  obtain ⟨gk, e, q1, q2⟩ := h7 j hj
  exact ⟨gk, e, Nat.lt_of_lt_of_le q1 hb.size, (hb.cell (p := ⟨gk, j, none⟩) q1).trans q2⟩
/-- A tree, as it lies. -/
structure TreeIn (W : World) (g cap : Nat) (l : List Ps.Nd) : Prop where
  wf : Wf l
  fit : Fit l
  lt : g < W.heap.size
  cap : l.length ≤ cap
  nd : ∀ a, a < l.length → NodeIn W g l a
theorem TreeIn.below {W W' : World} {g cap : Nat} {l : List Ps.Nd} (h : TreeIn W g cap l) (hb : Below W.heap.size W W') : TreeIn W' g cap l :=
  ⟨h.wf, h.fit, Nat.lt_of_lt_of_le h.lt hb.size, h.cap, fun a ha => (h.nd a ha).below h.lt hb⟩
theorem Told.treeIn {W : World} {v : Value} {l : List Ps.Nd} (h : Told W v l) (hf : Fit l) (hw : Wf l) : ∃ g cap, v = .slice (some ⟨g, 0, none⟩) l.length cap ∧ TreeIn W g cap l := by
  obtain ⟨ad, cap, rfl⟩ := h.slice
  obtain ⟨g, rfl, _, hg, hc, H⟩ := h.both hf.ne
  refine ⟨g, cap, rfl, hw, hf, hg, hc, fun a ha => ?_⟩
  obtain ⟨an, ak, cn, ck, h1, h2, h3⟩ := H a ha
  have ek : kidsAt l a = l[a].kids := by unfold kidsAt; rw [Sr.getD_at ha]
  have ekk : kindAt l a = l[a].k := by unfold kindAt; rw [Sr.getD_at ha]
  obtain ⟨ad, cp, e, k1, k2⟩ := h3
  simp only [Value.slice.injEq] at e
  obtain ⟨rfl, _, rfl⟩ := e
  unfold NodeIn
  rw [ek, ekk, Sr.getD_at ha]
  refine ⟨an, ak, cn, ck, h1 0 (by omega), h1 2 (by omega), h1 3 (by omega), h1 4 (by omega), h2, k1, fun j hj => ?_⟩
  rcases k2 with k2 | ⟨gk, e, hgk, hc⟩
  · rw [k2] at hj; simp at hj
  · exact ⟨gk, e, hgk, hc j hj⟩
theorem TreeIn.small {W : World} {g cap : Nat} {l : List Ps.Nd} (h : TreeIn W g cap l) {a : Nat} (ha : a < l.length) : (kidsAt l a).length ≤ 1000000 ∧ (l.getD a {}).names.length ≤ 1000000 ∧ kindAt l a ≤ 33 := by
  have := h.fit.small _ (List.getElem_mem ha)
  refine ⟨by unfold kidsAt; rw [Sr.getD_at ha]; exact this.2.1, by rw [Sr.getD_at ha]; exact this.1, Rp.okB_kind (h.wf.ok a ha)⟩
theorem def_kids {l : List Ps.Nd} (hw : Wf l) {k : Nat} (hk : k < l.length) (h : kindAt l k = 23) : ∃ f, kidsAt l k = [f] := by
  have ho := hw.ok k hk
  unfold Rp.okB at ho
  rw [show (l.getD k {}).k = kindAt l k from rfl] at ho
  simp [h] at ho
  generalize kidsAt l k = K at *
  match K, ho with
  | [f], ho => exact ⟨f, rfl⟩
  | [], ho => simp at ho
  | f :: g :: t, ho => simp at ho
set_option maxRecDepth 100000 in
set_option maxHeartbeats 1000000 in
theorem name_any {w : World} {g cap : Nat} {l : List Ps.Nd} (h : TreeIn w g cap l) {k : Nat} (hk : k < l.length) :
    Calls Try.prog 29 #[.slice (some ⟨g, 0, none⟩) l.length cap, .int .i64 (k : Int)] w fun e w' => e = .returned (.string ⟨(Sr.nameOf l k).toArray⟩) ∧ w' = w := by
  obtain ⟨an, ak, cn, ck, c0, c2, c3, c4, _, hck, hkids⟩ := h.nd k hk
  have hg := h.lt
  have hcap := h.cap
  have hfew := h.fit.few
  have hsm := (h.small hk).2.2
  have hk' : (k : Int) < l.length := by omega
  have hk0 : (0 : Int) ≤ k := by omega
  by_cases h23 : kindAt l k = 23
  · obtain ⟨f, hf⟩ := def_kids h.wf hk h23
    have hfk := h.wf.kid k hk f (by rw [hf]; simp)
    obtain ⟨gk, rfl, hgk, cf0⟩ := hkids 0 (by rw [hf]; simp)
    have cf : w.cell? ⟨gk, 0, none⟩ = some (.int .i64 (f : Int)) := by rw [cf0]; simp [hf]
    clear cf0
    have hlen : (kidsAt l k).length = 1 := by rw [hf]; rfl
    rw [hlen] at c4 hck
    obtain ⟨_, _, _, _, _, e2, _⟩ := h.nd f (by omega)
    have hfl : (f : Int) < l.length := by omega
    have hf0 : (0 : Int) ≤ f := by omega
    rw [h23] at c0
    have hnm : Sr.nameOf l k = (l.getD f {}).t := by unfold Sr.nameOf; rw [if_pos h23, hf]; rfl
    rw [hnm]
    have HN : Hid (0 < 1 ∧ l.length ≤ cap) := ⟨by omega, hcap⟩
    clear h hkids c2 c3 h23 hlen hf hfk hk hnm
    generalize (l.getD f {}).t = t at *
    generalize l.length = n at *
    go_enter Try.func29, Try.ntmps29
    go_wp2_with fail
    go_ret
    exact ⟨rfl, rfl⟩
  · have h23' : ¬ (kindAt l k : Int) = 23 := by omega
    have hnm : Sr.nameOf l k = (l.getD k {}).t := by unfold Sr.nameOf; rw [if_neg h23]
    rw [hnm]
    clear h hkids c3 c4 h23 hk hnm hck
    generalize (l.getD k {}).t = t at *
    generalize kindAt l k = kd at *
    generalize l.length = n at *
    go_enter Try.func29, Try.ntmps29
    go_wp2_with fail
    go_ret
    exact ⟨rfl, rfl⟩
end Go.Proofs.Ytkaacmghgobhmaa.Rd
end
