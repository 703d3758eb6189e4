/- Texts: RpBd RpSz. -/
import Derived.Test.YtpjmapoiinjakaaGreatDoorBn19
section
namespace Go.Proofs.YtpjmapoiinjakaaGreatDoor.Rp
open Lx Ps
set_option linter.unusedVariables false
/-- b: what is left over where all is well; a: nodes where it is bad already; c: where it becomes bad. -/
def Bt (b a c : Nat) (x y : Rt) : Prop := Gd x → Gd y ∧ y.toks.length ≤ x.toks.length ∧ (x.bad = true → y.bad = true ∧ y.nodes.length ≤ x.nodes.length + a) ∧ (x.bad = false → y.bad = false → y.nodes.length + 8 * y.toks.length + b ≤ x.nodes.length + 8 * x.toks.length) ∧ (x.bad = false → y.bad = true → y.nodes.length + 8 * y.toks.length ≤ x.nodes.length + 8 * x.toks.length + c)
theorem Bt.refl (x : Rt) : Bt 0 0 0 x x := fun g => ⟨g, Nat.le_refl _, fun h => ⟨h, by omega⟩, fun _ _ => by omega, fun h1 h2 => by rw [h1] at h2; cases h2⟩
theorem Bt.then {b1 a1 c1 b2 a2 c2 : Nat} {x y z : Rt} (h : Bt b1 a1 c1 x y) (k : Bt b2 a2 c2 y z) : Bt (b1 + b2) (a1 + a2) (max (c1 + a2) c2) x z := fun g => by
  obtain ⟨g1, t1, p1, q1, s1⟩ := h g
  obtain ⟨g2, t2, p2, q2, s2⟩ := k g1
  refine ⟨g2, Nat.le_trans t2 t1, fun hx => ?_, fun hx hz => ?_, fun hx hz => ?_⟩
  · obtain ⟨hy, n1⟩ := p1 hx
    obtain ⟨hz, n2⟩ := p2 hy
    exact ⟨hz, by omega⟩
  · cases hy : y.bad
    · have := q1 hx hy
      have := q2 hy hz
      omega
    · rw [(p2 hy).1] at hz; cases hz
  · cases hy : y.bad
    · have := q1 hx hy
      have := s2 hy hz
      have := Nat.le_max_right (c1 + a2) c2
      omega
    · have := s1 hx hy
      have := (p2 hy).2
      have := Nat.le_max_left (c1 + a2) c2
      omega
theorem Bt.up {b a c b' a' c' : Nat} {x y : Rt} (h : Bt b a c x y) (hb : b' ≤ b) (ha : a ≤ a') (hc : c ≤ c') : Bt b' a' c' x y := fun g => by
  obtain ⟨g1, t1, p1, q1, s1⟩ := h g
  exact ⟨g1, t1, fun hx => ⟨(p1 hx).1, by have := (p1 hx).2; omega⟩, fun hx hy => by have := q1 hx hy; omega, fun hx hy => by have := s1 hx hy; omega⟩
theorem Bt.put {b a c : Nat} {x y : Rt} (h : Bt (b + 1) a c x y) (n : Nd) : Bt b (a + 1) (c + 1) x (Rp.put n y).2 := fun g => by
  obtain ⟨g1, t1, p1, q1, s1⟩ := h g
  have hl : (Rp.put n y).2.nodes.length = y.nodes.length + 1 := by show (y.nodes ++ [n]).length = _; simp
  have ht : (Rp.put n y).2.toks = y.toks := rfl
  have hb : (Rp.put n y).2.bad = y.bad := rfl
  refine ⟨⟨g1.one, g1.last⟩, t1, fun hx => ⟨(p1 hx).1, by have := (p1 hx).2; omega⟩, fun hx hy => ?_, fun hx hy => ?_⟩
  · have := q1 hx hy; rw [ht, hl]; omega
  · have := s1 hx hy; rw [ht, hl]; omega
theorem bt_spoil (b : Nat) (x : Rt) : Bt b 0 0 x (spoil x) := fun g => ⟨⟨g.one, g.last⟩, Nat.le_refl _, fun h => ⟨rfl, Nat.le_refl _⟩, fun _ h => (nomatch h), fun _ _ => Nat.le_refl _⟩
theorem bt_move {x : Rt} (h0 : (nx x).k ≠ 0) (h6 : (nx x).k ≠ 6) : Bt 8 0 0 x (move x) := fun g => by
  have hm : (move x).bad = x.bad ∧ (move x).nodes = x.nodes := by unfold move; split <;> exact ⟨rfl, rfl⟩
  have hl : (move x).toks.length + 1 ≤ x.toks.length := by
    have h := on_move h0 h6 (r := { x with bad := false }) ⟨g.one, g.last⟩
    have e : (move { x with bad := false }).toks = (move x).toks := by unfold move; split <;> rfl
    have e2 : (move { x with bad := false }).bad = false := by unfold move; split <;> rfl
    rcases h.2 with h | h
    · rw [e2] at h; cases h
    · rw [e] at h; exact h
  refine ⟨move_gd g, by omega, fun h => ⟨by rw [hm.1]; exact h, by rw [hm.2]; omega⟩, fun _ _ => by rw [hm.2]; omega, fun _ _ => by rw [hm.2]; omega⟩
theorem isS_ks {m : List UInt8} {r : Rt} (h : isS m r = true) : (nx r).k ≠ 0 ∧ (nx r).k ≠ 6 := by
  unfold isS at h
  simp only [Bool.and_eq_true, decide_eq_true_eq] at h
  omega
theorem bt_yes {m : List UInt8} {x y : Rt} (h : has m x = (true, y)) : Bt 8 0 0 x y := by
  unfold has at h
  split at h
  · cases h
  · rename_i h1
    cases h
    cases e : isS m x
    · rw [e] at h1; simp at h1
    · exact bt_move (isS_ks e).1 (isS_ks e).2
theorem bt_no {m : List UInt8} {x y : Rt} (h : has m x = (false, y)) : Bt 0 0 0 x y := by rw [has_no h]; exact Bt.refl x
theorem bt_has (m : List UInt8) (x : Rt) : Bt 0 0 0 x (has m x).2 := by
  rcases e : has m x with ⟨b, y⟩
  cases b
  · exact bt_no e
  · exact (bt_yes e).up (by omega) (by omega) (by omega)
theorem bt_must (m : List UInt8) (x : Rt) : Bt 8 0 0 x (must m x) := by
  unfold must
  rcases e : has m x with ⟨b, y⟩
  cases b
  · rw [has_no e]; exact bt_spoil 8 x
  · exact bt_yes e
theorem bt_rname (x : Rt) : Bt 8 0 0 x (rname x).2 := by
  unfold rname
  by_cases h : (x.bad || decide ((nx x).k ≠ 3)) = true
  · rw [if_pos h]; exact bt_spoil 8 x
  · rw [if_neg h]
    have hk : (nx x).k = 3 := by
      simp only [Bool.or_eq_true, decide_eq_true_eq, not_or, Decidable.not_not] at h
      exact h.2
    exact bt_move (by omega) (by omega)
theorem bt_ende (x : Rt) : Bt 0 0 0 x (ende x) := by
  unfold ende
  rcases e : has [59] x with ⟨b, y⟩
  cases b
  · have hy := has_no e
    subst hy
    simp only
    split
    · exact Bt.refl _
    · split
      · exact bt_spoil 0 _
      · exact Bt.refl _
  · exact (bt_yes e).up (by omega) (by omega) (by omega)
/-- Where it is bad nothing happens. -/
theorem bt_stop {b c : Nat} {x y : Rt} (h : x.bad = true) (e : y = x) : Bt b 0 c x y := fun g => by
  subst e
  exact ⟨g, Nat.le_refl _, fun h => ⟨h, by omega⟩, fun h2 => (by rw [h] at h2; cases h2), fun h2 => (by rw [h] at h2; cases h2)⟩
/-- Where it is not bad, what is said of that alone. -/
theorem Bt.good {b a c a' : Nat} {x y : Rt} (h : x.bad = false) (k : Bt b a c x y) : Bt b a' c x y := fun g => by
  obtain ⟨g1, t1, p1, q1, s1⟩ := k g
  exact ⟨g1, t1, fun h2 => (by rw [h] at h2; cases h2), q1, s1⟩
structure BtL (C : Nat) (L : Lr) : Prop where
  e : ∀ r, Bt 1 0 C r (L.e r).2
  u : ∀ r, Bt 1 0 C r (L.u r).2
  p : ∀ r, Bt 1 0 C r (L.p r).2
  s : ∀ r, Bt 0 0 C r (L.s r).2
section
variable {C : Nat} {L : Lr}
theorem bt_listLoop (h : BtL C L) (last : Bool) : ∀ (f : Nat) (l : List Nat) (r : Rt), Bt 0 0 C r (listLoop L last f l r).2
  | 0, l, r => (Bt.refl r).up (by omega) (by omega) (by omega)
  | f + 1, l, r => by
    unfold listLoop
    split
    · exact (Bt.refl r).up (by omega) (by omega) (by omega)
    · split
      · exact (Bt.refl r).up (by omega) (by omega) (by omega)
      · exact ((h.s r).then (bt_listLoop h last f _ _)).up (by omega) (by omega) (by omega)
theorem bt_list (h : BtL C L) (last : Bool) (r : Rt) : Bt 0 0 C r (list L last r).2 := bt_listLoop h last _ _ r
theorem bt_body (h : BtL C L) (r : Rt) : Bt 16 0 C r (body L r).2 := (((bt_must _ r).then (bt_list h false _)).then (bt_must _ _)).up (by omega) (by omega) (by omega)
theorem bt_block (h : BtL C L) (r : Rt) : Bt 1 1 (C + 1) r (block L r).2 := ((bt_body h r).up (b' := 2) (by omega) (Nat.le_refl _) (Nat.le_refl _)).put _
theorem bt_inner (h : BtL C L) (r : Rt) : Bt 0 0 C r (inner L r).2 := by
  unfold inner
  simp only
  split
  · split
    · exact (bt_spoil 0 r).up (by omega) (by omega) (by omega)
    · rename_i h; exact absurd rfl h
  · split
    · exact (Bt.refl r).up (by omega) (by omega) (by omega)
    · exact h.s r
theorem bt_namesLoop : ∀ (f : Nat) (l : List (List UInt8)) (r : Rt), Bt 0 0 0 r (namesLoop f l r).2
  | 0, l, r => Bt.refl r
  | f + 1, l, r => by
    unfold namesLoop
    split
    · rename_i e; exact bt_no e
    · rename_i e; exact (((bt_yes e).then (bt_rname _)).then (bt_namesLoop f _ _)).up (by omega) (by omega) (by omega)
theorem bt_pars (r : Rt) : Bt 0 0 0 r (pars r).2 := by
  unfold pars
  split
  · exact Bt.refl r
  · exact ((bt_rname r).then (bt_namesLoop _ _ _)).up (by omega) (by omega) (by omega)
theorem bt_fname (named : Bool) (r : Rt) : Bt 0 0 0 r (fname named r).2 := by
  unfold fname
  split
  · exact (bt_rname r).up (by omega) (by omega) (by omega)
  · exact Bt.refl r
theorem bt_func (h : BtL C L) (named : Bool) (r : Rt) : Bt 2 1 (C + 1) r (func L named r).2 :=
  Bt.put (b := 2) (a := 0) (c := C) (((((((bt_must _ r).then (bt_has [42] _)).then (bt_fname named _)).then (bt_must _ _)).then (bt_pars _)).then (bt_must _ _)).then (bt_body h _) |>.up (by omega) (by omega) (by omega)) _
theorem bt_commasLoop (h : BtL C L) : ∀ (f : Nat) (l : List Nat) (r : Rt), Bt 0 0 C r (commasLoop L f l r).2
  | 0, l, r => (Bt.refl r).up (by omega) (by omega) (by omega)
  | f + 1, l, r => by
    unfold commasLoop
    split
    · rename_i e; exact (bt_no e).up (by omega) (by omega) (by omega)
    · rename_i e; exact (((bt_yes e).then (h.e _)).then (bt_commasLoop h f _ _)).up (by omega) (by omega) (by omega)
theorem bt_commas (h : BtL C L) (m : List UInt8) (r : Rt) : Bt 8 0 C r (commas L m r).2 := by
  unfold commas
  split
  · rename_i e; exact (bt_yes e).up (by omega) (by omega) (by omega)
  · rename_i e; exact ((((bt_no e).then (h.e _)).then (bt_commasLoop h _ _ _)).then (bt_must _ _)).up (by omega) (by omega) (by omega)
theorem bt_binLoop (row : List (List UInt8)) {sub : Q Nat} {c : Nat} (hs : ∀ r, Bt 1 0 c r (sub r).2) : ∀ (f k : Nat) (r : Rt), Bt 0 0 (c + 1) r (binLoop row sub f k r).2
  | 0, k, r => (Bt.refl r).up (by omega) (by omega) (by omega)
  | f + 1, k, r => by
    unfold binLoop
    split
    · rename_i e
      simp only [Bool.and_eq_true, Bool.not_eq_true', decide_eq_true_eq] at e
      refine Bt.good e.1.1 (Bt.up (Bt.then (Bt.put (b := 8) (a := 0) (c := c) (((bt_move (by omega) (by omega)).then (hs _)).up (by omega) (by omega) (by omega)) _) (bt_binLoop row hs f _ _)) (by omega) (Nat.le_refl _) (by omega))
    · exact (Bt.refl r).up (by omega) (by omega) (by omega)
theorem bt_bin (h : BtL C L) : ∀ row r, Bt 1 0 (C + row.length) r (bin L row r).2
  | [], r => h.u r
  | row :: rest, r => ((bt_bin h rest r).then (bt_binLoop row (bt_bin h rest) _ _ _)).up (by omega) (by omega) (by simp only [List.length_cons]; omega)
theorem bt_cond (h : BtL C L) (r : Rt) : Bt 1 0 (C + 6) r (cond L r).2 := by
  have h0 : Bt 1 0 (C + 6) r (bin L rrows r).2 := bt_bin h rrows r
  unfold cond
  simp only
  split
  · exact h0
  · rename_i hk
    split
    · rename_i e; exact (h0.then (bt_no e)).up (by omega) (by omega) (by omega)
    · rename_i e
      have h1 := (((bt_yes e).then (h.e _)).then (bt_must [58] _))
      split
      · exact (h0.then h1).up (by omega) (by omega) (by omega)
      · have h2 := Bt.put (b := 8) (a := 0) (c := C) ((h1.then (h.e _)).up (by omega) (by omega) (by omega)) { k := 18, kids := [(bin L rrows r).1, (L.e (by assumption)).1, (L.e (must [58] (L.e (by assumption)).2)).1], a := ((L.e (must [58] (L.e (by assumption)).2)).2.nodes.getD (bin L rrows r).1 {}).a }
        exact (h0.then (Bt.good (by simpa using hk) h2 (a' := 0))).up (by omega) (by omega) (by omega)
theorem bt_assign (h : BtL C L) (r : Rt) : Bt 1 1 (C + 6) r (assign L r).2 := by
  unfold assign
  simp only
  split
  · rename_i e
    exact (Bt.put (b := 8) (a := 0) (c := C) (((bt_yes e).then (h.e _)).up (by omega) (by omega) (by omega)) _).up (by omega) (by omega) (by omega)
  · rename_i r1 e
    have h0 := ((bt_no e).then (bt_cond h r1)).up (b' := 1) (a' := 0) (c' := C + 6) (by omega) (by omega) (by omega)
    generalize cond L _ = k at *
    obtain ⟨k1, k2⟩ := k
    simp only at h0 ⊢
    cases hb : k2.bad
    · simp only [Bool.false_eq_true, if_false]
      generalize isTarget _ = tt
      cases tt
      · exact h0.up (by omega) (by omega) (by omega)
      · simp only [if_true]
        split
        · rename_i e'; exact (h0.then (bt_no e')).up (by omega) (by omega) (by omega)
        · rename_i r2 e'
          have h2 := Bt.put (b := 8) (a := 0) (c := C) (((bt_yes e').then (h.e _)).up (by omega) (by omega) (by omega)) { k := 19, kids := [k1, (L.e r2).1], a := ((L.e r2).2.nodes.getD k1 {}).a }
          exact (h0.then (Bt.good (a' := 0) hb h2)).up (by omega) (by omega) (by omega)
    · exact h0.up (by omega) (by omega) (by omega)
theorem bt_unary (h : BtL C L) (r : Rt) : Bt 1 1 (C + 1) r (unary L r).2 := by
  unfold unary
  cases e : (isS [33] r || isS [45] r || isS [116, 121, 112, 101, 111, 102] r)
  · exact (h.p r).up (by omega) (by omega) (by omega)
  · have hk : (nx r).k ≠ 0 ∧ (nx r).k ≠ 6 := by
      cases e1 : isS [33] r
      · cases e2 : isS [45] r
        · rw [e1, e2] at e; exact isS_ks e
        · exact isS_ks e2
      · exact isS_ks e1
    exact (Bt.put (b := 8) (a := 0) (c := C) (((bt_move hk.1 hk.2).then (h.u _)).up (by omega) (by omega) (by omega)) _).up (by omega) (by omega) (by omega)
theorem bt_objLoop (h : BtL C L) : ∀ (f : Nat) (N : List (List UInt8)) (K : List Nat) (r : Rt), Bt 0 0 C r (objLoop L f N K r).2
  | 0, N, K, r => (Bt.refl r).up (by omega) (by omega) (by omega)
  | f + 1, N, K, r => by
    unfold objLoop
    simp only
    split
    · split
      · rename_i hk
        split
        · exact (Bt.refl r).up (by omega) (by omega) (by omega)
        · have h1 := ((bt_move (x := r) (by omega) (by omega)).then (bt_must [58] _)).then (h.e _)
          split
          · rename_i e; exact (h1.then (bt_no e)).up (by omega) (by omega) (by omega)
          · rename_i e; exact ((h1.then (bt_yes e)).then (bt_objLoop h f _ _ _)).up (by omega) (by omega) (by omega)
      · split
        · exact (bt_spoil 0 r).up (by omega) (by omega) (by omega)
        · rename_i h; exact absurd rfl h
    · exact (Bt.refl r).up (by omega) (by omega) (by omega)
theorem bt_object (h : BtL C L) (a : Nat) (r : Rt) : Bt 0 1 (C + 1) r (object L a r).2 := by
  have h0 := bt_objLoop h (r.toks.length + 1) [] [] r
  unfold object
  split
  · rename_i e; rw [e] at h0; exact h0.up (by omega) (by omega) (by omega)
  · rename_i e
    rw [e] at h0
    exact (Bt.put (b := 7) (a := 0) (c := C) ((h0.then (bt_must [125] _)).up (by omega) (by omega) (by omega)) _).up (by omega) (by omega) (by omega)
theorem bt_first (h : BtL C L) (r : Rt) : Bt 1 1 (C + 1) r (first L r).2 := by
  unfold first
  simp only
  split
  · exact (Bt.put (b := 7) (a := 0) (c := 0) (bt_move (by omega) (by omega)) _).up (by omega) (by omega) (by omega)
  split
  · exact (Bt.put (b := 7) (a := 0) (c := 0) (bt_move (by omega) (by omega)) _).up (by omega) (by omega) (by omega)
  split
  · exact (Bt.put (b := 7) (a := 0) (c := 0) (bt_move (by omega) (by omega)) _).up (by omega) (by omega) (by omega)
  split
  · exact (Bt.put (b := 7) (a := 0) (c := 0) (bt_move (by omega) (by omega)) _).up (by omega) (by omega) (by omega)
  split
  · exact (bt_func h false r).up (by omega) (by omega) (by omega)
  split
  · rename_i e; exact (((bt_yes e).then (h.e _)).then (bt_must _ _)).up (by omega) (by omega) (by omega)
  rename_i e1
  have g1 := bt_no e1
  split
  · rename_i e
    exact (Bt.put (b := 8) (a := 0) (c := C) (((g1.then (bt_yes e)).then (bt_commas h _ _)).up (by omega) (by omega) (by omega)) _).up (by omega) (by omega) (by omega)
  rename_i e2
  have g2 := g1.then (bt_no e2)
  split
  · rename_i e; exact ((g2.then (bt_yes e)).then (bt_object h _ _)).up (by omega) (by omega) (by omega)
  · rename_i e; exact ((g2.then (bt_no e)).then (bt_spoil 1 _)).up (by omega) (by omega) (by omega)
theorem bt_postLoop (h : BtL C L) : ∀ (f k : Nat) (r : Rt), Bt 0 0 (C + 1) r (postLoop L f k r).2
  | 0, k, r => (Bt.refl r).up (by omega) (by omega) (by omega)
  | f + 1, k, r => by
    unfold postLoop
    simp only
    split
    · exact (Bt.refl r).up (by omega) (by omega) (by omega)
    rename_i hb
    have hb' : r.bad = false := by simpa using hb
    refine Bt.good hb' (a := 1) ?_
    split
    · rename_i e
      have g := bt_yes e
      split
      · exact (g.then (bt_spoil 0 _)).up (by omega) (by omega) (by omega)
      · have h1 := Bt.put (b := 8) (a := 0) (c := 0) ((g.then (bt_move (by omega) (by omega))).up (by omega) (by omega) (by omega))
        exact ((h1 _).then (bt_postLoop h f _ _)).up (by omega) (by omega) (by omega)
    rename_i e1
    have g1 := bt_no e1
    split
    · rename_i e
      have h1 := Bt.put (b := 8) (a := 0) (c := C) ((((g1.then (bt_yes e)).then (h.e _)).then (bt_must [93] _)).up (by omega) (by omega) (by omega))
      exact ((h1 _).then (bt_postLoop h f _ _)).up (by omega) (by omega) (by omega)
    rename_i e2
    have g2 := g1.then (bt_no e2)
    split
    · rename_i e
      have h1 := Bt.put (b := 8) (a := 0) (c := C) (((g2.then (bt_yes e)).then (bt_commas h [41] _)).up (by omega) (by omega) (by omega))
      exact ((h1 _).then (bt_postLoop h f _ _)).up (by omega) (by omega) (by omega)
    · rename_i e; exact (g2.then (bt_no e)).up (by omega) (by omega) (by omega)
theorem bt_post (h : BtL C L) (r : Rt) : Bt 1 1 (C + 1) r (post L r).2 := ((bt_first h r).then (bt_postLoop h _ _ _)).up (by omega) (by omega) (by omega)
theorem bt_one (h : BtL C L) (r : Rt) : Bt 0 9 (C + 6) r (one L r).2 := by
  unfold one
  simp only
  split
  · exact (bt_block h r).up (by omega) (by omega) (by omega)
  split
  · exact (Bt.put (b := 1) (a := 1) (c := C + 1) (bt_func h true r) _).up (by omega) (by omega) (by omega)
  split
  · rename_i e
    have g := (((((bt_yes e).then (bt_must [40] _)).then (h.e _)).then (bt_must [41] _)).then (bt_inner h _)).up (b' := 8) (a' := 0) (c' := C) (by omega) (by omega) (by omega)
    split
    · rename_i e'; exact (Bt.put (b := 1) (a := 0) (c := C) (((g.then (bt_yes e')).then (bt_inner h _)).up (by omega) (by omega) (by omega)) _).up (by omega) (by omega) (by omega)
    · rename_i e'; exact (Bt.put (b := 1) (a := 0) (c := C) ((g.then (bt_no e')).up (by omega) (by omega) (by omega)) _).up (by omega) (by omega) (by omega)
  rename_i e1
  have g1 := bt_no e1
  split
  · rename_i e
    exact (Bt.put (b := 1) (a := 0) (c := C) ((((((g1.then (bt_yes e)).then (bt_must [40] _)).then (h.e _)).then (bt_must [41] _)).then (bt_inner h _)).up (by omega) (by omega) (by omega)) _).up (by omega) (by omega) (by omega)
  rename_i e2
  have g2 := g1.then (bt_no e2)
  split
  · rename_i e; exact (Bt.put (b := 1) (a := 0) (c := C) (((g2.then (bt_yes e)).then (bt_ende _)).up (by omega) (by omega) (by omega)) _).up (by omega) (by omega) (by omega)
  rename_i e3
  have g3 := g2.then (bt_no e3)
  split
  · rename_i e; exact (Bt.put (b := 1) (a := 0) (c := C) (((g3.then (bt_yes e)).then (bt_ende _)).up (by omega) (by omega) (by omega)) _).up (by omega) (by omega) (by omega)
  rename_i e4
  have g4 := g3.then (bt_no e4)
  split
  · rename_i e
    have g := g4.then (bt_yes e)
    split
    · exact (Bt.put (b := 1) (a := 0) (c := C) (((g.then (h.e _)).then (bt_ende _)).up (by omega) (by omega) (by omega)) _).up (by omega) (by omega) (by omega)
    · exact (Bt.put (b := 1) (a := 0) (c := C) ((g.then (bt_ende _)).up (by omega) (by omega) (by omega)) _).up (by omega) (by omega) (by omega)
  rename_i e5
  have g5 := g4.then (bt_no e5)
  split
  · rename_i e
    have g := g5.then (bt_yes e)
    split
    · exact (Bt.put (b := 1) (a := 0) (c := C) ((((g.then (bt_spoil 0 _)).then (h.e _)).then (bt_ende _)).up (by omega) (by omega) (by omega)) _).up (by omega) (by omega) (by omega)
    · exact (Bt.put (b := 1) (a := 0) (c := C) (((g.then (h.e _)).then (bt_ende _)).up (by omega) (by omega) (by omega)) _).up (by omega) (by omega) (by omega)
  rename_i e6
  have g6 := g5.then (bt_no e6)
  split
  · rename_i e
    exact (Bt.put (b := 1) (a := 2) (c := C + 2) (((((((g6.then (bt_yes e)).then (bt_block h _)).then (bt_must _ _)).then (bt_must _ _)).then (bt_rname _)).then (bt_must _ _)).then (bt_block h _) |>.up (by omega) (by omega) (by omega)) _).up (by omega) (by omega) (by omega)
  rename_i r7 e7
  have g7 := g6.then (bt_no e7)
  cases e : (isS [108, 101, 116] r7 || isS [99, 111, 110, 115, 116] r7)
  · have g8 := (g7.then (h.e r7)).then (bt_ende _)
    rw [if_neg (by simp)]
    split
    · exact g8.up (by omega) (by omega) (by omega)
    · exact (Bt.put (b := 0) (a := 0) (c := C) (g8.up (by omega) (by omega) (by omega)) _).up (by omega) (by omega) (by omega)
  · rw [if_pos rfl]
    have hk : (nx r7).k ≠ 0 ∧ (nx r7).k ≠ 6 := by
      cases e1 : isS [108, 101, 116] r7
      · rw [e1] at e; exact isS_ks e
      · exact isS_ks e1
    exact (Bt.put (b := 1) (a := 0) (c := C) ((((((g7.then (bt_move hk.1 hk.2)).then (bt_rname _)).then (bt_must [61] _)).then (h.e _)).then (bt_ende _)).up (by omega) (by omega) (by omega)) _).up (by omega) (by omega) (by omega)
theorem bt_deeper {f : Q Nat} {b a c : Nat} (hf : ∀ r, Bt b a c r (f r).2) (r : Rt) : Bt b 0 c r (deeper f r).2 := by
  unfold deeper
  by_cases h : r.bad = true
  · rw [if_pos h]; exact bt_stop h rfl
  · rw [if_neg h]; exact Bt.good (by simpa using h) (hf r)
end
theorem bt_rl : ∀ d, BtL (6 * d) (rl d)
  | 0 => ⟨fun r => (bt_spoil 1 r).up (by omega) (by omega) (by omega), fun r => (bt_spoil 1 r).up (by omega) (by omega) (by omega), fun r => (bt_spoil 1 r).up (by omega) (by omega) (by omega), fun r => (bt_spoil 0 r).up (by omega) (by omega) (by omega)⟩
  | d + 1 => by
    have h := bt_rl d
    exact ⟨fun r => (bt_deeper (bt_assign h) r).up (by omega) (by omega) (by omega), fun r => (bt_deeper (bt_unary h) r).up (by omega) (by omega) (by omega), fun r => (bt_deeper (bt_post h) r).up (by omega) (by omega) (by omega), fun r => (bt_deeper (bt_one h) r).up (by omega) (by omega) (by omega)⟩
/-- A program's nodes are few. -/
theorem few (r : Rt) (g : Gd r) (hb : r.bad = false) (hn : r.nodes = []) (ht : r.toks.length ≤ 4097) : (list (rl 40) true r).2.nodes.length ≤ 40000 := by
  obtain ⟨_, _, _, q, s⟩ := bt_list (bt_rl 40) true r g
  rw [hn] at q s
  simp only [List.length_nil] at q s
  cases h : (list (rl 40) true r).2.bad
  · have := q hb h; omega
  · have := s hb h; omega
end Go.Proofs.YtpjmapoiinjakaaGreatDoor.Rp
end
section
namespace Go.Proofs.YtpjmapoiinjakaaGreatDoor.Rp
open Lx Ps
set_option linter.unusedVariables false
def Sm1 (n : Nd) : Prop := n.names.length ≤ 10000 ∧ n.kids.length ≤ 10000
def Sz (r : Rt) : Prop := ∀ n ∈ r.nodes, Sm1 n
def Zz (x y : Rt) : Prop := Dn x y ∧ (Gd x → x.toks.length ≤ 4097 → Sz x → Sz y)
theorem Zz.refl (x : Rt) : Zz x x := ⟨pre_dn.refl x, fun _ _ h => h⟩
theorem Zz.trans {a b c : Rt} (h : Zz a b) (k : Zz b c) : Zz a c := ⟨pre_dn.trans h.1 k.1, fun g t s => k.2 (h.1.1 g).1 (Nat.le_trans (h.1.1 g).2 t) (h.2 g t s)⟩
/-- Nodes are the same. -/
theorem Zz.same {a b : Rt} (d : Dn a b) (e : b.nodes = a.nodes) : Zz a b := ⟨d, fun _ _ h n hn => h n (by rw [← e]; exact hn)⟩
theorem Zz.put {a b : Rt} (h : Zz a b) (n : Nd) (hn : Gd a → a.toks.length ≤ 4097 → Sm1 n) : Zz a (Rp.put n b).2 := ⟨pre_dn.trans h.1 (pre_dn.put n b), fun g t s m hm => by
  rcases List.mem_append.1 (show m ∈ b.nodes ++ [n] from hm) with hm | hm
  · exact h.2 g t s m hm
  · rw [List.mem_singleton] at hm; rw [hm]; exact hn g t⟩
theorem Zz.pk {a b : Rt} (h : Zz a b) (n : Nd) (h1 : n.names.length ≤ 10000) (h2 : n.kids.length ≤ 10000) : Zz a (Rp.put n b).2 := h.put n (fun _ _ => ⟨h1, h2⟩)
theorem zz_move (x : Rt) : Zz x (move x) := Zz.same (pre_dn.move x) (by unfold move; split <;> rfl)
theorem zz_spoil (x : Rt) : Zz x (spoil x) := Zz.same (pre_dn.spoil x) rfl
theorem zz_has {m : List UInt8} {x y : Rt} {b : Bool} (h : has m x = (b, y)) : Zz x y := Zz.same (pre_dn.hs (pre_dn.refl x) h) (has_keep h).1
theorem zz_hs (m : List UInt8) (x : Rt) : Zz x (has m x).2 := zz_has (b := (has m x).1) rfl
theorem zz_must (m : List UInt8) (x : Rt) : Zz x (must m x) := Zz.same (kp_must pre_dn m x) (by
  unfold must
  split
  · rename_i e; exact (has_keep e).1
  · rename_i e; exact (has_keep e).1)
theorem zz_rname (x : Rt) : Zz x (rname x).2 := by
  unfold rname
  split
  · exact zz_spoil x
  · exact zz_move x
theorem zz_ende (x : Rt) : Zz x (ende x) := by
  unfold ende
  split
  · rename_i e; exact zz_has e
  · rename_i e
    split
    · exact zz_has e
    · split
      · exact (zz_has e).trans (zz_spoil _)
      · exact zz_has e
structure ZzL (L : Lr) : Prop where
  e : ∀ r, Zz r (L.e r).2
  u : ∀ r, Zz r (L.u r).2
  p : ∀ r, Zz r (L.p r).2
  s : ∀ r, Zz r (L.s r).2
section
variable {L : Lr}
theorem zz_listLoop (h : ZzL L) (last : Bool) : ∀ (f : Nat) (l : List Nat) (r : Rt), Zz r (listLoop L last f l r).2 ∧ (listLoop L last f l r).1.length ≤ l.length + f
  | 0, l, r => ⟨Zz.refl r, Nat.le_refl _⟩
  | f + 1, l, r => by
    unfold listLoop
    split
    · exact ⟨Zz.refl r, by simp⟩
    · split
      · exact ⟨Zz.refl r, by simp⟩
      · have := zz_listLoop h last f (l ++ [(L.s r).1]) (L.s r).2
        refine ⟨(h.s r).trans this.1, ?_⟩
        have h2 := this.2
        rw [List.length_append, List.length_singleton] at h2
        show (listLoop L last f (l ++ [(L.s r).1]) (L.s r).2).1.length ≤ _
        omega
theorem zz_body (h : ZzL L) (r : Rt) : Zz r (body L r).2 ∧ (Gd r → r.toks.length ≤ 4097 → (body L r).1.length ≤ 10000) := by
  have h1 := zz_must [123] r
  have h2 := zz_listLoop h false ((must [123] r).toks.length + 1) [] (must [123] r)
  refine ⟨(h1.trans h2.1).trans (zz_must [125] _), fun g t => ?_⟩
  have h3 := h2.2
  have h4 := (h1.1.1 g).2
  show (listLoop L false ((must [123] r).toks.length + 1) [] (must [123] r)).1.length ≤ _
  simp only [List.length_nil] at h3
  omega
theorem zz_block (h : ZzL L) (r : Rt) : Zz r (block L r).2 := (zz_body h r).1.put _ (fun g t => ⟨Nat.zero_le _, (zz_body h r).2 g t⟩)
theorem zz_inner (h : ZzL L) (r : Rt) : Zz r (inner L r).2 := by
  unfold inner
  simp only
  split
  · split
    · exact zz_spoil r
    · exact (zz_spoil r).trans (h.s _)
  · split
    · exact Zz.refl r
    · exact h.s r
theorem zz_namesLoop : ∀ (f : Nat) (l : List (List UInt8)) (r : Rt), Zz r (namesLoop f l r).2 ∧ (namesLoop f l r).1.length ≤ l.length + f
  | 0, l, r => ⟨Zz.refl r, Nat.le_refl _⟩
  | f + 1, l, r => by
    unfold namesLoop
    split
    · rename_i e; exact ⟨zz_has e, by simp⟩
    · rename_i r1 e
      have := zz_namesLoop f (l ++ [(rname r1).1]) (rname r1).2
      refine ⟨((zz_has e).trans (zz_rname _)).trans this.1, ?_⟩
      have h2 := this.2
      rw [List.length_append, List.length_singleton] at h2
      show (namesLoop f (l ++ [(rname r1).1]) (rname r1).2).1.length ≤ _
      omega
theorem zz_pars (r : Rt) : Zz r (pars r).2 ∧ (Gd r → r.toks.length ≤ 4097 → (pars r).1.length ≤ 10000) := by
  unfold pars
  split
  · exact ⟨Zz.refl r, fun _ _ => by simp⟩
  · have h1 := zz_rname r
    have h2 := zz_namesLoop (rname r).2.toks.length [(rname r).1] (rname r).2
    refine ⟨h1.trans h2.1, fun g t => ?_⟩
    have h3 := h2.2
    have h4 := (h1.1.1 g).2
    show (namesLoop (rname r).2.toks.length [(rname r).1] (rname r).2).1.length ≤ _
    simp only [List.length_singleton] at h3
    omega
theorem zz_fname (named : Bool) (r : Rt) : Zz r (fname named r).2 := by
  unfold fname
  split
  · exact zz_rname r
  · exact Zz.refl r
theorem zz_func (h : ZzL L) (named : Bool) (r : Rt) : Zz r (func L named r).2 := by
  have h1 := (((zz_must [102, 117, 110, 99, 116, 105, 111, 110] r).trans (zz_hs [42] _)).trans (zz_fname named _)).trans (zz_must [40] _)
  have h2 := zz_pars (must [40] (fname named (has [42] (must [102, 117, 110, 99, 116, 105, 111, 110] r)).2).2)
  have h3 := zz_must [41] (pars (must [40] (fname named (has [42] (must [102, 117, 110, 99, 116, 105, 111, 110] r)).2).2)).2
  have h4 := zz_body h (must [41] (pars (must [40] (fname named (has [42] (must [102, 117, 110, 99, 116, 105, 111, 110] r)).2).2)).2)
  have h13 := (h1.trans h2.1).trans h3
  exact (h13.trans h4.1).put _ (fun g t => ⟨h2.2 (h1.1.1 g).1 (Nat.le_trans (h1.1.1 g).2 t), h4.2 (h13.1.1 g).1 (Nat.le_trans (h13.1.1 g).2 t)⟩)
theorem zz_commasLoop (h : ZzL L) : ∀ (f : Nat) (l : List Nat) (r : Rt), Zz r (commasLoop L f l r).2 ∧ (commasLoop L f l r).1.length ≤ l.length + f
  | 0, l, r => ⟨Zz.refl r, Nat.le_refl _⟩
  | f + 1, l, r => by
    unfold commasLoop
    split
    · rename_i e; exact ⟨zz_has e, by simp⟩
    · rename_i r1 e
      have := zz_commasLoop h f (l ++ [(L.e r1).1]) (L.e r1).2
      refine ⟨((zz_has e).trans (h.e _)).trans this.1, ?_⟩
      have h2 := this.2
      rw [List.length_append, List.length_singleton] at h2
      show (commasLoop L f (l ++ [(L.e r1).1]) (L.e r1).2).1.length ≤ _
      omega
theorem zz_commas (h : ZzL L) (m : List UInt8) (r : Rt) : Zz r (commas L m r).2 ∧ (Gd r → r.toks.length ≤ 4097 → (commas L m r).1.length ≤ 9000) := by
  unfold commas
  split
  · rename_i e; exact ⟨zz_has e, fun _ _ => by simp⟩
  · rename_i r1 e
    have h1 := (zz_has e).trans (h.e r1)
    have h2 := zz_commasLoop h (L.e r1).2.toks.length [(L.e r1).1] (L.e r1).2
    refine ⟨(h1.trans h2.1).trans (zz_must _ _), fun g t => ?_⟩
    have h3 := h2.2
    have h4 := (h1.1.1 g).2
    show (commasLoop L (L.e r1).2.toks.length [(L.e r1).1] (L.e r1).2).1.length ≤ _
    simp only [List.length_singleton] at h3
    omega
theorem zz_binLoop (row : List (List UInt8)) {sub : Q Nat} (hs : ∀ r, Zz r (sub r).2) : ∀ (f k : Nat) (r : Rt), Zz r (binLoop row sub f k r).2
  | 0, k, r => Zz.refl r
  | f + 1, k, r => by
    unfold binLoop
    split
    · refine Zz.trans (Zz.pk ((zz_move r).trans (hs _)) _ ?_ (by simp)) (zz_binLoop row hs f _ _)
      show (sigNode _).names.length ≤ _
      unfold sigNode; split
      · simp
      · split <;> simp
    · exact Zz.refl r
theorem zz_bin (h : ZzL L) : ∀ row r, Zz r (bin L row r).2
  | [], r => h.u r
  | row :: rest, r => (zz_bin h rest r).trans (zz_binLoop row (zz_bin h rest) _ _ _)
theorem zz_cond (h : ZzL L) (r : Rt) : Zz r (cond L r).2 := by
  have h0 := zz_bin h rrows r
  unfold cond
  simp only
  split
  · exact h0
  · split
    · rename_i e; exact h0.trans (zz_has e)
    · rename_i e
      have h1 := ((h0.trans (zz_has e)).trans (h.e _)).trans (zz_must [58] _)
      split
      · exact h1
      · exact (h1.trans (h.e _)).pk _ (by simp) (by simp)
theorem zz_assign (h : ZzL L) (r : Rt) : Zz r (assign L r).2 := by
  unfold assign
  simp only
  split
  · rename_i e; exact ((zz_has e).trans (h.e _)).pk _ (by simp) (by simp)
  · rename_i r1 e
    have h0 := (zz_has e).trans (zz_cond h r1)
    generalize cond L _ = k at *
    obtain ⟨k1, k2⟩ := k
    simp only at h0 ⊢
    cases hb : k2.bad
    · simp only [Bool.false_eq_true, if_false]
      generalize isTarget _ = tt
      cases tt
      · exact h0
      · simp only [if_true]
        split
        · rename_i e'; exact h0.trans (zz_has e')
        · rename_i r2 e'; exact ((h0.trans (zz_has e')).trans (h.e _)).pk _ (by simp) (by simp)
    · exact h0
theorem zz_unary (h : ZzL L) (r : Rt) : Zz r (unary L r).2 := by
  unfold unary
  generalize (isS [33] r || isS [45] r || isS [116, 121, 112, 101, 111, 102] r) = c
  cases c
  · exact h.p r
  · exact ((zz_move r).trans (h.u _)).pk _ (by simp) (by simp)
theorem zz_objLoop (h : ZzL L) : ∀ (f : Nat) (N : List (List UInt8)) (K : List Nat) (r : Rt), Zz r (objLoop L f N K r).2 ∧ ∀ N' K', (objLoop L f N K r).1 = some (N', K') → N'.length ≤ N.length + f ∧ K'.length ≤ K.length + f
  | 0, N, K, r => ⟨Zz.refl r, fun N' K' e => by cases e; exact ⟨Nat.le_refl _, Nat.le_refl _⟩⟩
  | f + 1, N, K, r => by
    unfold objLoop
    simp only
    split
    · obtain ⟨r1, hr1, hz⟩ : ∃ r1, (if (nx r).k = 3 ∨ (nx r).k = 4 ∨ (nx r).k = 2 then r else spoil r) = r1 ∧ Zz r r1 := ⟨_, rfl, by
        split
        · exact Zz.refl r
        · exact zz_spoil r⟩
      rw [hr1]
      by_cases hb : r1.bad = true
      · rw [if_pos hb]; exact ⟨hz, fun N' K' e => by cases e⟩
      · rw [if_neg hb]
        have h1 := ((hz.trans (zz_move r1)).trans (zz_must [58] _)).trans (h.e _)
        split
        · rename_i e; exact ⟨h1.trans (zz_has e), fun N' K' e' => by cases e'; exact ⟨by simp, by simp⟩⟩
        · rename_i r2 e
          have h2 := zz_objLoop h f (N ++ [(nx r).t]) (K ++ [(L.e (must [58] (move r1))).1]) r2
          refine ⟨(h1.trans (zz_has e)).trans h2.1, fun N' K' e' => ?_⟩
          have := h2.2 N' K' e'
          simp only [List.length_append, List.length_singleton] at this
          omega
    · exact ⟨Zz.refl r, fun N' K' e => by cases e; exact ⟨by omega, by omega⟩⟩
theorem zz_object (h : ZzL L) (a : Nat) (r : Rt) : Zz r (object L a r).2 := by
  have h0 := zz_objLoop h (r.toks.length + 1) [] [] r
  unfold object
  split
  · rename_i e; rw [e] at h0; exact h0.1
  · rename_i N K r1 e
    rw [e] at h0
    have h2 := h0.2 N K rfl
    exact (h0.1.trans (zz_must [125] _)).put _ (fun g t => ⟨by simp only [List.length_nil] at h2; show N.length ≤ _; omega, by simp only [List.length_nil] at h2; show K.length ≤ _; omega⟩)
theorem simple_sm (t : List UInt8) (a : Nat) : Sm1 { simple t with a := a } := by
  unfold simple
  repeat' split
  all_goals exact ⟨by simp, by simp⟩
theorem zz_first (h : ZzL L) (r : Rt) : Zz r (first L r).2 := by
  unfold first
  simp only
  split
  · exact (zz_move r).pk _ (by simp) (by simp)
  split
  · exact (zz_move r).pk _ (by simp) (by simp)
  split
  · exact (zz_move r).pk _ (by simp) (by simp)
  split
  · exact (zz_move r).put _ (fun _ _ => simple_sm _ _)
  split
  · exact zz_func h false r
  split
  · rename_i e; exact ((zz_has e).trans (h.e _)).trans (zz_must _ _)
  rename_i e1
  split
  · rename_i r2 e
    have h1 := (zz_has e1).trans (zz_has e)
    have h2 := zz_commas h [93] r2
    exact (h1.trans h2.1).put _ (fun g t => ⟨Nat.zero_le _, Nat.le_trans (h2.2 (h1.1.1 g).1 (Nat.le_trans (h1.1.1 g).2 t)) (by omega)⟩)
  rename_i e2
  split
  · rename_i e; exact (((zz_has e1).trans (zz_has e2)).trans (zz_has e)).trans (zz_object h _ _)
  · rename_i e; exact (((zz_has e1).trans (zz_has e2)).trans (zz_has e)).trans (zz_spoil _)
theorem zz_postLoop (h : ZzL L) : ∀ (f k : Nat) (r : Rt), Zz r (postLoop L f k r).2
  | 0, k, r => Zz.refl r
  | f + 1, k, r => by
    unfold postLoop
    simp only
    split
    · exact Zz.refl r
    split
    · rename_i e
      split
      · exact (zz_has e).trans (zz_spoil _)
      · exact (((zz_has e).trans (zz_move _)).pk _ (by simp) (by simp)).trans (zz_postLoop h f _ _)
    rename_i e1
    split
    · rename_i e; exact (((((zz_has e1).trans (zz_has e)).trans (h.e _)).trans (zz_must _ _)).pk _ (by simp) (by simp)).trans (zz_postLoop h f _ _)
    rename_i e2
    split
    · rename_i r3 e
      have h1 := ((zz_has e1).trans (zz_has e2)).trans (zz_has e)
      have h2 := zz_commas h [41] r3
      refine Zz.trans ((h1.trans h2.1).put _ (fun g t => ⟨Nat.zero_le _, ?_⟩)) (zz_postLoop h f _ _)
      have := h2.2 (h1.1.1 g).1 (Nat.le_trans (h1.1.1 g).2 t)
      show (k :: (commas L [41] r3).1).length ≤ _
      simp only [List.length_cons]
      omega
    · rename_i e; exact ((zz_has e1).trans (zz_has e2)).trans (zz_has e)
theorem zz_post (h : ZzL L) (r : Rt) : Zz r (post L r).2 := (zz_first h r).trans (zz_postLoop h _ _ _)
theorem zz_one (h : ZzL L) (r : Rt) : Zz r (one L r).2 := by
  unfold one
  simp only
  split
  · exact zz_block h r
  split
  · exact (zz_func h true r).pk _ (by simp) (by simp)
  split
  · rename_i e
    have g := ((((zz_has e).trans (zz_must [40] _)).trans (h.e _)).trans (zz_must [41] _)).trans (zz_inner h _)
    split
    · rename_i e'; exact ((g.trans (zz_has e')).trans (zz_inner h _)).pk _ (by simp) (by simp)
    · rename_i e'; exact (g.trans (zz_has e')).pk _ (by simp) (by simp)
  rename_i e1
  have g1 := zz_has e1
  split
  · rename_i e; exact (((((g1.trans (zz_has e)).trans (zz_must [40] _)).trans (h.e _)).trans (zz_must [41] _)).trans (zz_inner h _)).pk _ (by simp) (by simp)
  rename_i e2
  have g2 := g1.trans (zz_has e2)
  split
  · rename_i e; exact ((g2.trans (zz_has e)).trans (zz_ende _)).pk _ (by simp) (by simp)
  rename_i e3
  have g3 := g2.trans (zz_has e3)
  split
  · rename_i e; exact ((g3.trans (zz_has e)).trans (zz_ende _)).pk _ (by simp) (by simp)
  rename_i e4
  have g4 := g3.trans (zz_has e4)
  split
  · rename_i e
    split
    · exact (((g4.trans (zz_has e)).trans (h.e _)).trans (zz_ende _)).pk _ (by simp) (by simp)
    · exact ((g4.trans (zz_has e)).trans (zz_ende _)).pk _ (by simp) (by simp)
  rename_i e5
  have g5 := g4.trans (zz_has e5)
  split
  · rename_i e
    split
    · exact ((((g5.trans (zz_has e)).trans (zz_spoil _)).trans (h.e _)).trans (zz_ende _)).pk _ (by simp) (by simp)
    · exact (((g5.trans (zz_has e)).trans (h.e _)).trans (zz_ende _)).pk _ (by simp) (by simp)
  rename_i e6
  have g6 := g5.trans (zz_has e6)
  split
  · rename_i e
    exact (((((((g6.trans (zz_has e)).trans (zz_block h _)).trans (zz_must _ _)).trans (zz_must _ _)).trans (zz_rname _)).trans (zz_must _ _)).trans (zz_block h _)).pk _ (by simp) (by simp)
  rename_i r7 e7
  have g7 := g6.trans (zz_has e7)
  split
  · exact (((((g7.trans (zz_move _)).trans (zz_rname _)).trans (zz_must [61] _)).trans (h.e _)).trans (zz_ende _)).pk _ (by simp) (by simp)
  · have g8 := (g7.trans (h.e r7)).trans (zz_ende _)
    split
    · exact g8
    · exact g8.pk _ (by simp) (by simp)
theorem zz_deeper {f : Q Nat} (hf : ∀ r, Zz r (f r).2) (r : Rt) : Zz r (deeper f r).2 := by
  unfold deeper
  split
  · exact Zz.refl r
  · exact hf r
end
theorem zz_rl : ∀ d, ZzL (rl d)
  | 0 => ⟨zz_spoil, zz_spoil, zz_spoil, zz_spoil⟩
  | d + 1 => by
    have h := zz_rl d
    exact ⟨zz_deeper (zz_assign h), zz_deeper (zz_unary h), zz_deeper (zz_post h), zz_deeper (zz_one h)⟩
/-- A program's nodes have few names, few kids. -/
theorem few_in (r : Rt) (g : Gd r) (hn : r.nodes = []) (ht : r.toks.length ≤ 4097) : (∀ n ∈ (list (rl 40) true r).2.nodes, Sm1 n) ∧ (list (rl 40) true r).1.length ≤ 4098 := by
  have h := zz_listLoop (zz_rl 40) true (r.toks.length + 1) [] r
  refine ⟨h.1.2 g ht (fun n hn' => by rw [hn] at hn'; cases hn'), ?_⟩
  have h2 := h.2
  simp only [List.length_nil] at h2
  show (listLoop (rl 40) true (r.toks.length + 1) [] r).1.length ≤ _
  omega
end Go.Proofs.YtpjmapoiinjakaaGreatDoor.Rp
end
