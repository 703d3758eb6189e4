/- Texts: PsBd LBits PTxWalk. -/
import Derived.Test.YtpjmapoiinjakaaGreatDoorBn03
import Derived.Test.YtpjmapoiinjakaaGreatDoorBn15
import Derived.OpenShut
import Derived.Test.YtpjmapoiinjakaaGreatDoorBn14
import Derived.Test.YtpjmapoiinjakaaGreatDoorBn26
import Derived.Test.YtpjmapoiinjakaaGreatDoorBn28
import Derived.Test.YtpjmapoiinjakaaGreatDoorBn29
import Derived.Deep.QuietTactic
import Derived.BigQuiet
section
namespace Go.Proofs.YtpjmapoiinjakaaGreatDoor.Ps.Bd
open Lx Ps
set_option linter.unusedVariables false
/-- The last token ends; where it has failed there is none. -/
structure Gs (s : St) : Prop where
  one : 1 ≤ s.toks.length
  last : ∀ T, s.toks.getLast? = some T → T.k = 0 ∨ T.k = 6
  none : s.failed = true → s.toks = [Ps.bad]
/-- b: what is left over where all is well; a: nodes where it has failed already; c: where it fails. -/
def Bt (b a c : Nat) (x y : St) : Prop := Gs x → Gs y ∧ y.toks.length ≤ x.toks.length ∧ (x.failed = true → y.failed = true ∧ y.nodes.length ≤ x.nodes.length + a) ∧ (x.failed = false → y.failed = false → y.nodes.length + 8 * y.toks.length + b ≤ x.nodes.length + 8 * x.toks.length) ∧ (x.failed = false → y.failed = true → y.nodes.length + 8 * y.toks.length ≤ x.nodes.length + 8 * x.toks.length + c)
theorem Bt.refl (x : St) : Bt 0 0 0 x x := fun g => ⟨g, Nat.le_refl _, fun h => ⟨h, by omega⟩, fun _ _ => by omega, fun h1 h2 => by rw [h1] at h2; cases h2⟩
theorem Bt.then {b1 a1 c1 b2 a2 c2 : Nat} {x y z : St} (h : Bt b1 a1 c1 x y) (k : Bt b2 a2 c2 y z) : Bt (b1 + b2) (a1 + a2) (max (c1 + a2) c2) x z := fun g => by
  obtain ⟨g1, t1, p1, q1, s1⟩ := h g
  obtain ⟨g2, t2, p2, q2, s2⟩ := k g1
  refine ⟨g2, Nat.le_trans t2 t1, fun hx => ?_, fun hx hz => ?_, fun hx hz => ?_⟩
  · obtain ⟨hy, n1⟩ := p1 hx
    obtain ⟨hz, n2⟩ := p2 hy
    exact ⟨hz, by omega⟩
  · cases hy : y.failed
    · have := q1 hx hy
      have := q2 hy hz
      omega
    · rw [(p2 hy).1] at hz; cases hz
  · cases hy : y.failed
    · have := q1 hx hy
      have := s2 hy hz
      have := Nat.le_max_right (c1 + a2) c2
      omega
    · have := s1 hx hy
      have := (p2 hy).2
      have := Nat.le_max_left (c1 + a2) c2
      omega
theorem Bt.up {b a c b' a' c' : Nat} {x y : St} (h : Bt b a c x y) (hb : b' ≤ b) (ha : a ≤ a') (hc : c ≤ c') : Bt b' a' c' x y := fun g => by
  obtain ⟨g1, t1, p1, q1, s1⟩ := h g
  exact ⟨g1, t1, fun hx => ⟨(p1 hx).1, by have := (p1 hx).2; omega⟩, fun hx hy => by have := q1 hx hy; omega, fun hx hy => by have := s1 hx hy; omega⟩
theorem Bt.put {b a c : Nat} {x y : St} (h : Bt (b + 1) a c x y) (n : Nd) : Bt b (a + 1) (c + 1) x (add n y).2 := fun g => by
  obtain ⟨g1, t1, p1, q1, s1⟩ := h g
  have hl : (add n y).2.nodes.length = y.nodes.length + 1 := by show (y.nodes ++ [n]).length = _; simp
  have ht : (add n y).2.toks = y.toks := rfl
  refine ⟨⟨g1.one, g1.last, g1.none⟩, t1, fun hx => ⟨(p1 hx).1, by have := (p1 hx).2; omega⟩, fun hx hy => ?_, fun hx hy => ?_⟩
  · have := q1 hx hy; rw [ht, hl]; omega
  · have := s1 hx hy; rw [ht, hl]; omega
theorem bt_fail (b : Nat) (x : St) : Bt b 1 1 x (fail x).2 := fun g => by
  have hl : (fail x).2.nodes.length = x.nodes.length + 1 := by unfold fail; split <;> (show (_ ++ [_]).length = _; simp)
  have hf : (fail x).2.failed = true := by
    unfold fail; split
    · rename_i h; exact h
    · rfl
  have ht : (fail x).2.toks = [Ps.bad] := by
    unfold fail; split
    · rename_i h; exact g.none h
    · rfl
  refine ⟨⟨by rw [ht]; simp, fun T hT => by rw [ht] at hT; cases hT; exact .inr rfl, fun _ => ht⟩, by rw [ht]; exact g.one, fun h => ⟨hf, by omega⟩, fun _ h => (by rw [hf] at h; cases h), fun _ _ => ?_⟩
  have := g.one
  rw [ht, hl]; simp only [List.length_cons, List.length_nil]; omega
/-- What stands next, where it has not failed. -/
theorem nxt_bad {x : St} (g : Gs x) (h : x.failed = true) : nxt x = Ps.bad ∧ mark x = [] := by
  have := g.none h
  have hn : nxt x = Ps.bad := by unfold nxt; rw [this]; rfl
  exact ⟨hn, by unfold mark; rw [hn]; rfl⟩
theorem skip_gs {x : St} (g : Gs x) : Gs (skip x).2 := by
  unfold skip
  simp only
  split
  · rename_i h
    obtain ⟨T, l, e⟩ : ∃ T l, x.toks = T :: l := by
      cases hs : x.toks with
      | nil => rw [hs] at h; simp at h
      | cons T l => exact ⟨T, l, rfl⟩
    have h1 : 1 ≤ l.length := by rw [e, List.length_cons] at h; omega
    refine ⟨by show 1 ≤ x.toks.tail.length; rw [e]; exact h1, fun T' hT => g.last T' ?_, fun hf => ?_⟩
    · rw [e, List.getLast?_cons]
      have hT' : l.getLast? = some T' := by have h2 : x.toks.tail.getLast? = some T' := hT; rw [e] at h2; exact h2
      rw [hT']; rfl
    · have := g.none hf
      rw [this] at h; simp at h
  · exact g
theorem bt_skip (x : St) : Bt 0 0 0 x (skip x).2 := fun g => by
  have hf : (skip x).2.failed = x.failed ∧ (skip x).2.nodes = x.nodes := by unfold skip; simp only; split <;> exact ⟨rfl, rfl⟩
  have hl : (skip x).2.toks.length ≤ x.toks.length := by
    unfold skip; simp only; split
    · show x.toks.tail.length ≤ _; simp
    · exact Nat.le_refl _
  exact ⟨skip_gs g, hl, fun h => ⟨by rw [hf.1]; exact h, by rw [hf.2]; omega⟩, fun _ _ => by rw [hf.2]; omega, fun h1 h2 => by rw [hf.1, h1] at h2; cases h2⟩
theorem bt_skipK {x : St} (h0 : (nxt x).k ≠ 0) (h6 : (nxt x).k ≠ 6) : Bt 8 0 0 x (skip x).2 := fun g => by
  have hf : (skip x).2.failed = x.failed ∧ (skip x).2.nodes = x.nodes := by unfold skip; simp only; split <;> exact ⟨rfl, rfl⟩
  have h1 : 1 < x.toks.length := by
    rcases Nat.lt_or_ge 1 x.toks.length with h | h
    · exact h
    · exfalso
      have hl := g.one
      obtain ⟨T, e⟩ : ∃ T, x.toks = [T] := List.length_eq_one_iff.1 (by omega)
      have hT := g.last T (by rw [e]; rfl)
      have hn : nxt x = T := by unfold nxt; rw [e]; rfl
      rw [hn] at h0 h6
      rcases hT with h | h <;> contradiction
  have hl : (skip x).2.toks.length + 1 = x.toks.length := by
    unfold skip; simp only; rw [if_pos h1]
    show x.toks.tail.length + 1 = _; rw [List.length_tail]; omega
  exact ⟨skip_gs g, by omega, fun h => ⟨by rw [hf.1]; exact h, by rw [hf.2]; omega⟩, fun _ _ => by rw [hf.2]; omega, fun h1 h2 => by rw [hf.1, h1] at h2; cases h2⟩
theorem mark_k {x : St} (h : mark x ≠ []) : (nxt x).k ≠ 0 ∧ (nxt x).k ≠ 6 := by
  unfold mark at h
  split at h
  · omega
  · exact absurd rfl h
theorem bt_skipM {x : St} (h : mark x ≠ []) : Bt 8 0 0 x (skip x).2 := bt_skipK (mark_k h).1 (mark_k h).2
/-- Where it has not failed, what is said of that alone. -/
theorem Bt.good {b a c a' : Nat} {x y : St} (h : x.failed = false) (k : Bt b a c x y) : Bt b a' c x y := fun g => by
  obtain ⟨g1, t1, p1, q1, s1⟩ := k g
  exact ⟨g1, t1, fun h2 => (by rw [h] at h2; cases h2), q1, s1⟩
theorem Bt.goodK {b a c a' : Nat} {x y : St} (h : (nxt x).k ≠ 6) (k : Bt b a c x y) : Bt b a' c x y := fun g => by
  refine Bt.good ?_ k g
  cases hf : x.failed
  · rfl
  · exact absurd (by rw [(nxt_bad g hf).1]; rfl) h
theorem Bt.goodM {b a c a' : Nat} {x y : St} (h : mark x ≠ []) (k : Bt b a c x y) : Bt b a' c x y := Bt.goodK (mark_k h).2 k
theorem take_yes {m : List UInt8} {x y : St} (h : take m x = (true, y)) : mark x = m ∧ y = (skip x).2 := by
  unfold take at h
  split at h
  · rename_i h1; cases h; exact ⟨h1, rfl⟩
  · cases h
theorem take_no {m : List UInt8} {x y : St} (h : take m x = (false, y)) : y = x := by
  unfold take at h
  split at h
  · cases h
  · cases h; rfl
theorem bt_yes {m : List UInt8} {x y : St} (hm : m ≠ []) (h : take m x = (true, y)) : Bt 8 0 0 x y := by
  obtain ⟨h1, rfl⟩ := take_yes h
  exact bt_skipM (by rw [h1]; exact hm)
theorem Bt.goodY {m : List UInt8} {b a c a' : Nat} {x y z : St} (hm : m ≠ []) (h : take m x = (true, z)) (k : Bt b a c x y) : Bt b a' c x y := Bt.goodM (by rw [(take_yes h).1]; exact hm) k
theorem bt_no {m : List UInt8} {x y : St} (h : take m x = (false, y)) : Bt 0 0 0 x y := by rw [take_no h]; exact Bt.refl x
theorem bt_take {m : List UInt8} (hm : m ≠ []) (x : St) : Bt 0 0 0 x (take m x).2 := by
  rcases e : take m x with ⟨b, y⟩
  cases b
  · exact bt_no e
  · exact (bt_yes hm e).up (by omega) (by omega) (by omega)
theorem bt_want {m : List UInt8} (hm : m ≠ []) (x : St) : Bt 8 1 1 x (want m x).2 := by
  unfold want
  rcases e : take m x with ⟨b, y⟩
  cases b
  · have := take_no e
    subst this
    exact bt_fail 8 _
  · exact (bt_yes hm e).up (by omega) (by omega) (by omega)
theorem bt_textOf {ks : List Nat} (h0 : 0 ∉ ks) (h6 : 6 ∉ ks) (x : St) : Bt 8 1 1 x (textOf ks x).2 := by
  unfold textOf
  split
  · rename_i h
    exact (bt_skipK (fun e => h0 (e ▸ h)) (fun e => h6 (e ▸ h))).up (by omega) (by omega) (by omega)
  · exact bt_fail 8 _
theorem bt_name (x : St) : Bt 8 1 1 x (name x).2 := bt_textOf (by decide) (by decide) x
theorem bt_itemsLoop {α : Type} {item : M α} {b a c : Nat} (hac : a ≤ c) (hi : ∀ x, Bt b a c x (item x).2) : ∀ (f : Nat) (l : List α) (x : St), Bt 0 0 c x (itemsLoop item f l x).2
  | 0, l, x => (Bt.refl x).up (by omega) (by omega) (by omega)
  | f + 1, l, x => by
    unfold itemsLoop
    split
    · rename_i e; exact (bt_no e).up (by omega) (by omega) (by omega)
    · rename_i e; exact Bt.goodY (by simp) e ((((bt_yes (by simp) e).then (hi _)).then (bt_itemsLoop hac hi f _ _)).up (a' := a) (by omega) (by omega) (by omega))
theorem bt_items {α : Type} {item : M α} {b a c : Nat} {m : List UInt8} (hac : a ≤ c) (hm : m ≠ []) (hi : ∀ x, Bt b a c x (item x).2) (x : St) : Bt 8 (a + 1) (c + 1) x (items m item x).2 := by
  unfold items
  split
  · rename_i e; exact (bt_yes hm e).up (by omega) (by omega) (by omega)
  · rename_i e; exact ((((bt_no e).then (hi _)).then (bt_itemsLoop hac hi _ _ _)).then (bt_want hm _)).up (by omega) (by omega) (by omega)
theorem bt_chainLoop {lv : List UInt8 → Option Nd} (hlv : lv [] = none) {sub : M Nat} {a c : Nat} (hac : a ≤ c) (hs : ∀ x, Bt 1 a c x (sub x).2) : ∀ (f left : Nat) (x : St), Bt 0 0 (c + 1) x (chainLoop lv sub f left x).2
  | 0, left, x => (Bt.refl x).up (by omega) (by omega) (by omega)
  | f + 1, left, x => by
    unfold chainLoop
    split
    · exact (Bt.refl x).up (by omega) (by omega) (by omega)
    · rename_i n e
      have hm : mark x ≠ [] := fun h => by rw [h, hlv] at e; cases e
      exact Bt.goodM hm (Bt.up (a' := a + 1) (Bt.then (Bt.put (b := 8) (a := a) (c := c) (((bt_skipM hm).then (hs _)).up (by omega) (by omega) (by omega)) _) (bt_chainLoop hlv hac hs f _ _)) (by omega) (by omega) (by omega))
theorem bt_chain {part : M Nat} {a c : Nat} (hac : a ≤ c) (hp : ∀ x, Bt 1 a c x (part x).2) : ∀ (row : List (List UInt8 → Option Nd)), (∀ lv ∈ row, lv [] = none) → ∀ x, Bt 1 a (c + row.length) x (chain part row x).2
  | [], _, x => hp x
  | lv :: row, h, x => ((bt_chain hac hp row (fun l hl => h l (List.mem_cons_of_mem _ hl)) x).then (bt_chainLoop (h lv (List.mem_cons_self ..)) (by omega) (bt_chain hac hp row (fun l hl => h l (List.mem_cons_of_mem _ hl))) _ _ _)).up (by omega) (by omega) (by simp only [List.length_cons]; omega)
structure BtL (C : Nat) (L : Lv) : Prop where
  pos : 1 ≤ C
  e : ∀ x, Bt 1 1 C x (L.e x).2
  u : ∀ x, Bt 1 1 C x (L.u x).2
  p : ∀ x, Bt 1 1 C x (L.p x).2
  s : ∀ x, Bt 0 3 C x (L.s x).2
section
variable {C : Nat} {L : Lv}
theorem bt_choice (h : BtL C L) (x : St) : Bt 1 1 (C + 6) x (choice L x).2 := by
  have hC := h.pos
  have hb : ∀ lv ∈ binaries, lv [] = none := by intro lv hl; simp only [binaries, List.mem_cons, List.not_mem_nil, or_false] at hl; rcases hl with rfl | rfl | rfl | rfl <;> rfl
  have hl : ∀ lv ∈ logics, lv [] = none := by intro lv hl; simp only [logics, List.mem_cons, List.not_mem_nil, or_false] at hl; rcases hl with rfl | rfl <;> rfl
  have h0 : Bt 1 1 (C + 6) x (chain (chain L.u binaries) logics x).2 := bt_chain (by omega) (bt_chain hC h.u binaries hb) logics hl x
  unfold choice
  simp only
  split
  · rename_i e; exact (h0.then (bt_no e)).up (by omega) (by omega) (by omega)
  · rename_i y e
    have h1 := Bt.put (b := 8) (a := 3) (c := C + 2) ((((bt_yes (by simp) e).then (h.e _)).then (bt_want (m := [58]) (by simp) _)).then (h.e _) |>.up (by omega) (by omega) (by omega))
    exact (h0.then (Bt.goodY (a' := 0) (by simp) e ((h1 _).up (a' := 4) (c' := C + 3) (b' := 0) (by omega) (by omega) (by omega)))).up (by omega) (by omega) (by omega)
theorem bt_anyExpr (h : BtL C L) (x : St) : Bt 1 1 (C + 6) x (anyExpr L x).2 := by
  have hC := h.pos
  unfold anyExpr
  simp only
  split
  · rename_i e
    exact Bt.goodY (by simp) e ((Bt.put (b := 8) (a := 1) (c := C) (((bt_yes (by simp) e).then (h.e _)).up (by omega) (by omega) (by omega)) _).up (a' := 2) (by omega) (by omega) (by omega))
  · rename_i y e
    have h0 := ((bt_no e).then (bt_choice h y)).up (b' := 1) (a' := 1) (c' := C + 6) (by omega) (by omega) (by omega)
    generalize choice L y = t at *
    obtain ⟨t1, t2⟩ := t
    simp only at h0 ⊢
    generalize isTarget _ = tt
    cases tt
    · exact h0
    · simp only [if_true]
      split
      · rename_i e'; exact (h0.then (bt_no e')).up (by omega) (by omega) (by omega)
      · rename_i z e'
        have h1 := Bt.put (b := 8) (a := 1) (c := C) (((bt_yes (by simp) e').then (h.e _)).up (by omega) (by omega) (by omega))
        exact (h0.then (Bt.goodY (a' := 0) (by simp) e' ((h1 _).up (b' := 0) (a' := 2) (c' := C + 1) (by omega) (by omega) (by omega)))).up (by omega) (by omega) (by omega)
theorem bt_anyUnary (h : BtL C L) (x : St) : Bt 1 1 (C + 1) x (anyUnary L x).2 := by
  have hC := h.pos
  unfold anyUnary
  split
  · rename_i e
    have hm : mark x ≠ [] := by rcases e with e | e | e <;> rw [e] <;> simp
    exact Bt.goodM hm ((Bt.put (b := 8) (a := 1) (c := C) (((bt_skipM hm).then (h.u _)).up (by omega) (by omega) (by omega)) _).up (a' := 2) (by omega) (by omega) (by omega))
  · exact (h.p x).up (by omega) (by omega) (by omega)
theorem bt_inParens (h : BtL C L) (x : St) : Bt 17 3 (C + 3) x (inParens L x).2 := by
  have hC := h.pos
  exact (((bt_want (by simp) x).then (h.e _)).then (bt_want (by simp) _)).up (by omega) (by omega) (by omega)
theorem bt_statementsLoop (h : BtL C L) : ∀ (f : Nat) (l : List Nat) (x : St), Bt 0 0 C x (statementsLoop L f l x).2
  | 0, l, x => (Bt.refl x).up (by omega) (by omega) (by omega)
  | f + 1, l, x => by
    have hC := h.pos
    unfold statementsLoop
    split
    · rename_i e
      simp only [Bool.and_eq_true, Bool.not_eq_true'] at e
      exact Bt.good e.1 (((h.s x).then (bt_statementsLoop h f _ _)).up (a' := 3) (by omega) (by omega) (by omega))
    · exact (Bt.refl x).up (by omega) (by omega) (by omega)
theorem bt_statements (h : BtL C L) (x : St) : Bt 0 0 C x (statements L x).2 := by
  have hC := h.pos
  exact bt_statementsLoop h _ _ x
theorem bt_body (h : BtL C L) (x : St) : Bt 16 2 (C + 2) x (body L x).2 := by
  have hC := h.pos
  exact (((bt_want (by simp) x).then (bt_statements h _)).then (bt_want (by simp) _)).up (by omega) (by omega) (by omega)
theorem bt_func (h : BtL C L) (named : Bool) (x : St) : Bt 2 7 (C + 10) x (func L named x).2 := by
  have hC := h.pos
  have hn : ∀ y, Bt 0 1 1 y (if named || (nxt y).k = 3 then name y else ([], y)).2 := fun y => by
    split
    · exact (bt_name y).up (by omega) (by omega) (by omega)
    · exact (Bt.refl y).up (by omega) (by omega) (by omega)
  exact (Bt.put (b := 2) (a := 6) (c := C + 8) (((((((bt_skip x).then (bt_take (m := [42]) (by simp) _)).then (hn _)).then (bt_want (m := [40]) (by simp) _)).then (bt_items (m := [41]) (Nat.le_refl 1) (by simp) bt_name _)).then (bt_body h _)).up (by omega) (by omega) (by omega)) _).up (by omega) (by omega) (by omega)
theorem bt_pair (h : BtL C L) (x : St) : Bt 17 3 (C + 3) x (pair L x).2 := by
  have hC := h.pos
  exact (((bt_textOf (by decide) (by decide) x).then (bt_want (m := [58]) (by simp) _)).then (h.e _)).up (by omega) (by omega) (by omega)
theorem bt_leaf {x : St} (n : Nd) (h0 : (nxt x).k ≠ 0) (h6 : (nxt x).k ≠ 6) : Bt 7 1 1 x (leaf n x).2 := Bt.put (b := 7) (bt_skipK h0 h6) _
theorem bt_alone (h : BtL C L) (x : St) : Bt 1 1 (C + 10) x (alone L x).2 := by
  have hC := h.pos
  have lf : ∀ (n : Nd), mark x ≠ [] → Bt 1 1 (C + 10) x (leaf n x).2 := fun n hm => (bt_leaf n (mark_k hm).1 (mark_k hm).2).up (by omega) (by omega) (by omega)
  unfold alone
  dsimp only
  by_cases k1 : (nxt x).k = 1
  · rw [if_pos k1]; exact (bt_leaf _ (by omega) (by omega)).up (by omega) (by omega) (by omega)
  rw [if_neg k1]
  by_cases k2 : (nxt x).k = 2
  · rw [if_pos k2]; exact (bt_leaf _ (by omega) (by omega)).up (by omega) (by omega) (by omega)
  rw [if_neg k2]
  by_cases k3 : (nxt x).k = 3
  · rw [if_pos k3]; exact (bt_leaf _ (by omega) (by omega)).up (by omega) (by omega) (by omega)
  rw [if_neg k3]
  by_cases m0 : mark x = [116, 114, 117, 101]
  · rw [if_pos m0]; exact lf _ (by rw [m0]; simp)
  rw [if_neg m0]
  by_cases m1 : mark x = [102, 97, 108, 115, 101]
  · rw [if_pos m1]; exact lf _ (by rw [m1]; simp)
  rw [if_neg m1]
  by_cases m2 : mark x = [110, 117, 108, 108]
  · rw [if_pos m2]; exact lf _ (by rw [m2]; simp)
  rw [if_neg m2]
  by_cases m3 : mark x = [117, 110, 100, 101, 102, 105, 110, 101, 100]
  · rw [if_pos m3]; exact lf _ (by rw [m3]; simp)
  rw [if_neg m3]
  by_cases m4 : mark x = [116, 104, 105, 115]
  · rw [if_pos m4]; exact lf _ (by rw [m4]; simp)
  rw [if_neg m4]
  by_cases e : mark x = [40]
  · rw [if_pos e]; exact Bt.goodM (by rw [e]; simp) ((bt_inParens h x).up (a' := 3) (by omega) (by omega) (by omega))
  rw [if_neg e]
  by_cases e : mark x = [91]
  · rw [if_pos e]; exact Bt.goodM (by rw [e]; simp) ((Bt.put (b := 2) (a := 2) (c := C + 1) (((bt_skip x).then (bt_items (m := [93]) hC (by simp) h.e _)).up (by omega) (by omega) (by omega)) _).up (a' := 3) (by omega) (by omega) (by omega))
  rw [if_neg e]
  by_cases e : mark x = [123]
  · rw [if_pos e]; exact Bt.goodM (by rw [e]; simp) ((Bt.put (b := 2) (a := 4) (c := C + 4) (((bt_skip x).then (bt_items (m := [125]) (by omega) (by simp) (bt_pair h) _)).up (by omega) (by omega) (by omega)) _).up (a' := 5) (by omega) (by omega) (by omega))
  rw [if_neg e]
  by_cases e : mark x = [102, 117, 110, 99, 116, 105, 111, 110]
  · rw [if_pos e]; exact Bt.goodM (by rw [e]; simp) ((bt_func h false x).up (a' := 7) (by omega) (by omega) (by omega))
  rw [if_neg e]
  exact (bt_fail 1 x).up (by omega) (by omega) (by omega)
theorem bt_primaryLoop (h : BtL C L) : ∀ (f p : Nat) (x : St), Bt 0 0 (C + 5) x (primaryLoop L f p x).2
  | 0, p, x => (Bt.refl x).up (by omega) (by omega) (by omega)
  | f + 1, p, x => by
    have hC := h.pos
    unfold primaryLoop
    simp only
    split
    · rename_i e
      have h1 := Bt.put (b := 8) (a := 1) (c := 1) (((bt_yes (by simp) e).then (bt_textOf (ks := [3, 4]) (by decide) (by decide) _)).up (by omega) (by omega) (by omega))
      exact Bt.goodY (by simp) e (((h1 _).then (bt_primaryLoop h f _ _)).up (a' := 2) (by omega) (by omega) (by omega))
    rename_i e1
    have g1 := bt_no e1
    split
    · rename_i e
      have h1 := Bt.put (b := 8) (a := 2) (c := C + 1) (((bt_yes (by simp) e).then (h.e _)).then (bt_want (m := [93]) (by simp) _) |>.up (by omega) (by omega) (by omega))
      exact (g1.then (Bt.goodY (a' := 0) (by simp) e (((h1 _).then (bt_primaryLoop h f _ _)).up (b' := 0) (a' := 3) (c' := C + 5) (by omega) (by omega) (by omega)))).up (by omega) (by omega) (by omega)
    rename_i e2
    have g2 := g1.then (bt_no e2)
    split
    · rename_i e
      have h1 := Bt.put (b := 8) (a := 2) (c := C + 1) (((bt_yes (by simp) e).then (bt_items (m := [41]) hC (by simp) h.e _)).up (by omega) (by omega) (by omega))
      exact (g2.then (Bt.goodY (a' := 0) (by simp) e (((h1 _).then (bt_primaryLoop h f _ _)).up (b' := 0) (a' := 3) (c' := C + 5) (by omega) (by omega) (by omega)))).up (by omega) (by omega) (by omega)
    · rename_i e; exact (g2.then (bt_no e)).up (by omega) (by omega) (by omega)
theorem bt_primary (h : BtL C L) (x : St) : Bt 1 1 (C + 10) x (primary L x).2 := by
  have hC := h.pos
  exact ((bt_alone h x).then (bt_primaryLoop h _ _ _)).up (by omega) (by omega) (by omega)
theorem bt_endS (x : St) : Bt 0 1 1 x (endS x).2 := by
  unfold endS
  split
  · rename_i e; exact (bt_yes (by simp) e).up (by omega) (by omega) (by omega)
  · rename_i e
    have := take_no e
    subst this
    split
    · exact bt_fail 0 _
    · exact (Bt.refl _).up (by omega) (by omega) (by omega)
theorem bt_block (h : BtL C L) (x : St) : Bt 1 3 (C + 3) x (block L x).2 := by
  have hC := h.pos
  exact Bt.put (b := 1) ((bt_body h x).up (by omega) (Nat.le_refl _) (Nat.le_refl _)) _
theorem bt_inner (h : BtL C L) (x : St) : Bt 0 3 (C + 1) x (inner L x).2 := by
  have hC := h.pos
  unfold inner
  split
  · exact (bt_fail 0 x).up (by omega) (by omega) (by omega)
  · exact (h.s x).up (by omega) (by omega) (by omega)
theorem bt_ifS (h : BtL C L) {x : St} (hm : mark x ≠ []) : Bt 0 3 (C + 12) x (ifS L x).2 := by
  have hC := h.pos
  unfold ifS
  simp only
  have g := (((bt_skip x).then (bt_inParens h _)).then (bt_inner h _)).up (b' := 8) (a' := 6) (c' := C + 6) (by omega) (by omega) (by omega)
  split
  · rename_i e
    refine Bt.goodM hm (a := 20) ?_
    exact (Bt.put (b := 1) (a := 9) (c := C + 9) (((g.then (bt_yes (by simp) e)).then (bt_inner h _)).up (by omega) (by omega) (by omega)) _).up (by omega) (by omega) (by omega)
  · rename_i e
    refine Bt.goodM hm (a := 20) ?_
    exact (Bt.put (b := 1) (a := 6) (c := C + 6) ((g.then (bt_no e)).up (by omega) (by omega) (by omega)) _).up (by omega) (by omega) (by omega)
theorem bt_whileS (h : BtL C L) {x : St} (hm : mark x ≠ []) : Bt 0 3 (C + 12) x (whileS L x).2 := by
  have hC := h.pos
  exact
  Bt.goodM hm ((Bt.put (b := 1) (a := 6) (c := C + 6) ((((bt_skip x).then (bt_inParens h _)).then (bt_inner h _)).up (by omega) (by omega) (by omega)) _).up (a' := 7) (by omega) (by omega) (by omega))
theorem bt_jump (k : Nat) {x : St} (hm : mark x ≠ []) : Bt 0 3 (C + 12) x (jump k x).2 :=
  Bt.goodM hm ((Bt.put (b := 7) (a := 1) (c := 1) (((bt_skipM hm).then (bt_endS _)).up (by omega) (by omega) (by omega)) _).up (a' := 2) (by omega) (by omega) (by omega))
theorem bt_returnS (h : BtL C L) {x : St} (hm : mark x ≠ []) : Bt 0 3 (C + 12) x (returnS L x).2 := by
  have hC := h.pos
  unfold returnS
  simp only
  split
  · exact Bt.goodM hm ((Bt.put (b := 7) (a := 2) (c := C + 1) ((((bt_skipM hm).then (h.e _)).then (bt_endS _)).up (by omega) (by omega) (by omega)) _).up (a' := 3) (by omega) (by omega) (by omega))
  · exact Bt.goodM hm ((Bt.put (b := 7) (a := 1) (c := 1) (((bt_skipM hm).then (bt_endS _)).up (by omega) (by omega) (by omega)) _).up (a' := 2) (by omega) (by omega) (by omega))
theorem bt_throwS (h : BtL C L) {x : St} (hm : mark x ≠ []) : Bt 0 3 (C + 12) x (throwS L x).2 := by
  have hC := h.pos
  unfold throwS
  simp only
  split
  · exact ((bt_skipM hm).then (bt_fail 0 _)).up (by omega) (by omega) (by omega)
  · exact Bt.goodM hm ((Bt.put (b := 7) (a := 2) (c := C + 1) ((((bt_skipM hm).then (h.e _)).then (bt_endS _)).up (by omega) (by omega) (by omega)) _).up (a' := 3) (by omega) (by omega) (by omega))
theorem bt_tryS (h : BtL C L) {x : St} (hm : mark x ≠ []) : Bt 0 3 (C + 12) x (tryS L x).2 := by
  have hC := h.pos
  exact
  Bt.goodM hm ((Bt.put (b := 1) (a := 10) (c := C + 10) ((((((((bt_skipM hm).then (bt_block h _)).then (bt_want (m := [99, 97, 116, 99, 104]) (by simp) _)).then (bt_want (m := [40]) (by simp) _)).then (bt_name _)).then (bt_want (m := [41]) (by simp) _)).then (bt_block h _)).up (by omega) (by omega) (by omega)) _).up (a' := 11) (by omega) (by omega) (by omega))
theorem bt_binding (h : BtL C L) (k : Nat) {x : St} (hm : mark x ≠ []) : Bt 0 3 (C + 12) x (binding L k x).2 := by
  have hC := h.pos
  exact
  Bt.goodM hm ((Bt.put (b := 1) (a := 4) (c := C + 4) ((((((bt_skipM hm).then (bt_name _)).then (bt_want (m := [61]) (by simp) _)).then (h.e _)).then (bt_endS _)).up (by omega) (by omega) (by omega)) _).up (a' := 5) (by omega) (by omega) (by omega))
theorem bt_definition (h : BtL C L) {x : St} (hm : mark x ≠ []) : Bt 0 3 (C + 12) x (definition L x).2 := by
  have hC := h.pos
  exact
  Bt.goodM hm ((Bt.put (b := 1) (a := 7) (c := C + 10) (bt_func h true x) _).up (a' := 8) (by omega) (by omega) (by omega))
theorem bt_exprS (h : BtL C L) (x : St) : Bt 0 3 (C + 12) x (exprS L x).2 := by
  have hC := h.pos
  exact
  (Bt.put (b := 0) (a := 2) (c := C + 1) (((h.e x).then (bt_endS _)).up (by omega) (by omega) (by omega)) _).up (by omega) (by omega) (by omega)
theorem bt_anyStatement (h : BtL C L) (x : St) : Bt 0 3 (C + 12) x (anyStatement L x).2 := by
  have hC := h.pos
  unfold anyStatement
  simp only
  split
  · exact (bt_block h x).up (by omega) (by omega) (by omega)
  split
  · rename_i e; exact bt_ifS h (by rw [e]; simp)
  split
  · rename_i e; exact bt_whileS h (by rw [e]; simp)
  split
  · rename_i e; exact bt_jump 28 (by rw [e]; simp)
  split
  · rename_i e; exact bt_jump 29 (by rw [e]; simp)
  split
  · rename_i e; exact bt_returnS h (by rw [e]; simp)
  split
  · rename_i e; exact bt_throwS h (by rw [e]; simp)
  split
  · rename_i e; exact bt_tryS h (by rw [e]; simp)
  split
  · rename_i e; exact bt_binding h 21 (by rw [e]; simp)
  split
  · rename_i e; exact bt_binding h 22 (by rw [e]; simp)
  split
  · rename_i e; exact bt_definition h (by rw [e]; simp)
  · exact bt_exprS h x
end
theorem bt_lv : ∀ d, BtL (12 * d + 1) (lv d)
  | 0 => ⟨by omega, fun x => bt_fail 1 x, fun x => bt_fail 1 x, fun x => bt_fail 1 x, fun x => (bt_fail 0 x).up (by omega) (by omega) (by omega)⟩
  | d + 1 => by
    have h := bt_lv d
    exact ⟨by omega, fun x => (bt_anyExpr h x).up (by omega) (by omega) (by omega), fun x => (bt_anyUnary h x).up (by omega) (by omega) (by omega), fun x => (bt_primary h x).up (by omega) (by omega) (by omega), fun x => (bt_anyStatement h x).up (by omega) (by omega) (by omega)⟩
/-- A program's nodes are few. -/
theorem few (x : St) (g : Gs x) (hb : x.failed = false) (hn : x.nodes = []) (ht : x.toks.length ≤ 4097) : (statements (lv 40) x).2.nodes.length ≤ 40000 := by
  obtain ⟨_, _, _, q, s⟩ := bt_statements (bt_lv 40) x g
  rw [hn] at q s
  simp only [List.length_nil] at q s
  cases h : (statements (lv 40) x).2.failed
  · have := q hb h; omega
  · have := s hb h; omega
end Go.Proofs.YtpjmapoiinjakaaGreatDoor.Ps.Bd
end
section
namespace Go.Proofs.YtpjmapoiinjakaaGreatDoor.L
open Go.RowKit
set_option linter.unusedVariables false
/-- The bytes Z lie from the address on. -/
def Ns (w : World) (ad : Option Addr) (Z : List Nat) : Prop :=
  Z.length = 0 ∨ ∃ b off, ad = some ⟨b, off, none⟩ ∧ b < w.heap.size ∧ ∀ j (h : j < Z.length), w.cell? ⟨b, off + j, none⟩ = some (.int .u8 ((Z[j] : Nat) : Int))
theorem Ns.below {w w' : World} {ad : Option Addr} {Z : List Nat} (h : Ns w ad Z) (hb : Below w.heap.size w w') : Ns w' ad Z := by
  rcases h with h | ⟨b, off, h1, h2, h3⟩
  · exact .inl h
  · exact .inr ⟨b, off, h1, Nat.lt_of_lt_of_le h2 hb.size, fun j hj => (hb.cell h2).trans (h3 j hj)⟩
theorem Ns.at_ {w : World} {ad : Option Addr} {Z : List Nat} (h : Ns w ad Z) (hz : ∀ z ∈ Z, z < 256) {j : Nat} (hj : j < Z.length) : ∃ b off z, ad = some ⟨b, off, none⟩ ∧ b < w.heap.size ∧ w.cell? ⟨b, off + j, none⟩ = some (.int .u8 ((z : Nat) : Int)) ∧ z < 256 ∧ Z[j]? = some z := by
  rcases h with h | ⟨b, off, h1, h2, h3⟩
  · omega
  · exact ⟨b, off, Z[j], h1, h2, h3 j hj, hz _ (List.getElem_mem hj), List.getElem?_eq_getElem hj⟩
/-- What the walk is told of a slice of bytes that came in. -/
def IsB (w : World) (a : Option Addr) (len cap : Nat) (zs : List Int) : Prop :=
  (a = none ∧ len = 0 ∧ cap = 0 ∧ zs = []) ∨
  ∃ x, a = some x ∧ len ≤ cap ∧ cap ≤ maxLen ∧ zs.length = cap ∧ (∀ i, i < zs.length → w.cell? (x.add i) = some (.int .u8 (zs.getD i 0))) ∧ ∀ n ∈ zs, (Lit.int .u8 n).wf = true
theorem bytes_at {w : World} {a : Addr} {zs : List Int} (h : ∀ i, i < zs.length → w.cell? (a.add i) = some (.int .u8 (zs.getD i 0))) (hp : 0 < zs.length) :
    ∃ b off, a = ⟨b, off, none⟩ ∧ ∀ j, j < zs.length → w.cell? ⟨b, off + j, none⟩ = some (.int .u8 (zs.getD j 0)) := by
  obtain ⟨b, off, spot⟩ := a
  have hspot : spot = none := by simpa [Addr.add] using World.cell?_spot (h 0 hp)
  subst hspot
  exact ⟨b, off, rfl, fun j hj => by rw [← Go.WideShapes.add_plain]; exact h j hj⟩
theorem cell_lt {w : World} {b i : Nat} {v : Value} (h : w.cell? ⟨b, i, none⟩ = some v) : b < w.heap.size := by
  rcases Nat.lt_or_ge b w.heap.size with hg | hg
  · exact hg
  · simp [World.cell?, Array.getElem?_eq_none hg] at h
theorem IsB.ns {w : World} {a : Option Addr} {len cap : Nat} {zs : List Int} (h : IsB w a len cap zs) :
    ∃ Z : List Nat, Z.length = len ∧ len ≤ cap ∧ cap ≤ maxLen ∧ Ns w a Z ∧ ∀ z ∈ Z, z < 256 := by
  rcases h with ⟨rfl, rfl, rfl, rfl⟩ | ⟨x, rfl, hl, hm, hz, hc, hw⟩
  · exact ⟨[], rfl, Nat.le_refl _, Nat.zero_le _, .inl rfl, by simp⟩
  · refine ⟨(zs.take len).map Int.toNat, by rw [List.length_map, List.length_take]; omega, hl, hm, ?_, ?_⟩
    · by_cases h0 : len = 0
      · exact .inl (by simp [h0])
      · obtain ⟨b, off, rfl, hc2⟩ := bytes_at hc (by omega)
        refine .inr ⟨b, off, rfl, cell_lt (hc2 0 (by omega)), fun j hj => ?_⟩
        rw [List.length_map, List.length_take] at hj
        have hj2 : j < zs.length := by omega
        have hb := bounds_u8 (hw zs[j] (List.getElem_mem hj2))
        rw [hc2 j hj2]
        simp [List.getD, List.getElem?_eq_getElem hj2]
        omega
    · intro z hz2
      obtain ⟨n, hn, rfl⟩ := List.mem_map.1 hz2
      have hb := bounds_u8 (hw n (List.mem_of_mem_take hn))
      omega
def bitsL : List (List UInt8) := [[97], [98, 49], [36], [95, 120], [108, 101, 116], [99, 111, 110, 115, 116], [102, 117, 110, 99, 116, 105, 111, 110], [48], [55], [52, 50], [48, 48, 55], [50, 49, 52, 55, 52, 56, 51, 54, 52, 55], [50, 49, 52, 55, 52, 56, 51, 54, 52, 56], [51, 120], [34, 34], [34, 97, 32, 98, 34], [34, 92, 110, 92, 34, 34], [34, 92, 113, 34], [34], [40], [41], [123], [125], [91], [93], [59], [44], [46], [63], [58], [61], [61, 61], [61, 61, 61], [33], [33, 61], [33, 61, 61], [60], [60, 61], [62], [62, 61], [43], [45], [42], [47], [37], [38], [38, 38], [124], [124, 124], [47, 47], [47, 47, 32, 110, 111, 116, 101, 10], [32], [10], [9], [35], [128], [116, 114, 117, 101], [110, 117, 108, 108], [116, 104, 105, 115], [116, 121, 112, 101, 111, 102], [105, 102], [101, 108, 115, 101]]
theorem bits_any (w : World) : Calls Tryz.prog 15 #[] w fun e w' => e = .returned (.slice (some ⟨w.heap.size, 0, none⟩) 62 62) ∧ w' = w.alloc (.cells (strV bitsL) 9) := by
  go_enter Tryz.func15, Tryz.ntmps15
  go_wp2
  go_ret
  exact ⟨rfl, rfl⟩
theorem bits_small : ∀ s ∈ bitsL, s.length ≤ 10 := by decide
theorem bits_at (k : Nat) (h : k < 62) : ∃ u : ByteArray, u.size ≤ 10 ∧ u = ⟨(bitsL[k]'h).toArray⟩ := ⟨_, bits_small _ (List.getElem_mem (l := bitsL) h), rfl⟩
set_option maxRecDepth 100000 in
set_option maxHeartbeats 2000000 in
theorem made_any (a : Option Addr) (len cap : Nat) (zs : List Int) (w : World) (h : IsB w a len cap zs) :
    Calls Tryz.prog 7 #[.slice a len cap] w fun e w' => ∃ s : ByteArray, e = .returned (.string s) ∧ s.size ≤ 720 ∧ Below w.heap.size w w' := by
  obtain ⟨Z, rfl, hlc, hcm, hns, hz⟩ := h.ns
  clear h
  unfold maxLen at hcm
  have HBT : Hid (∀ W, Calls Tryz.prog 15 #[] W fun e w' => ∃ b, e = .returned (.slice (some ⟨b, 0, none⟩) 62 62) ∧ Lies w' b bitsL ∧ Below W.heap.size W w') := fun W => (bits_any W).mono (by
    rintro e w' ⟨rfl, rfl⟩
    exact ⟨_, rfl, lies_alloc _ _ _, (Below.refl _ _).alloc (Nat.le_refl _) _⟩)
  go_enter Tryz.func7, Tryz.ntmps7
  go_wp2_with fail
  refine Calls.mono (HBT.out _) ?_
  rintro e w1 ⟨b, rfl, ⟨hbl, hl⟩, hb1⟩
  have hns1 := hns.below hb1
  have HL : Hid (∀ k (h : k < 62), ∃ u : ByteArray, u.size ≤ 10 ∧ w1.cell? ⟨b, k, none⟩ = some (.string u)) := fun k h => by
    obtain ⟨u, hu, rfl⟩ := bits_at k h
    exact ⟨_, hu, hl k h⟩
  have HN : Hid (∀ k, k < Z.length → ∃ (g o z : Nat), a = some ⟨g, o, none⟩ ∧ w1.cell? ⟨g, o + k, none⟩ = some (.int .u8 (z : Int)) ∧ z < 256) := fun k h => by
    obtain ⟨g, o, z, h1, h2, h3, h4, h5⟩ := hns1.at_ hz h
    exact ⟨g, o, z, h1, h3, h4⟩
  have HB1 : Hid (_) := hb1
  clear HBT hns1 hns hz hl hbl hb1
  go_wp2_with fail
  go_loop [4, 5] (fun s i => ∃ (k : Nat) (S : ByteArray), k ≤ 60 ∧ i = .int .i64 (k : Int) ∧ s = .string S ∧ S.size ≤ 12 * k) (fun _ i => 60 - (intOf i).toNat)
  case atStart => exact ⟨0, ⟨#[]⟩, by omega, rfl, rfl, by decide⟩
  case round =>
    obtain ⟨k, S, hk, rfl, rfl, hS⟩ := hrel
    by_cases hlt : k < Z.length
    · have hlt' : (k : Int) < Z.length := by omega
      by_cases h60 : k < 60
      · have h60' : (k : Int) < 60 := by omega
        obtain ⟨g, o, z, ha, hc, hz⟩ := HN.out k hlt
        subst ha
        obtain ⟨u, hu, hcu⟩ := HL.out (z % 62) (Nat.mod_lt _ (by omega))
        have hm : (z : Int) % 62 = ((z % 62 : Nat) : Int) := by omega
        have hm2 : z % 62 < 62 := Nat.mod_lt _ (by omega)
        have hz' : (z : Int) < 256 := by omega
        have hs1 : ¬ 9223372036854775807 < S.size + u.size := by omega
        have hs2 : ¬ 9223372036854775807 < (S ++ u).size + 1 := by simp only [ByteArray.size_append]; omega
        have hsz : (S ++ u).size = S.size + u.size := ByteArray.size_append
        generalize z % 62 = m at *
        by_cases h128 : 128 ≤ z
        · have h128' : (128 : Int) ≤ z := by omega
          clear HN HL
          go_wp2
          go_round
          case rel => exact ⟨k + 1, _, by omega, by go_num, rfl, by have e1 : (⟨#[32]⟩ : ByteArray).size = 1 := rfl; simp only [ByteArray.size_append, e1] at *; omega⟩
          case measure => simp [intOf]; omega
        · have h128' : ¬ (128 : Int) ≤ z := by omega
          clear HN HL
          go_wp2
          go_round
          case rel => exact ⟨k + 1, _, by omega, by go_num, rfl, by have e1 : (⟨#[32]⟩ : ByteArray).size = 1 := rfl; simp only [ByteArray.size_append, e1] at *; omega⟩
          case measure => simp [intOf]; omega
      · have h60' : ¬ (k : Int) < 60 := by omega
        clear HN HL
        go_wp2
        go_ret
        exact ⟨_, rfl, by omega, HB1.out⟩
    · have hlt' : ¬ (k : Int) < Z.length := by omega
      clear HN HL
      go_wp2
      go_ret
      exact ⟨_, rfl, by omega, HB1.out⟩
end Go.Proofs.YtpjmapoiinjakaaGreatDoor.L
end
section
namespace Go.Proofs.YtpjmapoiinjakaaGreatDoor.R
open Go.RowKit
open L (tkA)
set_option linter.unusedVariables false
theorem told_of {W : World} {v : Value} {ns : List Ps.Nd} (h : Rd.Told W v ns) : Told W v ns := h
theorem gd_all (l : List UInt8) : Rp.Gd ⟨Lx.all l, [], false⟩ := ⟨(Lx.all_len l).1, (Lx.all_len l).2.2⟩
theorem fin_few (l : List UInt8) (h : l.length ≤ 4096) : (Rd.fin l).2.nodes.length ≤ 40000 := Rp.few _ (gd_all l) rfl rfl (by have := (Lx.all_len l).2.1; show (Lx.all l).length ≤ _; omega)
theorem final_few (l : List UInt8) (h : l.length ≤ 4096) : (Ps.final l).nodes.length ≤ 1000000000 := by
  have h0 := Ps.Bd.few ⟨Lx.all l, [], false, 0⟩ ⟨(Lx.all_len l).1, (Lx.all_len l).2.2, fun h => (nomatch h)⟩ rfl rfl (by have := (Lx.all_len l).2.1; show (Lx.all l).length ≤ _; omega)
  unfold Ps.final
  simp only
  generalize Ps.statements (Ps.lv 40) ⟨Lx.all l, [], false, 0⟩ = R at *
  obtain ⟨K, s⟩ := R
  simp only at h0 ⊢
  have h1 : (if (Ps.nxt s).k = 0 then s else (Ps.fail s).2).nodes.length ≤ 40001 := by
    split
    · omega
    · unfold Ps.fail; split <;> (show (_ ++ [_]).length ≤ _; simp; omega)
  show ((if (Ps.nxt s).k = 0 then s else (Ps.fail s).2).nodes ++ [_]).length ≤ _
  rw [List.length_append, List.length_singleton]; omega
theorem rparse_is (l : List UInt8) : Rp.rparse l = Ps.parse l := Rp.rparse_eq l (Lx.all_len l).1 (Lx.all_len l).2.2
/-- What a tree's nodes hold is little. -/
theorem tree_few (l : List UInt8) : (Rp.rparse l).1.length ≤ 1000000 ∧ ∀ x ∈ (Rp.rparse l).1, x.names.length ≤ 1000000 ∧ x.kids.length ≤ 1000000 := by
  rw [Rd.rparse_fin]
  by_cases h : 4096 < l.length
  · rw [if_pos h]; exact ⟨by simp, by simp⟩
  rw [if_neg h]
  split
  · exact ⟨by simp, by simp⟩
  · have h1 := fin_few l (by omega)
    obtain ⟨h2, h3⟩ := Rp.few_in ⟨Lx.all l, [], false⟩ (gd_all l) rfl (by have := (Lx.all_len l).2.1; show (Lx.all l).length ≤ _; omega)
    have h2 : ∀ n ∈ (Rd.fin l).2.nodes, Rp.Sm1 n := h2
    have h3 : (Rd.fin l).1.length ≤ 4098 := h3
    show ((Rd.fin l).2.nodes ++ [_]).length ≤ _ ∧ ∀ x ∈ (Rd.fin l).2.nodes ++ [_], _
    refine ⟨by rw [List.length_append, List.length_singleton]; omega, fun x hx => ?_⟩
    rcases List.mem_append.1 hx with hx | hx
    · have := h2 x hx; exact ⟨by have := this.1; omega, by have := this.2; omega⟩
    · rw [List.mem_singleton] at hx
      subst hx
      exact ⟨by simp, by show (Rd.fin l).1.length ≤ _; omega⟩
set_option maxRecDepth 100000 in
set_option maxHeartbeats 1000000 in
theorem sameTree_nil (ada adb : Option Addr) (ca cb : Nat) (w : World) : Calls Tryz.prog 13 #[.slice ada 0 ca, .slice adb 0 cb] w fun e w' => e = .returned (.bool true) ∧ Below w.heap.size w w' := by
  go_enter Tryz.func13, Tryz.ntmps13
  go_wp2_with fail
  go_loopw [5] (fun i W => i = .int .i64 0 ∧ Hid (Below w.heap.size w W)) (fun i _ => 0)
  case atStart => exact ⟨rfl, (show Below _ _ _ from Below.refl _ _)⟩
  case round =>
    obtain ⟨rfl, HB⟩ := hrel
    go_wp2_with fail
    go_ret
    exact ⟨rfl, HB.out⟩
theorem same_any {ns : List Ps.Nd} {ada adb : Option Addr} {na nb ca cb : Nat} {w : World} (ha : Told w (.slice ada na ca) ns) (hb : Told w (.slice adb nb cb) ns) (hs : ∀ x ∈ ns, x.names.length ≤ 1000000 ∧ x.kids.length ≤ 1000000) (hn : ns.length ≤ 1000000) :
    Calls Tryz.prog 13 #[.slice ada na ca, .slice adb nb cb] w fun e w' => e = .returned (.bool true) ∧ Below w.heap.size w w' := by
  by_cases h0 : ns = []
  · subst h0
    obtain ⟨_, a1, c1, _, e1, _⟩ := ha
    obtain ⟨_, a2, c2, _, e2, _⟩ := hb
    simp only [Value.slice.injEq, List.length_nil] at e1 e2
    obtain ⟨rfl, rfl, rfl⟩ := e1
    obtain ⟨rfl, rfl, rfl⟩ := e2
    exact sameTree_nil _ _ _ _ _
  · exact sameTree_any ha hb rfl hs hn h0
/-- The places of a tree's nodes, where they lie. -/
theorem Told.places {W : World} {ad : Option Addr} {n cap : Nat} {ns : List Ps.Nd} (h : Told W (.slice ad n cap) ns) : n = ns.length ∧ n ≤ cap ∧ ∀ k (hk : k < ns.length), ∃ g, ad = some ⟨g, 0, none⟩ ∧ g < W.heap.size ∧ W.cell? ⟨g, k * 6 + 5, none⟩ = some (.int .i64 (ns[k].a : Int)) := by
  by_cases h0 : ns = []
  · subst h0
    obtain ⟨_, a1, c1, _, e1, hc, _⟩ := h
    simp only [Value.slice.injEq, List.length_nil] at e1
    exact ⟨e1.2.1, by omega, fun k hk => by simp at hk⟩
  · obtain ⟨g, rfl, rfl, hg, hc, H⟩ := h.both h0
    refine ⟨rfl, hc, fun k hk => ?_⟩
    obtain ⟨an, ak, cn, ck, c, _⟩ := H k hk
    exact ⟨g, rfl, hg, c 5 (by omega)⟩
set_option maxRecDepth 100000 in
set_option maxHeartbeats 1000000 in
theorem like_any {ns : List Ps.Nd} {ada adb : Option Addr} {na nb ca cb : Nat} {w : World} (ha : Told w (.slice ada na ca) ns) (hb : Told w (.slice adb nb cb) ns) (hs : ∀ x ∈ ns, x.names.length ≤ 1000000 ∧ x.kids.length ≤ 1000000) (hn : ns.length ≤ 1000000) :
    Calls Tryz.prog 14 #[.slice ada na ca, .slice adb nb cb] w fun e w' => e = .returned (.bool true) ∧ Below w.heap.size w w' := by
  have HSM : Hid (_) := same_any ha hb hs hn
  obtain ⟨rfl, hca, HA⟩ := ha.places
  obtain ⟨rfl, hcb, HB⟩ := hb.places
  have HAA : Hid (_) := HA
  have HBB : Hid (_) := HB
  have HNN : Hid (ns.length ≤ 1000000) := hn
  clear ha hb HA HB hs hn
  go_enter Tryz.func14, Tryz.ntmps14
  go_wp2_with fail
  refine Calls.mono HSM.out ?_
  rintro e w1 ⟨rfl, hb1⟩
  have HB1 : Hid (_) := hb1
  clear hb1 HSM
  go_wp2_with fail
  go_loopw [5] (fun i W => ∃ k : Nat, k ≤ ns.length ∧ i = .int .i64 (k : Int) ∧ Hid (Below w.heap.size w W)) (fun i _ => ns.length - (L.intOf i).toNat)
  case atStart => exact ⟨0, by omega, rfl, HB1⟩
  case round =>
    obtain ⟨k, hk, rfl, HW⟩ := hrel
    by_cases hkl : k < ns.length
    · have hkl' : (k : Int) < ns.length := by omega
      have hk0 : (0 : Int) ≤ k := by omega
      obtain ⟨ga, rfl, hga, c1⟩ := HAA.out k hkl
      obtain ⟨gb, rfl, hgb, c2⟩ := HBB.out k hkl
      have d1 := (HW.out.cell (p := ⟨ga, k * 6 + 5, none⟩) hga).trans c1
      have d2 := (HW.out.cell (p := ⟨gb, k * 6 + 5, none⟩) hgb).trans c2
      have ga' := Nat.lt_of_lt_of_le hga HW.out.size
      have gb' := Nat.lt_of_lt_of_le hgb HW.out.size
      have hnn := HNN.out
      clear c1 c2 hga hgb HAA HBB HNN HB1
      generalize ns[k].a = pl at *
      generalize ns.length = nl at *
      go_upto_region 6 with fail
      go_quiet (fail)
      have HW2 : Hid (Below w.heap.size w (wr.drewN nq)) := HW.out.trans (below_drewN HW.out.size)
      go_wp2_with fail
      go_roundw
      case rel => exact ⟨k + 1, by omega, by go_num, HW2⟩
      case measure => simp [L.intOf] <;> omega
    · have hkl' : ¬ (k : Int) < ns.length := by omega
      clear HAA HBB
      go_wp2_with fail
      go_ret
      exact ⟨rfl, HW.out⟩
set_option maxRecDepth 100000 in
set_option maxHeartbeats 1000000 in
theorem is_core (s : ByteArray) (at_ : Nat) (ok : Bool) (ns : List Ps.Nd) (w : World)
    (HP : Hid (Calls Tryz.prog 12 #[.string s] w fun e w' => ∃ ad n cap, e = .returned (.tuple #[.slice ad n cap, .int .i64 (at_ : Int), .bool ok]) ∧ Hid (Told w' (.slice ad n cap) ns) ∧ Hid (Below w.heap.size w w')))
    (HR : Hid (∀ W, Calls Tryz.prog 10 #[.string s] W fun e w' => ∃ ad n cap, e = .returned (.agg #[.slice ad n cap, .int .i64 (at_ : Int), .bool ok]) ∧ Hid (Told w' (.slice ad n cap) ns) ∧ Hid (Below W.heap.size W w')))
    (HL : Hid (∀ {ada adb : Option Addr} {na nb ca cb : Nat} {w : World}, Told w (.slice ada na ca) ns → Told w (.slice adb nb cb) ns → Calls Tryz.prog 14 #[.slice ada na ca, .slice adb nb cb] w fun e w' => e = .returned (.bool true) ∧ Below w.heap.size w w')) :
    Calls Tryz.prog 6 #[.string s] w fun e w' => e = .returned (.bool true) ∧ Below w.heap.size w w' := by
  go_enter Tryz.func6, Tryz.ntmps6
  go_wp2_with fail
  refine Calls.mono HP.out ?_
  rintro e w1 ⟨ad1, n1, cap1, rfl, ht1, hb1⟩
  go_wp2_with fail
  refine Calls.mono (HR.out _) ?_
  rintro e w2 ⟨ad2, n2, cap2, rfl, ht2, hb2⟩
  have HLK : Hid (∀ o, Calls Tryz.prog 14 #[.slice ad1 n1 cap1, .slice ad2 n2 cap2] (w2.alloc o) fun e w' => e = .returned (.bool true) ∧ w2.heap.size < w'.heap.size ∧ w'.heap[w2.heap.size]? = (w2.alloc o).heap[w2.heap.size]? ∧ Hid (Below w.heap.size w w')) := fun o => by
    have hb := Below.alloc (Below.refl w2.heap.size w2) (Nat.le_refl _) o
    refine (HL.out ((ht1.out.below hb2.out).below hb) (ht2.out.below hb)).mono ?_
    rintro e w' ⟨rfl, hb'⟩
    have hsz := hb'.size
    rw [alloc_size'] at hsz
    refine ⟨rfl, by omega, hb'.block _ (by rw [alloc_size']; omega), ((hb1.out.trans (hb2.out.mono hb1.out.size)).trans (hb.mono (Nat.le_trans hb1.out.size hb2.out.size))).trans (hb'.mono ?_)⟩
    rw [alloc_size']; have := hb1.out.size; have := hb2.out.size; omega
  clear HP HR HL ht1 hb1 ht2 hb2
  go_wp2_with fail
  refine Calls.mono (HLK.out _) ?_
  rintro e w3 ⟨rfl, hl3, hk3, hb3⟩
  rw [heap_alloc_new] at hk3
  have c1 : w3.cell? ⟨w2.heap.size, 1, none⟩ = some (.int .i64 (at_ : Int)) := by simp [World.cell?, hk3]
  have c2 : w3.cell? ⟨w2.heap.size, 2, none⟩ = some (.bool ok) := by simp [World.cell?, hk3]
  clear hk3 HLK
  go_wp2_with fail
  go_ret
  exact ⟨by simp, hb3.out⟩
theorem is_any (l : List UInt8) (hl : l.length ≤ 4096) (w : World) (hg : L.Sig w) : Calls Tryz.prog 6 #[.string ⟨l.toArray⟩] w fun e w' => e = .returned (.bool true) ∧ Below w.heap.size w w' := by
  have hf := tree_few l
  have hp := Parse_any l w hg (final_few l hl)
  have hr := fun W => Rd.rParse_any l W (fun h => Nat.le_trans (fin_few l h) (by omega))
  rw [rparse_is] at hf hr
  generalize Ps.parse l = R at *
  obtain ⟨ns, at_, ok⟩ := R
  simp only at hf hp hr
  refine is_core _ at_ ok ns w (hp.mono ?_) (fun W => (hr W).mono ?_) (fun ha hb => like_any ha hb hf.2 hf.1)
  · rintro e w' ⟨v, rfl, ht, hb⟩
    obtain ⟨_, ad, cap, _, rfl, _⟩ := id ht
    exact ⟨ad, _, cap, rfl, ht, hb⟩
  · rintro e w' ⟨v, rfl, ht, hb⟩
    obtain ⟨_, ad, cap, _, rfl, _⟩ := id (told_of ht)
    exact ⟨ad, _, cap, rfl, told_of ht, hb⟩
set_option maxRecDepth 100000 in
set_option maxHeartbeats 1000000 in
theorem parseTexts_core (ad : Option Addr) (len cap : Nat) (w : World)
    (HM : Hid (Calls Tryz.prog 7 #[.slice ad len cap] w fun e w' => ∃ s : ByteArray, e = .returned (.string s) ∧ s.size ≤ 720 ∧ Below w.heap.size w w'))
    (HI : Hid (∀ (s : ByteArray) (W : World), s.size ≤ 720 → Below w.heap.size w W → Calls Tryz.prog 6 #[.string s] W fun e w' => e = .returned (.bool true) ∧ Below w.heap.size w w'))
    (HK : Hid (∀ W, Below w.heap.size w W → Calls Tryz.prog 8 #[] W fun e w' => e = .returned (.bool true) ∧ Below w.heap.size w w')) :
    Calls Tryz.prog 3 #[.slice ad len cap] w fun e w' => e = .returned (.bool true) ∧ Below w.heap.size w w' := by
  go_enter Tryz.func3, Tryz.ntmps3
  go_wp2_with fail
  refine Calls.mono HM.out ?_
  rintro e w1 ⟨s, rfl, hs, hb1⟩
  go_wp2_with fail
  refine Calls.mono (HI.out s _ hs hb1) ?_
  rintro e w2 ⟨rfl, hb2⟩
  go_wp2_with fail
  refine Calls.mono (HK.out _ hb2) ?_
  rintro e w3 ⟨rfl, hb3⟩
  go_wp2_with fail
  go_ret
  exact ⟨rfl, hb3⟩
theorem parseTexts_walk (ad : Option Addr) (len cap : Nat) (z : List Int) (w : World) (h : L.IsB w ad len cap z) (hg : L.Sig w) :
    Calls Tryz.prog 3 #[.slice ad len cap] w fun e w' => e = .returned (.bool true) ∧ Below w.heap.size w w' :=
  parseTexts_core ad len cap w (L.made_any _ _ _ _ w h) (fun s W hs hW => by
    have := is_any s.data.toList (by rw [L.size_list]; omega) W (hg.below hW)
    rw [L.mk_list] at this
    refine this.mono ?_
    rintro e w' ⟨rfl, hb⟩
    exact ⟨rfl, hW.trans (hb.mono hW.size)⟩) (fun W hW => (awake_any W (hg.below hW)).mono (by
    rintro e w' ⟨rfl, hb⟩
    exact ⟨rfl, hW.trans (hb.mono hW.size)⟩))
end Go.Proofs.YtpjmapoiinjakaaGreatDoor.R
end
