/- Texts: PsJ PsK PsH PsY. -/
import Derived.Test.YtpjmapoiinjakaaGreatDoorBn05
section
namespace Go.Proofs.YtpjmapoiinjakaaGreatDoor.R
open Go.RowKit
open L (tkA own_block)
set_option linter.unusedVariables false
set_option maxRecDepth 100000 in
set_option maxHeartbeats 2000000 in
theorem exprS_any {F : Nat → Prop} {base B dep : Nat} {L : Ps.Lv} {st : Ps.St} {nv : Value} {w : World} (hL : LvC F base B dep L) (h : RS F base B dep st nv w) (hlen : (Ps.exprS L st).2.nodes.length ≤ 1000000000) (hk : (L.e st).1 < (L.e st).2.nodes.length) :
    Calls Tryz.prog 87 #[.pointer (some ⟨B, 0, none⟩)] w fun e w' => e = .returned (.int .i64 ((Ps.exprS L st).1 : Int)) ∧ Leaves F base B dep nv w (Ps.exprS L st).2 w' := by
  have e1 : (Ps.exprS L st).1 = (Ps.endS (L.e st).2).2.nodes.length := rfl
  have e2 : (Ps.exprS L st).2 = (Ps.over { k := 24 } [(L.e st).1] (Ps.endS (L.e st).2).2).2 := rfl
  rw [e1, e2]
  rw [e2] at hlen
  have g1 := hL.gr.e st
  have g2 := Ps.gr_endS (L.e st).2
  have g3 := Ps.gr_over { k := 24 } [(L.e st).1] (Ps.endS (L.e st).2).2
  have H1 : Hid (_) := hL.e h (by omega)
  have H2 : Hid (∀ W nv', RS F base B dep (L.e st).2 nv' W → Calls Tryz.prog 98 #[.pointer (some ⟨B, 0, none⟩)] W fun e w' => e = .returned (.tuple #[]) ∧ Leaves F base B dep nv' W (Ps.endS (L.e st).2).2 w') := fun W nv' hW => endS_any hW (by omega)
  have H3 : Hid (∀ W nv', RS F base B dep (Ps.endS (L.e st).2).2 nv' W → Calls Tryz.prog 103 #[.pointer (some ⟨B, 0, none⟩), .agg #[.int .i64 24, .int .i64 0, .string ⟨#[]⟩, .slice none 0 0, .slice none 0 0, .int .i64 0], .slice (some ⟨W.heap.size, 0, none⟩) 1 1] (W.alloc (.cells #[.int .i64 ((L.e st).1 : Int)] 3)) fun e w' => e = .returned (.int .i64 ((Ps.endS (L.e st).2).2.nodes.length : Int)) ∧ Leaves F base B dep nv' W (Ps.over { k := 24 } [(L.e st).1] (Ps.endS (L.e st).2).2).2 w') := fun W nv' hW => by
    have hb : Below W.heap.size W (W.alloc (.cells #[.int .i64 ((L.e st).1 : Int)] 3)) := (Below.refl _ _).alloc (Nat.le_refl _) _
    refine (over_any (hW.below hb) (by omega) 24 [] (L.e st).1 [] W.heap.size 1 (by simp) (by simp) (fun j hj => ?_) (fun j hj => ?_) (by omega)).mono ?_
    · have hj0 : j = 0 := by simpa using hj
      subst hj0
      simp
    · have hj' : W.heap.size = j := by simpa [blockOf] using hj
      subst hj'
      refine ⟨by have := hW.lt; omega, fun e => ?_, fun hF => by have := (hW.far _ hF).1; omega⟩
      obtain ⟨vs, _, ho, _⟩ := hW.nd
      have := (own_block ho _ e).2
      omega
    · rintro e w' ⟨rfl, nv2, hr, hc⟩
      exact ⟨rfl, nv2, hr, (Chg.below nv' hb).trans hc⟩
  clear h hlen e1 e2 g1 g2 g3 hL hk
  generalize (Ps.over { k := 24 } [(L.e st).1] (Ps.endS (L.e st).2).2).2 = s3 at *
  generalize (Ps.endS (L.e st).2).2 = s2 at *
  generalize L.e st = P at *
  obtain ⟨r, s1⟩ := P
  simp only at H1 H2 H3 ⊢
  go_enter Tryz.func87, Tryz.ntmps87
  go_wp2_with fail
  refine Calls.mono H1.out ?_
  rintro e w1 ⟨rfl, nv1, hr1, hc1⟩
  go_wp2_with fail
  refine Calls.mono (H2.out _ _ hr1) ?_
  rintro e w2 ⟨rfl, nv2, hr2, hc2⟩
  go_wp2_with fail
  refine Calls.mono (H3.out _ _ hr2) ?_
  rintro e w3 ⟨rfl, nv3, hr3, hc3⟩
  go_wp2_with fail
  go_ret
  exact ⟨rfl, nv3, hr3, (hc1.trans hc2).trans hc3⟩
end Go.Proofs.YtpjmapoiinjakaaGreatDoor.R
end
section
namespace Go.Proofs.YtpjmapoiinjakaaGreatDoor.Ps
open Lx
set_option linter.unusedVariables false
/-- The place that is told is a node's. -/
def Ix (f : M Nat) : Prop := ∀ s, (f s).1 < (f s).2.nodes.length
theorem ix_add (n : Nd) : Ix (add n) := fun s => by simp [add]
theorem ix_fail : Ix fail := fun s => by
  unfold fail
  exact ix_add _ _
theorem ix_over (n : Nd) (k : List Nat) : Ix (over n k) := fun s => ix_add _ s
structure IxL (L : Lv) : Prop where
  e : Ix L.e
  u : Ix L.u
  p : Ix L.p
  s : Ix L.s
theorem ite_lt {c : Prop} [Decidable c] {a b : Nat × St} (ha : a.1 < a.2.nodes.length) (hb : b.1 < b.2.nodes.length) : (if c then a else b).1 < (if c then a else b).2.nodes.length := by split <;> assumption
theorem ix_chainLoop {lv : List UInt8 → Option Nd} {sub : M Nat} : ∀ (f left : Nat) (s : St), left < s.nodes.length → (chainLoop lv sub f left s).1 < (chainLoop lv sub f left s).2.nodes.length
  | 0, l, s, h => h
  | f + 1, l, s, h => by
    unfold chainLoop
    split
    · exact h
    · rename_i n _
      exact ix_chainLoop (lv := lv) (sub := sub) f _ _ (ix_over n [l, (sub (skip s).2).1] (sub (skip s).2).2)
theorem ix_chain {part : M Nat} (hp : Ix part) : ∀ (row : List (List UInt8 → Option Nd)), Ix (chain part row)
  | [], s => hp s
  | lv :: row, s => ix_chainLoop (lv := lv) _ _ _ (ix_chain hp row s)
theorem ix_choice {L : Lv} (h : IxL L) : Ix (choice L) := fun s => by
  unfold choice
  simp only []
  have h1 := ix_chain (ix_chain h.u binaries) logics s
  have h2 := take_n [63] (chain (chain L.u binaries) logics s).2
  generalize take [63] (chain (chain L.u binaries) logics s).2 = P at *
  obtain ⟨b, s'⟩ := P
  simp only at h2
  cases b
  · simp only [h2]; exact h1
  · exact ix_over _ _ _
theorem ix_leaf (n : Nd) : Ix (leaf n) := fun s => ix_add _ _
theorem ix_inParens {L : Lv} (h : IxL L) : Ix (inParens L) := fun s => Nat.lt_of_lt_of_le (h.e (want [40] s).2) (gr_want [41] _)
theorem ix_block (L : Lv) : Ix (block L) := fun s => ix_add _ _
theorem ix_inner {L : Lv} (h : IxL L) : Ix (inner L) := fun s => by
  unfold inner; exact ite_lt (ix_fail s) (h.s s)
theorem ix_jump (k : Nat) : Ix (jump k) := fun s => ix_add _ _
theorem ix_exprS (L : Lv) : Ix (exprS L) := fun s => ix_over _ _ _
theorem ix_whileS (L : Lv) : Ix (whileS L) := fun s => ix_add _ _
theorem ix_returnS (L : Lv) : Ix (returnS L) := fun s => by
  unfold returnS
  exact ite_lt (ix_add _ _) (ix_add _ _)
theorem ix_throwS (L : Lv) : Ix (throwS L) := fun s => by
  unfold throwS
  exact ite_lt (ix_fail _) (ix_add _ _)
theorem ix_tryS (L : Lv) : Ix (tryS L) := fun s => ix_add _ _
theorem ix_binding (L : Lv) (k : Nat) : Ix (binding L k) := fun s => ix_add _ _
theorem ix_func (L : Lv) (b : Bool) : Ix (func L b) := fun s => ix_add _ _
theorem ix_definition (L : Lv) : Ix (definition L) := fun s => ix_add _ _
theorem ix_ifS (L : Lv) : Ix (ifS L) := fun s => by
  unfold ifS
  simp only []
  generalize take [101, 108, 115, 101] (inner L (inParens L (skip s).2).2).2 = P
  obtain ⟨b, s'⟩ := P
  cases b <;> exact ix_add _ _
theorem ix_alone {L : Lv} (h : IxL L) : Ix (alone L) := fun s => by
  unfold alone
  exact (ite_lt (ix_leaf _ s) (ite_lt (ix_leaf _ s) (ite_lt (ix_leaf _ s) (ite_lt (ix_leaf _ s) (ite_lt (ix_leaf _ s) (ite_lt (ix_leaf _ s) (ite_lt (ix_leaf _ s) (ite_lt (ix_leaf _ s) (ite_lt (ix_inParens h s) (ite_lt (ix_add _ _) (ite_lt (ix_add _ _) (ite_lt (ix_func L false s) (ix_fail s)))))))))))))
theorem ix_primaryLoop {L : Lv} : ∀ (f p : Nat) (s : St), p < s.nodes.length → (primaryLoop L f p s).1 < (primaryLoop L f p s).2.nodes.length
  | 0, p, s, h => h
  | f + 1, p, s, h => by
    unfold primaryLoop
    have h1 := take_n [46] s
    generalize take [46] s = P at *
    obtain ⟨b, s1⟩ := P
    simp only at h1
    cases b
    · simp only []
      have h2 := take_n [91] s1
      generalize take [91] s1 = P at *
      obtain ⟨b, s2⟩ := P
      simp only at h2
      cases b
      · simp only []
        have h3 := take_n [40] s2
        generalize take [40] s2 = P at *
        obtain ⟨b, s3⟩ := P
        simp only at h3
        cases b
        · show p < s3.nodes.length
          rw [h3, h2, h1]; exact h
        · exact ix_primaryLoop f _ _ (ix_over _ _ _)
      · exact ix_primaryLoop f _ _ (ix_over _ _ _)
    · exact ix_primaryLoop f _ _ (ix_over _ _ _)
theorem ix_primary {L : Lv} (h : IxL L) : Ix (primary L) := fun s => ix_primaryLoop _ _ _ (ix_alone h s)
theorem ix_anyUnary {L : Lv} (h : IxL L) : Ix (anyUnary L) := fun s => by
  unfold anyUnary
  exact ite_lt (ix_add _ _) (h.p s)
theorem ix_anyExpr {L : Lv} (h : IxL L) : Ix (anyExpr L) := fun s => by
  unfold anyExpr
  generalize take [121, 105, 101, 108, 100] s = P
  obtain ⟨b, s1⟩ := P
  cases b
  · simp only []
    have h2 := ix_choice h s1
    split
    · have h3 := take_n [61] (choice L s1).2
      generalize take [61] (choice L s1).2 = P at *
      obtain ⟨b, s2⟩ := P
      simp only at h3
      cases b
      · simp only [h3]; exact h2
      · exact ix_over _ _ _
    · exact h2
  · exact ix_add _ _
theorem ix_anyStatement {L : Lv} : Ix (anyStatement L) := fun s => by
  unfold anyStatement
  exact (ite_lt (ix_block L s) (ite_lt (ix_ifS L s) (ite_lt (ix_whileS L s) (ite_lt (ix_jump 28 s) (ite_lt (ix_jump 29 s) (ite_lt (ix_returnS L s) (ite_lt (ix_throwS L s) (ite_lt (ix_tryS L s) (ite_lt (ix_binding L 21 s) (ite_lt (ix_binding L 22 s) (ite_lt (ix_definition L s) (ix_exprS L s))))))))))))
theorem ix_lv : ∀ d, IxL (lv d)
  | 0 => ⟨ix_fail, ix_fail, ix_fail, ix_fail⟩
  | d + 1 => ⟨ix_anyExpr (ix_lv d), ix_anyUnary (ix_lv d), ix_primary (ix_lv d), ix_anyStatement⟩
end Go.Proofs.YtpjmapoiinjakaaGreatDoor.Ps
end
section
namespace Go.Proofs.YtpjmapoiinjakaaGreatDoor.Ps
open Lx
set_option linter.unusedVariables false
/-- There is a token, and the last one is an end or bad. -/
structure Good (s : St) : Prop where
  one : 1 ≤ s.toks.length
  last : ∀ T, s.toks.getLast? = some T → T.k = 0 ∨ T.k = 6
/-- No more tokens than there were; what failed has failed. -/
structure Le (s t : St) : Prop where
  good : Good t
  le : t.toks.length ≤ s.toks.length
  fl : s.failed = true → t.failed = true
theorem Le.refl {s : St} (g : Good s) : Le s s := ⟨g, Nat.le_refl _, id⟩
theorem Le.trans {a b c : St} (h : Le a b) (k : Le b c) : Le a c := ⟨k.good, Nat.le_trans k.le h.le, fun e => k.fl (h.fl e)⟩
def Sh {α : Type} (f : M α) : Prop := ∀ s, Good s → Le s (f s).2
theorem Le.then {α : Type} {f : M α} {a b : St} (h : Le a b) (k : Sh f) : Le a (f b).2 := h.trans (k b h.good)
/-- It failed, or there are fewer tokens. -/
def Fw (s t : St) : Prop := t.failed = true ∨ t.toks.length < s.toks.length
theorem Fw.le {a b c : St} (h : Fw a b) (k : Le b c) : Fw a c := by
  rcases h with h | h
  · exact .inl (k.fl h)
  · exact .inr (Nat.lt_of_le_of_lt k.le h)
theorem Le.fw {a b c : St} (h : Le a b) (k : Fw b c) : Fw a c := by
  rcases k with k | k
  · exact .inl k
  · exact .inr (Nat.lt_of_lt_of_le k h.le)
def Go {α : Type} (f : M α) : Prop := ∀ s, Good s → Fw s (f s).2
theorem sh_skip : Sh skip := fun s g => by
  unfold skip
  simp only []
  split
  · rename_i h
    obtain ⟨T, L, e⟩ : ∃ T L, s.toks = T :: L := by
      cases hs : s.toks with
      | nil => rw [hs] at h; simp at h
      | cons T L => exact ⟨T, L, rfl⟩
    refine ⟨⟨by simp; omega, fun U hU => g.last U ?_⟩, by simp, id⟩
    rw [e] at hU ⊢
    rw [List.getLast?_cons, show L.getLast? = some U from hU]; rfl
  · exact Le.refl g
/-- Where a kind is not an end's or bad, more stands behind. -/
theorem more_of {s : St} (g : Good s) (h : ¬ ((nxt s).k = 0 ∨ (nxt s).k = 6)) : 1 < s.toks.length := by
  rcases Nat.lt_or_ge 1 s.toks.length with h1 | h1
  · exact h1
  · have h2 := g.one
    obtain ⟨T, e⟩ : ∃ T, s.toks = [T] := by
      cases hs : s.toks with
      | nil => rw [hs] at h2; simp at h2
      | cons T L =>
        cases L with
        | nil => exact ⟨T, rfl⟩
        | cons a b => rw [hs] at h1; simp at h1
    exact absurd (g.last T (by rw [e]; rfl)) (by
      have : nxt s = T := by unfold nxt; rw [e]; rfl
      rw [this] at h; exact h)
theorem fw_skip {s : St} (g : Good s) (h : ¬ ((nxt s).k = 0 ∨ (nxt s).k = 6)) : Fw s (skip s).2 := by
  have h1 := more_of g h
  refine .inr ?_
  unfold skip
  simp only []
  rw [if_pos h1]
  simp; omega
theorem mark_kind {s : St} (h : mark s ≠ []) : ¬ ((nxt s).k = 0 ∨ (nxt s).k = 6) := by
  unfold mark at h
  split at h
  · omega
  · exact absurd rfl h
theorem fw_mark {s : St} (g : Good s) (h : mark s ≠ []) : Fw s (skip s).2 := fw_skip g (mark_kind h)
theorem sh_take (m : List UInt8) : Sh (take m) := fun s g => by
  unfold take
  split
  · exact sh_skip s g
  · exact Le.refl g
theorem fw_take {s : St} (g : Good s) {m : List UInt8} (hm : m ≠ []) (h : (take m s).1 = true) : Fw s (take m s).2 := by
  unfold take at h ⊢
  split
  · rename_i e
    exact fw_mark g (by rw [e]; exact hm)
  · rename_i e
    rw [if_neg e] at h; cases h
theorem sh_add (n : Nd) : Sh (add n) := fun s g => ⟨⟨g.one, g.last⟩, Nat.le_refl _, id⟩
theorem bad_good (s : St) : Good { s with toks := [bad] } := ⟨Nat.le_refl _, fun T h => by
  have : T = bad := by simpa using h.symm
  subst this; exact .inr rfl⟩
theorem sh_fail : Sh fail := fun s g => by
  unfold fail
  split
  · exact sh_add _ s g
  · refine (sh_add _ { s with failed := true, at_ := (nxt s).a, toks := [bad] } ⟨Nat.le_refl _, fun T h => by
      have : T = bad := by simpa using h.symm
      subst this; exact .inr rfl⟩).good |> fun h => ⟨h, g.one, fun _ => rfl⟩
theorem failed_fail (s : St) : (fail s).2.failed = true := by
  unfold fail
  split
  · rename_i h; exact h
  · rfl
theorem go_fail : Go fail := fun s _ => .inl (failed_fail s)
theorem sh_want (m : List UInt8) : Sh (want m) := fun s g => by
  unfold want
  have h := sh_take m s g
  generalize take m s = P at *
  obtain ⟨b, s'⟩ := P
  simp only at h
  cases b
  · exact h.then sh_fail
  · exact h
theorem fw_want {s : St} (g : Good s) {m : List UInt8} (hm : m ≠ []) : Fw s (want m s).2 := by
  unfold want
  have h := @fw_take s g m hm
  generalize take m s = P at *
  obtain ⟨b, s'⟩ := P
  simp only at h
  cases b
  · exact .inl (failed_fail _)
  · exact h rfl
theorem sh_textOf (k : List Nat) : Sh (textOf k) := fun s g => by
  unfold textOf
  split
  · exact sh_skip s g
  · exact sh_fail s g
theorem sh_name : Sh name := sh_textOf _
theorem sh_over (n : Nd) (k : List Nat) : Sh (over n k) := fun s g => sh_add _ s g
theorem sh_itemsLoop {α : Type} {item : M α} (hi : Sh item) : ∀ (f : Nat) (l : List α), Sh (itemsLoop item f l)
  | 0, l, s, g => Le.refl g
  | f + 1, l, s, g => by
    unfold itemsLoop
    have h := sh_take [44] s g
    generalize take [44] s = P at *
    obtain ⟨b, s'⟩ := P
    simp only at h
    cases b
    · exact h
    · exact (h.then hi).then (sh_itemsLoop hi f _)
theorem sh_items {α : Type} {item : M α} (hi : Sh item) (m : List UInt8) : Sh (items m item) := fun s g => by
  unfold items
  have h := sh_take m s g
  generalize take m s = P at *
  obtain ⟨b, s'⟩ := P
  simp only at h
  cases b
  · exact ((h.then hi).then (sh_itemsLoop hi _ _)).then (sh_want m)
  · exact h
theorem sh_chainLoop {lv : List UInt8 → Option Nd} {sub : M Nat} (hs : Sh sub) : ∀ (f left : Nat), Sh (chainLoop lv sub f left)
  | 0, l, s, g => Le.refl g
  | f + 1, l, s, g => by
    unfold chainLoop
    split
    · exact Le.refl g
    · exact (((sh_skip s g).then hs).then (sh_over _ _)).then (sh_chainLoop hs f _)
theorem sh_chain {part : M Nat} (hp : Sh part) : ∀ (row : List (List UInt8 → Option Nd)), Sh (chain part row)
  | [], s, g => hp s g
  | lv :: row, s, g => (sh_chain hp row s g).then (sh_chainLoop (sh_chain hp row) _ _)
theorem go_chain {part : M Nat} (hp : Sh part) (hg : Go part) : ∀ (row : List (List UInt8 → Option Nd)), Go (chain part row)
  | [], s, g => hg s g
  | lv :: row, s, g => (go_chain hp hg row s g).le (sh_chainLoop (sh_chain hp row) _ _ _ (sh_chain hp row s g).good)
structure ShL (L : Lv) : Prop where
  e : Sh L.e
  u : Sh L.u
  p : Sh L.p
  s : Sh L.s
  ge : Go L.e
  gu : Go L.u
  gp : Go L.p
  gs : Go L.s
theorem sh_choice {L : Lv} (h : ShL L) : Sh (choice L) := fun s g => by
  unfold choice
  have h1 := sh_chain (sh_chain h.u binaries) logics s g
  have h2 := h1.then (sh_take [63])
  simp only []
  generalize take [63] (chain (chain L.u binaries) logics s).2 = P at *
  obtain ⟨b, s'⟩ := P
  simp only at h2
  cases b
  · exact h2
  · exact (((h2.then h.e).then (sh_want [58])).then h.e).then (sh_over _ _)
theorem go_choice {L : Lv} (h : ShL L) : Go (choice L) := fun s g => by
  have h0 := go_chain (sh_chain h.u binaries) (go_chain h.u h.gu binaries) logics s g
  unfold choice
  have h1 := sh_chain (sh_chain h.u binaries) logics s g
  have h2 := sh_take [63] _ h1.good
  simp only []
  generalize take [63] (chain (chain L.u binaries) logics s).2 = P at *
  obtain ⟨b, s'⟩ := P
  simp only at h2
  cases b
  · exact h0.le h2
  · exact h0.le ((((h2.then h.e).then (sh_want [58])).then h.e).then (sh_over _ _))
theorem sh_leaf (n : Nd) : Sh (leaf n) := fun s g => (sh_skip s g).then (sh_add _)
theorem fw_leaf (n : Nd) {s : St} (g : Good s) (h : ¬ ((nxt s).k = 0 ∨ (nxt s).k = 6)) : Fw s (leaf n s).2 := (fw_skip g h).le (sh_add _ _ (sh_skip s g).good)
theorem sh_inParens {L : Lv} (h : ShL L) : Sh (inParens L) := fun s g => ((sh_want [40] s g).then h.e).then (sh_want [41])
theorem go_inParens {L : Lv} (h : ShL L) : Go (inParens L) := fun s g => (fw_want g (by decide)).le (((Le.refl (sh_want [40] s g).good).then h.e).then (sh_want [41]))
theorem sh_statementsLoop {L : Lv} (h : ShL L) : ∀ (f : Nat) (l : List Nat), Sh (statementsLoop L f l)
  | 0, l, s, g => Le.refl g
  | f + 1, l, s, g => by
    unfold statementsLoop
    split
    · exact (h.s s g).then (sh_statementsLoop h f _)
    · exact Le.refl g
theorem sh_statements {L : Lv} (h : ShL L) : Sh (statements L) := fun s g => sh_statementsLoop h _ _ s g
theorem sh_body {L : Lv} (h : ShL L) : Sh (body L) := fun s g => ((sh_want [123] s g).then (sh_statements h)).then (sh_want [125])
theorem go_body {L : Lv} (h : ShL L) : Go (body L) := fun s g => (fw_want g (by decide)).le (((Le.refl (sh_want [123] s g).good).then (sh_statements h)).then (sh_want [125]))
theorem sh_endS : Sh endS := fun s g => by
  unfold endS
  have h := sh_take [59] s g
  generalize take [59] s = P at *
  obtain ⟨b, s'⟩ := P
  simp only at h
  cases b
  · simp only []
    split
    · exact h.then sh_fail
    · exact h
  · exact h
theorem sh_block {L : Lv} (h : ShL L) : Sh (block L) := fun s g => (sh_body h s g).then (sh_add _)
theorem go_block {L : Lv} (h : ShL L) : Go (block L) := fun s g => (go_body h s g).le (sh_add _ _ (sh_body h s g).good)
theorem sh_inner {L : Lv} (h : ShL L) : Sh (inner L) := fun s g => by
  unfold inner; split
  · exact sh_fail s g
  · exact h.s s g
theorem sh_jump (k : Nat) : Sh (jump k) := fun s g => ((sh_skip s g).then sh_endS).then (sh_add _)
theorem sh_exprS {L : Lv} (h : ShL L) : Sh (exprS L) := fun s g => ((h.e s g).then sh_endS).then (sh_over _ _)
theorem go_exprS {L : Lv} (h : ShL L) : Go (exprS L) := fun s g => (h.ge s g).le (((Le.refl (h.e s g).good).then sh_endS).then (sh_over _ _))
theorem sh_whileS {L : Lv} (h : ShL L) : Sh (whileS L) := fun s g => (((sh_skip s g).then (sh_inParens h)).then (sh_inner h)).then (sh_add _)
theorem sh_returnS {L : Lv} (h : ShL L) : Sh (returnS L) := fun s g => by
  unfold returnS
  have h0 := sh_skip s g
  simp only []
  split
  · exact ((h0.then h.e).then sh_endS).then (sh_add _)
  · exact (h0.then sh_endS).then (sh_add _)
theorem sh_throwS {L : Lv} (h : ShL L) : Sh (throwS L) := fun s g => by
  unfold throwS
  have h0 := sh_skip s g
  simp only []
  split
  · exact h0.then sh_fail
  · exact ((h0.then h.e).then sh_endS).then (sh_add _)
theorem le_tryS {L : Lv} (h : ShL L) {s t : St} (r : Le t (skip s).2) : Le t (tryS L s).2 := by
  unfold tryS
  simp only []
  have r1 := r.then (sh_block h)
  have r2 := r1.then (sh_want [99, 97, 116, 99, 104])
  have r3 := r2.then (sh_want [40])
  have r4 := r3.then sh_name
  have r5 := r4.then (sh_want [41])
  have r6 := r5.then (sh_block h)
  exact r6.then (sh_add _)
theorem sh_tryS {L : Lv} (h : ShL L) : Sh (tryS L) := fun s g => le_tryS h (sh_skip s g)
theorem le_binding {L : Lv} (h : ShL L) (k : Nat) {s t : St} (r : Le t (skip s).2) : Le t (binding L k s).2 := by
  unfold binding
  simp only []
  have r1 := r.then sh_name
  have r2 := r1.then (sh_want [61])
  have r3 := r2.then h.e
  have r4 := r3.then sh_endS
  exact r4.then (sh_add _)
theorem sh_binding {L : Lv} (h : ShL L) (k : Nat) : Sh (binding L k) := fun s g => le_binding h k (sh_skip s g)
theorem sh_func {L : Lv} (h : ShL L) (b : Bool) : Sh (func L b) := fun s g => by
  unfold func
  simp only []
  have h0 := (sh_skip s g).then (sh_take [42])
  have h1 : Le s (if (b || decide ((nxt (take [42] (skip s).2).2).k = 3)) = true then name (take [42] (skip s).2).2 else ([], (take [42] (skip s).2).2)).2 := by
    split
    · exact h0.then sh_name
    · exact h0
  exact (((h1.then (sh_want [40])).then (sh_items sh_name [41])).then (sh_body h)).then (sh_add _)
theorem sh_definition {L : Lv} (h : ShL L) : Sh (definition L) := fun s g => by
  have r := sh_func h true s g
  unfold definition
  simp only []
  generalize func L true s = P at *
  exact r.then (sh_add _)
theorem sh_ifS {L : Lv} (h : ShL L) : Sh (ifS L) := fun s g => by
  unfold ifS
  simp only []
  have h2 := ((((sh_skip s g).then (sh_inParens h)).then (sh_inner h))).then (sh_take [101, 108, 115, 101])
  generalize take [101, 108, 115, 101] (inner L (inParens L (skip s).2).2).2 = P at *
  obtain ⟨b, s'⟩ := P
  simp only at h2
  cases b
  · exact h2.then (sh_add _)
  · exact (h2.then (sh_inner h)).then (sh_add _)
theorem sh_pair {L : Lv} (h : ShL L) : Sh (pair L) := fun s g => ((sh_textOf [3, 4, 2] s g).then (sh_want [58])).then h.e
theorem ite_Le {c : Prop} [Decidable c] {s : St} {a b : Nat × St} (ha : Le s a.2) (hb : Le s b.2) : Le s (if c then a else b).2 := by split <;> assumption
theorem sh_arr {L : Lv} (h : ShL L) (s : St) (g : Good s) : Le s (add { k := 9, a := (skip s).1.a, kids := (items [93] L.e (skip s).2).1 } (items [93] L.e (skip s).2).2).2 := ((sh_skip s g).then (sh_items h.e [93])).then (sh_add _)
theorem sh_obj {L : Lv} (h : ShL L) (s : St) (g : Good s) : Le s (add { k := 8, a := (skip s).1.a, names := (items [125] (pair L) (skip s).2).1.map (·.1), kids := (items [125] (pair L) (skip s).2).1.map (·.2) } (items [125] (pair L) (skip s).2).2).2 := ((sh_skip s g).then (sh_items (sh_pair h) [125])).then (sh_add _)
theorem sh_alone {L : Lv} (h : ShL L) : Sh (alone L) := fun s g => by
  unfold alone
  exact (ite_Le (sh_leaf _ s g) (ite_Le (sh_leaf _ s g) (ite_Le (sh_leaf _ s g) (ite_Le (sh_leaf _ s g) (ite_Le (sh_leaf _ s g) (ite_Le (sh_leaf _ s g) (ite_Le (sh_leaf _ s g) (ite_Le (sh_leaf _ s g) (ite_Le (sh_inParens h s g) (ite_Le (sh_arr h s g) (ite_Le (sh_obj h s g) (ite_Le (sh_func h false s g) (sh_fail s g)))))))))))))
theorem ite_Fw {c : Prop} [Decidable c] {s : St} {a b : Nat × St} (ha : c → Fw s a.2) (hb : ¬ c → Fw s b.2) : Fw s (if c then a else b).2 := by
  split
  · exact ha ‹_›
  · exact hb ‹_›
theorem fw_arr {L : Lv} (h : ShL L) {s : St} (g : Good s) (hm : mark s ≠ []) : Fw s (add { k := 9, a := (skip s).1.a, kids := (items [93] L.e (skip s).2).1 } (items [93] L.e (skip s).2).2).2 := (fw_mark g hm).le (((Le.refl (sh_skip s g).good).then (sh_items h.e [93])).then (sh_add _))
theorem fw_obj {L : Lv} (h : ShL L) {s : St} (g : Good s) (hm : mark s ≠ []) : Fw s (add { k := 8, a := (skip s).1.a, names := (items [125] (pair L) (skip s).2).1.map (·.1), kids := (items [125] (pair L) (skip s).2).1.map (·.2) } (items [125] (pair L) (skip s).2).2).2 := (fw_mark g hm).le (((Le.refl (sh_skip s g).good).then (sh_items (sh_pair h) [125])).then (sh_add _))
theorem fw_func {L : Lv} (h : ShL L) (b : Bool) {s : St} (g : Good s) (hm : mark s ≠ []) : Fw s (func L b s).2 := by
  unfold func
  simp only []
  have h0 := (Le.refl (sh_skip s g).good).then (sh_take [42])
  have h1 : Le (skip s).2 (if (b || decide ((nxt (take [42] (skip s).2).2).k = 3)) = true then name (take [42] (skip s).2).2 else ([], (take [42] (skip s).2).2)).2 := by
    split
    · exact h0.then sh_name
    · exact h0
  exact (fw_mark g hm).le ((((h1.then (sh_want [40])).then (sh_items sh_name [41])).then (sh_body h)).then (sh_add _))
theorem mne {s : St} {c : UInt8} {l : List UInt8} (h : mark s = c :: l) : mark s ≠ [] := by rw [h]; exact List.cons_ne_nil _ _
theorem go_alone {L : Lv} (h : ShL L) : Go (alone L) := fun s g => by
  unfold alone
  exact ite_Fw (fun c => fw_leaf _ g (by omega)) fun _ => ite_Fw (fun c => fw_leaf _ g (by omega)) fun _ => ite_Fw (fun c => fw_leaf _ g (by omega)) fun _ => ite_Fw (fun c => fw_leaf _ g (mark_kind (mne c))) fun _ => ite_Fw (fun c => fw_leaf _ g (mark_kind (mne c))) fun _ => ite_Fw (fun c => fw_leaf _ g (mark_kind (mne c))) fun _ => ite_Fw (fun c => fw_leaf _ g (mark_kind (mne c))) fun _ => ite_Fw (fun c => fw_leaf _ g (mark_kind (mne c))) fun _ => ite_Fw (fun _ => go_inParens h s g) fun _ => ite_Fw (fun c => fw_arr h g (mne c)) fun _ => ite_Fw (fun c => fw_obj h g (mne c)) fun _ => ite_Fw (fun c => fw_func h false g (mne c)) fun _ => go_fail s g
theorem sh_primaryLoop {L : Lv} (h : ShL L) : ∀ (f p : Nat), Sh (primaryLoop L f p)
  | 0, p, s, g => Le.refl g
  | f + 1, p, s, g => by
    unfold primaryLoop
    have h1 := sh_take [46] s g
    generalize take [46] s = P at *
    obtain ⟨b, s1⟩ := P
    simp only at h1
    cases b
    · simp only []
      have h2 := h1.then (sh_take [91])
      generalize take [91] s1 = P at *
      obtain ⟨b, s2⟩ := P
      simp only at h2
      cases b
      · simp only []
        have h3 := h2.then (sh_take [40])
        generalize take [40] s2 = P at *
        obtain ⟨b, s3⟩ := P
        simp only at h3
        cases b
        · exact h3
        · exact ((h3.then (sh_items h.e [41])).then (sh_over _ _)).then (sh_primaryLoop h f _)
      · exact (((h2.then h.e).then (sh_want [93])).then (sh_over _ _)).then (sh_primaryLoop h f _)
    · exact ((h1.then (sh_textOf [3, 4])).then (sh_over _ _)).then (sh_primaryLoop h f _)
theorem sh_primary {L : Lv} (h : ShL L) : Sh (primary L) := fun s g => (sh_alone h s g).then (sh_primaryLoop h _ _)
theorem go_primary {L : Lv} (h : ShL L) : Go (primary L) := fun s g => (go_alone h s g).le (sh_primaryLoop h _ _ _ (sh_alone h s g).good)
theorem sh_anyUnary {L : Lv} (h : ShL L) : Sh (anyUnary L) := fun s g => by
  unfold anyUnary
  split
  · exact ((sh_skip s g).then h.u).then (sh_add _)
  · exact h.p s g
theorem go_anyUnary {L : Lv} (h : ShL L) : Go (anyUnary L) := fun s g => by
  unfold anyUnary
  split
  · rename_i e
    refine (fw_mark g ?_).le (((Le.refl (sh_skip s g).good).then h.u).then (sh_add _))
    rcases e with e | e | e <;> exact mne e
  · exact h.gp s g
theorem sh_anyExpr {L : Lv} (h : ShL L) : Sh (anyExpr L) := fun s g => by
  unfold anyExpr
  have h1 := sh_take [121, 105, 101, 108, 100] s g
  generalize take [121, 105, 101, 108, 100] s = P at *
  obtain ⟨b, s1⟩ := P
  simp only at h1
  cases b
  · simp only []
    have h2 := h1.then (sh_choice h)
    split
    · have h3 := h2.then (sh_take [61])
      generalize take [61] (choice L s1).2 = P at *
      obtain ⟨b, s2⟩ := P
      simp only at h3
      cases b
      · exact h3
      · exact (h3.then h.e).then (sh_over _ _)
    · exact h2
  · exact (h1.then h.e).then (sh_add _)
theorem go_anyExpr {L : Lv} (h : ShL L) : Go (anyExpr L) := fun s g => by
  unfold anyExpr
  have h1 := sh_take [121, 105, 101, 108, 100] s g
  have hf := @fw_take s g [121, 105, 101, 108, 100] (by decide)
  generalize take [121, 105, 101, 108, 100] s = P at *
  obtain ⟨b, s1⟩ := P
  simp only at h1 hf
  cases b
  · simp only []
    have h2 := h1.fw (go_choice h s1 h1.good)
    have h2' := sh_choice h s1 h1.good
    split
    · have h3 := sh_take [61] _ h2'.good
      generalize take [61] (choice L s1).2 = P at *
      obtain ⟨b, s2⟩ := P
      simp only at h3
      cases b
      · exact h2.le h3
      · exact h2.le ((h3.then h.e).then (sh_over _ _))
    · exact h2
  · exact (hf rfl).le (((Le.refl h1.good).then h.e).then (sh_add _))
theorem sh_anyStatement {L : Lv} (h : ShL L) : Sh (anyStatement L) := fun s g => by
  unfold anyStatement
  exact (ite_Le (sh_block h s g) (ite_Le (sh_ifS h s g) (ite_Le (sh_whileS h s g) (ite_Le (sh_jump 28 s g) (ite_Le (sh_jump 29 s g) (ite_Le (sh_returnS h s g) (ite_Le (sh_throwS h s g) (ite_Le (sh_tryS h s g) (ite_Le (sh_binding h 21 s g) (ite_Le (sh_binding h 22 s g) (ite_Le (sh_definition h s g) (sh_exprS h s g))))))))))))
/-- What goes behind the next token first has gone on. -/
theorem fw_of {s : St} (g : Good s) (hm : mark s ≠ []) {t : St} (h : Le (skip s).2 t) : Fw s t := (fw_mark g hm).le h
theorem fw_ifS {L : Lv} (h : ShL L) {s : St} (g : Good s) (hm : mark s ≠ []) : Fw s (ifS L s).2 := fw_of g hm (by
  unfold ifS
  simp only []
  have h2 := (((Le.refl (sh_skip s g).good).then (sh_inParens h)).then (sh_inner h)).then (sh_take [101, 108, 115, 101])
  generalize take [101, 108, 115, 101] (inner L (inParens L (skip s).2).2).2 = P at *
  obtain ⟨b, s'⟩ := P
  simp only at h2
  cases b
  · exact h2.then (sh_add _)
  · exact (h2.then (sh_inner h)).then (sh_add _))
theorem fw_returnS {L : Lv} (h : ShL L) {s : St} (g : Good s) (hm : mark s ≠ []) : Fw s (returnS L s).2 := fw_of g hm (by
  unfold returnS
  have h0 := Le.refl (sh_skip s g).good
  simp only []
  split
  · exact ((h0.then h.e).then sh_endS).then (sh_add _)
  · exact (h0.then sh_endS).then (sh_add _))
theorem fw_throwS {L : Lv} (h : ShL L) {s : St} (g : Good s) (hm : mark s ≠ []) : Fw s (throwS L s).2 := fw_of g hm (by
  unfold throwS
  have h0 := Le.refl (sh_skip s g).good
  simp only []
  split
  · exact h0.then sh_fail
  · exact ((h0.then h.e).then sh_endS).then (sh_add _))
theorem go_anyStatement {L : Lv} (h : ShL L) : Go (anyStatement L) := fun s g => by
  have r := Le.refl (sh_skip s g).good
  unfold anyStatement
  exact ite_Fw (fun _ => go_block h s g) fun _ => ite_Fw (fun c => fw_ifS h g (mne c)) fun _ =>
    ite_Fw (fun c => fw_of g (mne c) (((r.then (sh_inParens h)).then (sh_inner h)).then (sh_add _))) fun _ =>
    ite_Fw (fun c => fw_of g (mne c) ((r.then sh_endS).then (sh_add _))) fun _ =>
    ite_Fw (fun c => fw_of g (mne c) ((r.then sh_endS).then (sh_add _))) fun _ =>
    ite_Fw (fun c => fw_returnS h g (mne c)) fun _ => ite_Fw (fun c => fw_throwS h g (mne c)) fun _ =>
    ite_Fw (fun c => fw_of g (mne c) (le_tryS h r)) fun _ =>
    ite_Fw (fun c => fw_of g (mne c) (le_binding h _ r)) fun _ =>
    ite_Fw (fun c => fw_of g (mne c) (le_binding h _ r)) fun _ =>
    ite_Fw (fun c => (fw_func h true g (mne c)).le (sh_add _ _ (sh_func h true s g).good)) fun _ => go_exprS h s g
theorem sh_lv : ∀ d, ShL (lv d)
  | 0 => ⟨sh_fail, sh_fail, sh_fail, sh_fail, go_fail, go_fail, go_fail, go_fail⟩
  | d + 1 => ⟨sh_anyExpr (sh_lv d), sh_anyUnary (sh_lv d), sh_primary (sh_lv d), sh_anyStatement (sh_lv d), go_anyExpr (sh_lv d), go_anyUnary (sh_lv d), go_primary (sh_lv d), go_anyStatement (sh_lv d)⟩
end Go.Proofs.YtpjmapoiinjakaaGreatDoor.Ps
end
section
namespace Go.Proofs.YtpjmapoiinjakaaGreatDoor.R
open Go.RowKit
open L (tkA own_block own_below cells5h)
set_option linter.unusedVariables false
/-- At s a function tells r and leaves s'; nodes are not too many. -/
structure Ru {α : Type} (f : Ps.M α) (s : Ps.St) (r : α) (s' : Ps.St) : Prop where
  eq : f s = (r, s')
  small : s'.nodes.length ≤ 1000000000
theorem Ru.back {α : Type} {f : Ps.M α} {s : Ps.St} {r : α} {s' : Ps.St} (h : Ru f s r s') (g : Ps.Gr f) : s.nodes.length ≤ 1000000000 := by
  have := g s
  rw [h.eq] at this
  exact Nat.le_trans this h.small
theorem Ru.mk' {α : Type} {f : Ps.M α} {s : Ps.St} (n : (f s).2.nodes.length ≤ 1000000000) : Ru f s (f s).1 (f s).2 := ⟨rfl, n⟩
/-- Back along a step. -/
theorem gb {α : Type} {f : Ps.M α} {s : Ps.St} {r : α} {s' : Ps.St} (g : Ps.Gr f) (e : f s = (r, s')) (n : s'.nodes.length ≤ 1000000000) : s.nodes.length ≤ 1000000000 := (Ru.mk e n).back g
/-- A call ends with a value and leaves the reader in a state. -/
def Tells (F : Nat → Prop) (base B dep : Nat) (nv : Value) (w : World) (s' : Ps.St) (v : Value) : Ending → World → Prop := fun e w' => e = .returned v ∧ Leaves F base B dep nv w s' w'
section
variable {F : Nat → Prop} {base B dep : Nat} {s s' : Ps.St} {nv : Value} {w : World}
theorem c_next (h : RS F base B dep s nv w) : Calls Tryz.prog 22 #[.pointer (some ⟨B, 0, none⟩)] w (Tells F base B dep nv w s (.agg (tkA (Ps.nxt s)))) := by
  refine (next_any h).mono ?_
  rintro e w' ⟨rfl, hb⟩
  exact ⟨rfl, nv, h.below hb, Chg.below nv hb⟩
theorem c_mark (h : RS F base B dep s nv w) : Calls Tryz.prog 52 #[.pointer (some ⟨B, 0, none⟩)] w (Tells F base B dep nv w s (.string ⟨(Ps.mark s).toArray⟩)) := by
  refine (mark_any h).mono ?_
  rintro e w' ⟨rfl, hb⟩
  exact ⟨rfl, nv, h.below hb, Chg.below nv hb⟩
theorem c_closes (h : RS F base B dep s nv w) : Calls Tryz.prog 38 #[.pointer (some ⟨B, 0, none⟩)] w (Tells F base B dep nv w s (.bool (Ps.closes s))) := by
  refine (closes_any h).mono ?_
  rintro e w' ⟨rfl, hb⟩
  exact ⟨rfl, nv, h.below hb, Chg.below nv hb⟩
theorem c_skip {T : Lx.Tk} (E : Ru Ps.skip s T s') (h : RS F base B dep s nv w) : Calls Tryz.prog 94 #[.pointer (some ⟨B, 0, none⟩)] w (Tells F base B dep nv w s' (.agg (tkA T))) := by
  have e1 : Ps.nxt s = T := congrArg Prod.fst E.eq
  have e2 : (Ps.skip s).2 = s' := congrArg Prod.snd E.eq
  refine (skip_any h).mono ?_
  rintro e w' ⟨rfl, hr, hc⟩
  rw [e2] at hr
  exact ⟨by rw [e1], nv, hr, hc⟩
theorem c_take {b : Bool} {m : List UInt8} (E : Ru (Ps.take m) s b s') (h : RS F base B dep s nv w) : Calls Tryz.prog 97 #[.pointer (some ⟨B, 0, none⟩), .string ⟨m.toArray⟩] w (Tells F base B dep nv w s' (.bool b)) := by
  have e1 : (Ps.take m s).1 = b := congrArg Prod.fst E.eq
  have e2 : (Ps.take m s).2 = s' := congrArg Prod.snd E.eq
  refine (take_any h m).mono ?_
  rintro e w' ⟨rfl, hr, hc⟩
  rw [e2] at hr
  exact ⟨by rw [e1], nv, hr, hc⟩
theorem c_want {u : Unit} {m : List UInt8} (E : Ru (Ps.want m) s u s') (h : RS F base B dep s nv w) : Calls Tryz.prog 100 #[.pointer (some ⟨B, 0, none⟩), .string ⟨m.toArray⟩] w (Tells F base B dep nv w s' (.tuple #[])) := by
  have e2 : (Ps.want m s).2 = s' := congrArg Prod.snd E.eq
  have := want_any h (E.back (Ps.gr_want m)) m
  rw [e2] at this
  exact this
theorem c_name {t : List UInt8} (E : Ru Ps.name s t s') (h : RS F base B dep s nv w) : Calls Tryz.prog 101 #[.pointer (some ⟨B, 0, none⟩)] w (Tells F base B dep nv w s' (.string ⟨t.toArray⟩)) := by
  have := name_any h (E.back Ps.gr_name)
  rw [E.eq] at this
  exact this
theorem c_endS {u : Unit} (E : Ru Ps.endS s u s') (h : RS F base B dep s nv w) : Calls Tryz.prog 98 #[.pointer (some ⟨B, 0, none⟩)] w (Tells F base B dep nv w s' (.tuple #[])) := by
  have := endS_any h (E.back Ps.gr_endS)
  rw [E.eq] at this
  exact this
theorem c_fail {r : Nat} (E : Ru Ps.fail s r s') (h : RS F base B dep s nv w) : Calls Tryz.prog 23 #[.pointer (some ⟨B, 0, none⟩)] w (Tells F base B dep nv w s' (.int .i64 (r : Int))) := by
  have e1 : s.nodes.length = r := by
    have e0 : (Ps.fail s).1 = r := congrArg Prod.fst E.eq
    rw [← e0]; unfold Ps.fail; split <;> rfl
  have e2 : (Ps.fail s).2 = s' := congrArg Prod.snd E.eq
  have := fail_any h (E.back Ps.gr_fail)
  rw [e1, e2] at this
  exact this
theorem c_leaf {r k n : Nat} {t : List UInt8} (E : Ru (Ps.leaf { k := k, n := n, t := t }) s r s') (h : RS F base B dep s nv w) : Calls Tryz.prog 131 #[.pointer (some ⟨B, 0, none⟩), .agg #[.int .i64 (k : Int), .int .i64 (n : Int), .string ⟨t.toArray⟩, .slice none 0 0, .slice none 0 0, .int .i64 0]] w (Tells F base B dep nv w s' (.int .i64 (r : Int))) := by
  have e1 : s.nodes.length = r := by
    have e0 : (Ps.leaf { k := k, n := n, t := t } s).1 = r := congrArg Prod.fst E.eq
    rw [← e0]; show _ = (Ps.skip s).2.nodes.length; rw [skip_nodes]
  have e2 : (Ps.leaf { k := k, n := n, t := t } s).2 = s' := congrArg Prod.snd E.eq
  have := leaf_any h (E.back (Ps.gr_leaf _)) k n t
  rw [e1, e2] at this
  exact this
theorem c_e {L : Ps.Lv} (hL : ∀ F, LvC F base B dep L) {r : Nat} (E : Ru L.e s r s') (h : RS F base B dep s nv w) : Calls Tryz.prog 99 #[.pointer (some ⟨B, 0, none⟩)] w (Tells F base B dep nv w s' (.int .i64 (r : Int))) := by
  have := (hL F).e h (by rw [E.eq]; exact E.small)
  rw [E.eq] at this
  exact this
theorem c_u {L : Ps.Lv} (hL : ∀ F, LvC F base B dep L) {r : Nat} (E : Ru L.u s r s') (h : RS F base B dep s nv w) : Calls Tryz.prog 122 #[.pointer (some ⟨B, 0, none⟩)] w (Tells F base B dep nv w s' (.int .i64 (r : Int))) := by
  have := (hL F).u h (by rw [E.eq]; exact E.small)
  rw [E.eq] at this
  exact this
theorem c_s {L : Ps.Lv} (hL : ∀ F, LvC F base B dep L) {r : Nat} (E : Ru L.s s r s') (h : RS F base B dep s nv w) : Calls Tryz.prog 39 #[.pointer (some ⟨B, 0, none⟩)] w (Tells F base B dep nv w s' (.int .i64 (r : Int))) := by
  have := (hL F).s h (by rw [E.eq]; exact E.small)
  rw [E.eq] at this
  exact this
theorem c_inParens {L : Ps.Lv} (hL : ∀ F, LvC F base B dep L) {r : Nat} (E : Ru (Ps.inParens L) s r s') (h : RS F base B dep s nv w) : Calls Tryz.prog 95 #[.pointer (some ⟨B, 0, none⟩)] w (Tells F base B dep nv w s' (.int .i64 (r : Int))) := by
  have := inParens_any (hL F) h (by rw [E.eq]; exact E.small)
  rw [E.eq] at this
  exact this
theorem c_exprS {L : Ps.Lv} (hL : ∀ F, LvC F base B dep L) (hI : Ps.IxL L) {r : Nat} (E : Ru (Ps.exprS L) s r s') (h : RS F base B dep s nv w) : Calls Tryz.prog 87 #[.pointer (some ⟨B, 0, none⟩)] w (Tells F base B dep nv w s' (.int .i64 (r : Int))) := by
  have := exprS_any (hL F) h (by rw [E.eq]; exact E.small) (hI.e s)
  rw [E.eq] at this
  exact this
end
/-- Kids, names beside the reader. -/
structure KV (F : Nat → Prop) (B : Nat) (nv : Value) (W : World) (v : Value) (K : List Nat) : Prop where
  kids : KidsIn W v K
  ap : Apart F B nv v
  lt : ∀ k, blockOf v = some k → k < W.heap.size
  one : v.oneCell' = true
structure NV (F : Nat → Prop) (B : Nat) (nv : Value) (W : World) (v : Value) (K : List (List UInt8)) : Prop where
  names : NamesIn W v K
  ap : Apart F B nv v
  lt : ∀ k, blockOf v = some k → k < W.heap.size
  one : v.oneCell' = true
theorem KV.nil (F : Nat → Prop) (B : Nat) (nv : Value) (W : World) : KV F B nv W (.slice none 0 0) [] := ⟨⟨none, 0, rfl, Nat.le_refl _, .inl rfl⟩, (fun _ h => nomatch h), (fun _ h => nomatch h), rfl⟩
theorem NV.nil (F : Nat → Prop) (B : Nat) (nv : Value) (W : World) : NV F B nv W (.slice none 0 0) [] := ⟨⟨none, 0, rfl, Nat.le_refl _, .inl rfl⟩, (fun _ h => nomatch h), (fun _ h => nomatch h), rfl⟩
theorem KV.go {F : Nat → Prop} {B : Nat} {nv nv' v : Value} {W W' : World} {K : List Nat} (h : KV F B nv W v K) (c : Chg B nv nv' W W') : KV F B nv' W' v K := ⟨h.kids.go h.ap c, h.ap.go h.lt c, fun k hk => Nat.lt_of_lt_of_le (h.lt k hk) c.size, h.one⟩
theorem NV.go {F : Nat → Prop} {B : Nat} {nv nv' v : Value} {W W' : World} {K : List (List UInt8)} (h : NV F B nv W v K) (c : Chg B nv nv' W W') : NV F B nv' W' v K := ⟨h.names.go h.ap c, h.ap.go h.lt c, fun k hk => Nat.lt_of_lt_of_le (h.lt k hk) c.size, h.one⟩
theorem KV.set {F : Nat → Prop} {B : Nat} {nv v : Value} {W : World} {K : List Nat} (h : KV F B nv W v K) {X : Nat} (hX : F X) (i : Nat) (u : Value) : KV F B nv (W.setCell ⟨X, i, none⟩ u) v K := by
  have hs : (W.setCell ⟨X, i, none⟩ u).heap.size = W.heap.size := by simp [World.setCell]
  exact ⟨h.kids.same (by rw [hs]; exact Nat.le_refl _) (fun k hk _ => Below.heap_setCell W ⟨X, i, none⟩ u k (by show k ≠ X; intro e; exact (h.ap k hk).2.2 (e ▸ hX))), h.ap, fun k hk => by rw [hs]; exact h.lt k hk, h.one⟩
theorem NV.set {F : Nat → Prop} {B : Nat} {nv v : Value} {W : World} {K : List (List UInt8)} (h : NV F B nv W v K) {X : Nat} (hX : F X) (i : Nat) (u : Value) : NV F B nv (W.setCell ⟨X, i, none⟩ u) v K := by
  have hs : (W.setCell ⟨X, i, none⟩ u).heap.size = W.heap.size := by simp [World.setCell]
  exact ⟨h.names.same (by rw [hs]; exact Nat.le_refl _) (fun k hk _ => Below.heap_setCell W ⟨X, i, none⟩ u k (by show k ≠ X; intro e; exact (h.ap k hk).2.2 (e ▸ hX))), h.ap, fun k hk => by rw [hs]; exact h.lt k hk, h.one⟩
theorem KV.less {F F' : Nat → Prop} {B : Nat} {nv v : Value} {W : World} {K : List Nat} (h : KV F B nv W v K) (hF : ∀ k, F' k → F k) : KV F' B nv W v K := ⟨h.kids, fun k hk => ⟨(h.ap k hk).1, (h.ap k hk).2.1, fun e => (h.ap k hk).2.2 (hF k e)⟩, h.lt, h.one⟩
theorem NV.less {F F' : Nat → Prop} {B : Nat} {nv v : Value} {W : World} {K : List (List UInt8)} (h : NV F B nv W v K) (hF : ∀ k, F' k → F k) : NV F' B nv W v K := ⟨h.names, fun k hk => ⟨(h.ap k hk).1, (h.ap k hk).2.1, fun e => (h.ap k hk).2.2 (hF k e)⟩, h.lt, h.one⟩
/-- Kids that are written down in a new block. -/
theorem KV.lit {F : Nat → Prop} {base B dep : Nat} {s : Ps.St} {nv : Value} {W : World} (h : RS F base B dep s nv W) (K : List Nat) (V : Array Value) (n : Nat) (hn : n = K.length) (hV : ∀ j (h : j < K.length), V[j]? = some (.int .i64 (K[j] : Int))) : KV F B nv (W.alloc (.cells V 3)) (.slice (some ⟨W.heap.size, 0, none⟩) n n) K := by
  subst hn
  have hX : (W.alloc (.cells V 3)).heap[W.heap.size]? = some (.cells V 3 (0, 0)) := Array.getElem?_push_size
  refine ⟨⟨_, _, rfl, Nat.le_refl _, .inr ⟨_, rfl, by rw [alloc_size']; omega, fun j hj => ?_⟩⟩, fun j hj => ?_, fun j hj => ?_, rfl⟩
  · unfold World.cell?; rw [hX]; simpa using hV j hj
  · have hj' : W.heap.size = j := by simpa [blockOf] using hj
    subst hj'
    refine ⟨by have := h.lt; omega, fun e => ?_, fun hF => by have := (h.far _ hF).1; omega⟩
    obtain ⟨vs, _, ho, _⟩ := h.nd
    have := (own_block ho _ e).2
    omega
  · have hj' : W.heap.size = j := by simpa [blockOf] using hj
    rw [alloc_size']; omega
theorem c_addV {F : Nat → Prop} {base B dep : Nat} {s s' : Ps.St} {nv : Value} {w : World} {r k n a : Nat} {t : List UInt8} {N : List (List UInt8)} {K : List Nat} (E : Ru (Ps.add { k := k, n := n, t := t, names := N, kids := K, a := a }) s r s') (h : RS F base B dep s nv w) {nmv kv : Value} (hN : NV F B nv w nmv N) (hK : KV F B nv w kv K) :
    Calls Tryz.prog 24 #[.pointer (some ⟨B, 0, none⟩), .agg #[.int .i64 (k : Int), .int .i64 (n : Int), .string ⟨t.toArray⟩, nmv, kv, .int .i64 (a : Int)]] w (Tells F base B dep nv w s' (.int .i64 (r : Int))) := by
  have e1 : s.nodes.length = r := congrArg Prod.fst E.eq
  have e2 : (Ps.add { k := k, n := n, t := t, names := N, kids := K, a := a } s).2 = s' := congrArg Prod.snd E.eq
  have := add_any h h.hbw (E.back (Ps.gr_add _)) { k := k, n := n, t := t, names := N, kids := K, a := a } nmv kv ⟨hN.names, hK.kids, hN.ap, hK.ap, hN.lt, hK.lt⟩ hN.one hK.one
  rw [e1, e2] at this
  exact this
/-- A node whose kids are written down just ahead. -/
theorem c_addL {F : Nat → Prop} {base B dep : Nat} {s s' : Ps.St} {nv : Value} {w : World} {r k a : Nat} {t : List UInt8} {K : List Nat} (E : Ru (Ps.add { k := k, t := t, kids := K, a := a }) s r s') (h : RS F base B dep s nv w) (V : Array Value) (n : Nat) (hn : n = K.length) (hV : ∀ j (h : j < K.length), V[j]? = some (.int .i64 (K[j] : Int))) :
    Calls Tryz.prog 24 #[.pointer (some ⟨B, 0, none⟩), .agg #[.int .i64 (k : Int), .int .i64 0, .string ⟨t.toArray⟩, .slice none 0 0, .slice (some ⟨w.heap.size, 0, none⟩) n n, .int .i64 (a : Int)]] (w.alloc (.cells V 3)) (Tells F base B dep nv w s' (.int .i64 (r : Int))) := by
  have hb : Below w.heap.size w (w.alloc (.cells V 3)) := (Below.refl _ _).alloc (Nat.le_refl _) _
  refine (c_addV E (h.below hb) (NV.nil _ _ _ _) (KV.lit h K V n hn hV)).mono ?_
  rintro e w' ⟨rfl, nv', hr, hc⟩
  exact ⟨rfl, nv', hr, (Chg.below nv hb).trans hc⟩
theorem c_over {F : Nat → Prop} {base B dep : Nat} {s s' : Ps.St} {nv : Value} {w : World} {r k : Nat} {t : List UInt8} {k0 : Nat} {K : List Nat} (E : Ru (Ps.over { k := k, t := t } (k0 :: K)) s r s') (h : RS F base B dep s nv w) (hk : k0 < s.nodes.length) (V : Array Value) (n : Nat) (hn : n = (k0 :: K).length) (hV : ∀ j (h : j < (k0 :: K).length), V[j]? = some (.int .i64 ((k0 :: K)[j] : Int))) :
    Calls Tryz.prog 103 #[.pointer (some ⟨B, 0, none⟩), .agg #[.int .i64 (k : Int), .int .i64 0, .string ⟨t.toArray⟩, .slice none 0 0, .slice none 0 0, .int .i64 0], .slice (some ⟨w.heap.size, 0, none⟩) n n] (w.alloc (.cells V 3)) (Tells F base B dep nv w s' (.int .i64 (r : Int))) := by
  have e1 : s.nodes.length = r := congrArg Prod.fst E.eq
  have e2 : (Ps.over { k := k, t := t } (k0 :: K) s).2 = s' := congrArg Prod.snd E.eq
  have hb : Below w.heap.size w (w.alloc (.cells V 3)) := (Below.refl _ _).alloc (Nat.le_refl _) _
  have hkv := KV.lit h (k0 :: K) V n hn hV
  subst hn
  have := over_any (h.below hb) (E.back (Ps.gr_over _ _)) k t k0 K w.heap.size (k0 :: K).length (Nat.le_refl _) (by rw [alloc_size']; omega) (fun j hj => by
    obtain ⟨ad, cap, e, _, h⟩ := hkv.kids
    simp only [Value.slice.injEq] at e
    obtain ⟨rfl, _, _⟩ := e
    obtain ⟨g, e, _, h2⟩ := h.resolve_left (by simp)
    simp only [Option.some.injEq, Addr.mk.injEq, and_true] at e
    subst e
    exact h2 j hj) hkv.ap hk
  rw [e1, e2] at this
  refine this.mono ?_
  rintro e w' ⟨rfl, nv', hr, hc⟩
  exact ⟨rfl, nv', hr, (Chg.below nv hb).trans hc⟩
/-- A box of a node beside the reader. -/
structure Box (F : Nat → Prop) (W : World) (X : Nat) (x0 x1 x2 x3 x4 x5 : Value) : Prop where
  cells : W.heap[X]? = some (.cells #[x0, x1, x2, x3, x4, x5] 43 (0, 0))
  far : F X
theorem Box.facts {F : Nat → Prop} {W : World} {X : Nat} {x0 x1 x2 x3 x4 x5 : Value} (h : Box F W X x0 x1 x2 x3 x4 x5) :
    (W.cell? ⟨X, 0, none⟩ = some x0 ∧ W.cell? ⟨X, 1, none⟩ = some x1 ∧ W.cell? ⟨X, 2, none⟩ = some x2 ∧ W.cell? ⟨X, 3, none⟩ = some x3 ∧ W.cell? ⟨X, 4, none⟩ = some x4 ∧ W.cell? ⟨X, 5, none⟩ = some x5) ∧ (W.frozen? ⟨X, 1, none⟩ = false ∧ W.frozen? ⟨X, 2, none⟩ = false ∧ W.frozen? ⟨X, 3, none⟩ = false ∧ W.frozen? ⟨X, 4, none⟩ = false) ∧ X < W.heap.size := by
  have hc := h.cells
  exact ⟨by refine ⟨?_, ?_, ?_, ?_, ?_, ?_⟩ <;> simp [World.cell?, hc], by refine ⟨?_, ?_, ?_, ?_⟩ <;> simp [World.frozen?, hc], Nat.lt_of_not_le fun hg => by rw [Array.getElem?_eq_none hg] at hc; cases hc⟩
theorem Box.go {F : Nat → Prop} {base B dep : Nat} {s : Ps.St} {nv nv' : Value} {W W' : World} {X : Nat} {x0 x1 x2 x3 x4 x5 : Value} (h : Box F W X x0 x1 x2 x3 x4 x5) (hr : RS F base B dep s nv W) (c : Chg B nv nv' W W') : Box F W' X x0 x1 x2 x3 x4 x5 :=
  ⟨(c.block X (hr.far X h.far).1 (hr.far X h.far).2.1 (hr.far X h.far).2.2).trans h.cells, h.far⟩
theorem Box.alloc {F : Nat → Prop} {W : World} {X : Nat} {x0 x1 x2 x3 x4 x5 : Value} (h : Box F W X x0 x1 x2 x3 x4 x5) (o : Obj) : Box F (W.alloc o) X x0 x1 x2 x3 x4 x5 := ⟨(Below.heap_alloc W o X h.facts.2.2).trans h.cells, h.far⟩
theorem Box.set1 {F : Nat → Prop} {W : World} {X : Nat} {x0 x1 x2 x3 x4 x5 : Value} (h : Box F W X x0 x1 x2 x3 x4 x5) (u : Value) : Box F (W.setCell ⟨X, 1, none⟩ u) X x0 u x2 x3 x4 x5 := ⟨by have := h.cells; simp [World.setCell, Array.getElem?_modify, this], h.far⟩
theorem Box.set2 {F : Nat → Prop} {W : World} {X : Nat} {x0 x1 x2 x3 x4 x5 : Value} (h : Box F W X x0 x1 x2 x3 x4 x5) (u : Value) : Box F (W.setCell ⟨X, 2, none⟩ u) X x0 x1 u x3 x4 x5 := ⟨by have := h.cells; simp [World.setCell, Array.getElem?_modify, this], h.far⟩
theorem Box.set3 {F : Nat → Prop} {W : World} {X : Nat} {x0 x1 x2 x3 x4 x5 : Value} (h : Box F W X x0 x1 x2 x3 x4 x5) (u : Value) : Box F (W.setCell ⟨X, 3, none⟩ u) X x0 x1 x2 u x4 x5 := ⟨by have := h.cells; simp [World.setCell, Array.getElem?_modify, this], h.far⟩
theorem Box.set4 {F : Nat → Prop} {W : World} {X : Nat} {x0 x1 x2 x3 x4 x5 : Value} (h : Box F W X x0 x1 x2 x3 x4 x5) (u : Value) : Box F (W.setCell ⟨X, 4, none⟩ u) X x0 x1 x2 x3 u x5 := ⟨by have := h.cells; simp [World.setCell, Array.getElem?_modify, this], h.far⟩
/-- A new box, and what is written there. -/
theorem RS.box {F : Nat → Prop} {base B dep : Nat} {s : Ps.St} {nv : Value} {W : World} (h : RS F base B dep s nv W) (y0 y1 y2 y3 y4 y5 : Value) :
    RS (fun k => F k ∨ k = W.heap.size) base B dep s nv (W.alloc (.cells #[y0, y1, y2, y3, y4, y5] 43)) ∧ Chg B nv nv W (W.alloc (.cells #[y0, y1, y2, y3, y4, y5] 43)) ∧ Box (fun k => F k ∨ k = W.heap.size) (W.alloc (.cells #[y0, y1, y2, y3, y4, y5] 43)) W.heap.size y0 y1 y2 y3 y4 y5 :=
  ⟨h.more _, (Chg.refl B nv W).alloc _, ⟨Array.getElem?_push_size, .inr rfl⟩⟩
end Go.Proofs.YtpjmapoiinjakaaGreatDoor.R
end
