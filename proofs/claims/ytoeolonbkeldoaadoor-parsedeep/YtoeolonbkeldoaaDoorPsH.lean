/- Tokens only get fewer, and what failed has failed: each of the parser's functions, by lists. -/
import Derived.Test.YtoeolonbkeldoaaDoorPsG
namespace Go.Proofs.YtoeolonbkeldoaaDoor.Ps
open Lx
set_option linter.unusedVariables false
/-- There is a token, and the last one is an end or bad. -/
structure Good (s : St) : Prop where
  one : 1 ≤ s.toks.length
  last : ∀ T, s.toks.getLast? = some T → T.k = 0 ∨ T.k = 6
/-- No more tokens than there were; what failed has failed. -/
structure Le (s t : St) : Prop where
  good : Good t
  le : t.toks.length ≤ s.toks.length
  fl : s.failed = true → t.failed = true
theorem Le.refl {s : St} (g : Good s) : Le s s := ⟨g, Nat.le_refl _, id⟩
theorem Le.trans {a b c : St} (h : Le a b) (k : Le b c) : Le a c := ⟨k.good, Nat.le_trans k.le h.le, fun e => k.fl (h.fl e)⟩
def Sh {α : Type} (f : M α) : Prop := ∀ s, Good s → Le s (f s).2
theorem Le.then {α : Type} {f : M α} {a b : St} (h : Le a b) (k : Sh f) : Le a (f b).2 := h.trans (k b h.good)
/-- It failed, or there are fewer tokens. -/
def Fw (s t : St) : Prop := t.failed = true ∨ t.toks.length < s.toks.length
theorem Fw.le {a b c : St} (h : Fw a b) (k : Le b c) : Fw a c := by
  rcases h with h | h
  · exact .inl (k.fl h)
  · exact .inr (Nat.lt_of_le_of_lt k.le h)
theorem Le.fw {a b c : St} (h : Le a b) (k : Fw b c) : Fw a c := by
  rcases k with k | k
  · exact .inl k
  · exact .inr (Nat.lt_of_lt_of_le k h.le)
def Go {α : Type} (f : M α) : Prop := ∀ s, Good s → Fw s (f s).2
theorem sh_skip : Sh skip := fun s g => by
  unfold skip
  simp only []
  split
  · rename_i h
    obtain ⟨T, L, e⟩ : ∃ T L, s.toks = T :: L := by
      cases hs : s.toks with
      | nil => rw [hs] at h; simp at h
      | cons T L => exact ⟨T, L, rfl⟩
    refine ⟨⟨by simp; omega, fun U hU => g.last U ?_⟩, by simp, id⟩
    rw [e] at hU ⊢
    rw [List.getLast?_cons, show L.getLast? = some U from hU]; rfl
  · exact Le.refl g
/-- Where a kind is not an end's or bad, more stands behind. -/
theorem more_of {s : St} (g : Good s) (h : ¬ ((nxt s).k = 0 ∨ (nxt s).k = 6)) : 1 < s.toks.length := by
  rcases Nat.lt_or_ge 1 s.toks.length with h1 | h1
  · exact h1
  · have h2 := g.one
    obtain ⟨T, e⟩ : ∃ T, s.toks = [T] := by
      cases hs : s.toks with
      | nil => rw [hs] at h2; simp at h2
      | cons T L =>
        cases L with
        | nil => exact ⟨T, rfl⟩
        | cons a b => rw [hs] at h1; simp at h1
    exact absurd (g.last T (by rw [e]; rfl)) (by
      have : nxt s = T := by unfold nxt; rw [e]; rfl
      rw [this] at h; exact h)
theorem fw_skip {s : St} (g : Good s) (h : ¬ ((nxt s).k = 0 ∨ (nxt s).k = 6)) : Fw s (skip s).2 := by
  have h1 := more_of g h
  refine .inr ?_
  unfold skip
  simp only []
  rw [if_pos h1]
  simp; omega
theorem mark_kind {s : St} (h : mark s ≠ []) : ¬ ((nxt s).k = 0 ∨ (nxt s).k = 6) := by
  unfold mark at h
  split at h
  · omega
  · exact absurd rfl h
theorem fw_mark {s : St} (g : Good s) (h : mark s ≠ []) : Fw s (skip s).2 := fw_skip g (mark_kind h)
theorem sh_take (m : List UInt8) : Sh (take m) := fun s g => by
  unfold take
  split
  · exact sh_skip s g
  · exact Le.refl g
theorem fw_take {s : St} (g : Good s) {m : List UInt8} (hm : m ≠ []) (h : (take m s).1 = true) : Fw s (take m s).2 := by
  unfold take at h ⊢
  split
  · rename_i e
    exact fw_mark g (by rw [e]; exact hm)
  · rename_i e
    rw [if_neg e] at h; cases h
theorem sh_add (n : Nd) : Sh (add n) := fun s g => ⟨⟨g.one, g.last⟩, Nat.le_refl _, id⟩
theorem bad_good (s : St) : Good { s with toks := [bad] } := ⟨Nat.le_refl _, fun T h => by
  have : T = bad := by simpa using h.symm
  subst this; exact .inr rfl⟩
theorem sh_fail : Sh fail := fun s g => by
  unfold fail
  split
  · exact sh_add _ s g
  · refine (sh_add _ { s with failed := true, at_ := (nxt s).a, toks := [bad] } ⟨Nat.le_refl _, fun T h => by
      have : T = bad := by simpa using h.symm
      subst this; exact .inr rfl⟩).good |> fun h => ⟨h, g.one, fun _ => rfl⟩
theorem failed_fail (s : St) : (fail s).2.failed = true := by
  unfold fail
  split
  · rename_i h; exact h
  · rfl
theorem go_fail : Go fail := fun s _ => .inl (failed_fail s)
theorem sh_want (m : List UInt8) : Sh (want m) := fun s g => by
  unfold want
  have h := sh_take m s g
  generalize take m s = P at *
  obtain ⟨b, s'⟩ := P
  simp only at h
  cases b
  · exact h.then sh_fail
  · exact h
theorem fw_want {s : St} (g : Good s) {m : List UInt8} (hm : m ≠ []) : Fw s (want m s).2 := by
  unfold want
  have h := @fw_take s g m hm
  generalize take m s = P at *
  obtain ⟨b, s'⟩ := P
  simp only at h
  cases b
  · exact .inl (failed_fail _)
  · exact h rfl
theorem sh_textOf (k : List Nat) : Sh (textOf k) := fun s g => by
  unfold textOf
  split
  · exact sh_skip s g
  · exact sh_fail s g
theorem sh_name : Sh name := sh_textOf _
theorem sh_over (n : Nd) (k : List Nat) : Sh (over n k) := fun s g => sh_add _ s g
theorem sh_itemsLoop {α : Type} {item : M α} (hi : Sh item) : ∀ (f : Nat) (l : List α), Sh (itemsLoop item f l)
  | 0, l, s, g => Le.refl g
  | f + 1, l, s, g => by
    unfold itemsLoop
    have h := sh_take [44] s g
    generalize take [44] s = P at *
    obtain ⟨b, s'⟩ := P
    simp only at h
    cases b
    · exact h
    · exact (h.then hi).then (sh_itemsLoop hi f _)
theorem sh_items {α : Type} {item : M α} (hi : Sh item) (m : List UInt8) : Sh (items m item) := fun s g => by
  unfold items
  have h := sh_take m s g
  generalize take m s = P at *
  obtain ⟨b, s'⟩ := P
  simp only at h
  cases b
  · exact ((h.then hi).then (sh_itemsLoop hi _ _)).then (sh_want m)
  · exact h
theorem sh_chainLoop {lv : List UInt8 → Option Nd} {sub : M Nat} (hs : Sh sub) : ∀ (f left : Nat), Sh (chainLoop lv sub f left)
  | 0, l, s, g => Le.refl g
  | f + 1, l, s, g => by
    unfold chainLoop
    split
    · exact Le.refl g
    · exact (((sh_skip s g).then hs).then (sh_over _ _)).then (sh_chainLoop hs f _)
theorem sh_chain {part : M Nat} (hp : Sh part) : ∀ (row : List (List UInt8 → Option Nd)), Sh (chain part row)
  | [], s, g => hp s g
  | lv :: row, s, g => (sh_chain hp row s g).then (sh_chainLoop (sh_chain hp row) _ _)
theorem go_chain {part : M Nat} (hp : Sh part) (hg : Go part) : ∀ (row : List (List UInt8 → Option Nd)), Go (chain part row)
  | [], s, g => hg s g
  | lv :: row, s, g => (go_chain hp hg row s g).le (sh_chainLoop (sh_chain hp row) _ _ _ (sh_chain hp row s g).good)
structure ShL (L : Lv) : Prop where
  e : Sh L.e
  u : Sh L.u
  p : Sh L.p
  s : Sh L.s
  ge : Go L.e
  gu : Go L.u
  gp : Go L.p
  gs : Go L.s
theorem sh_choice {L : Lv} (h : ShL L) : Sh (choice L) := fun s g => by
  unfold choice
  have h1 := sh_chain (sh_chain h.u binaries) logics s g
  have h2 := h1.then (sh_take [63])
  simp only []
  generalize take [63] (chain (chain L.u binaries) logics s).2 = P at *
  obtain ⟨b, s'⟩ := P
  simp only at h2
  cases b
  · exact h2
  · exact (((h2.then h.e).then (sh_want [58])).then h.e).then (sh_over _ _)
theorem go_choice {L : Lv} (h : ShL L) : Go (choice L) := fun s g => by
  have h0 := go_chain (sh_chain h.u binaries) (go_chain h.u h.gu binaries) logics s g
  unfold choice
  have h1 := sh_chain (sh_chain h.u binaries) logics s g
  have h2 := sh_take [63] _ h1.good
  simp only []
  generalize take [63] (chain (chain L.u binaries) logics s).2 = P at *
  obtain ⟨b, s'⟩ := P
  simp only at h2
  cases b
  · exact h0.le h2
  · exact h0.le ((((h2.then h.e).then (sh_want [58])).then h.e).then (sh_over _ _))
theorem sh_leaf (n : Nd) : Sh (leaf n) := fun s g => (sh_skip s g).then (sh_add _)
theorem fw_leaf (n : Nd) {s : St} (g : Good s) (h : ¬ ((nxt s).k = 0 ∨ (nxt s).k = 6)) : Fw s (leaf n s).2 := (fw_skip g h).le (sh_add _ _ (sh_skip s g).good)
theorem sh_inParens {L : Lv} (h : ShL L) : Sh (inParens L) := fun s g => ((sh_want [40] s g).then h.e).then (sh_want [41])
theorem go_inParens {L : Lv} (h : ShL L) : Go (inParens L) := fun s g => (fw_want g (by decide)).le (((Le.refl (sh_want [40] s g).good).then h.e).then (sh_want [41]))
theorem sh_statementsLoop {L : Lv} (h : ShL L) : ∀ (f : Nat) (l : List Nat), Sh (statementsLoop L f l)
  | 0, l, s, g => Le.refl g
  | f + 1, l, s, g => by
    unfold statementsLoop
    split
    · exact (h.s s g).then (sh_statementsLoop h f _)
    · exact Le.refl g
theorem sh_statements {L : Lv} (h : ShL L) : Sh (statements L) := fun s g => sh_statementsLoop h _ _ s g
theorem sh_body {L : Lv} (h : ShL L) : Sh (body L) := fun s g => ((sh_want [123] s g).then (sh_statements h)).then (sh_want [125])
theorem go_body {L : Lv} (h : ShL L) : Go (body L) := fun s g => (fw_want g (by decide)).le (((Le.refl (sh_want [123] s g).good).then (sh_statements h)).then (sh_want [125]))
theorem sh_endS : Sh endS := fun s g => by
  unfold endS
  have h := sh_take [59] s g
  generalize take [59] s = P at *
  obtain ⟨b, s'⟩ := P
  simp only at h
  cases b
  · simp only []
    split
    · exact h.then sh_fail
    · exact h
  · exact h
theorem sh_block {L : Lv} (h : ShL L) : Sh (block L) := fun s g => (sh_body h s g).then (sh_add _)
theorem go_block {L : Lv} (h : ShL L) : Go (block L) := fun s g => (go_body h s g).le (sh_add _ _ (sh_body h s g).good)
theorem sh_inner {L : Lv} (h : ShL L) : Sh (inner L) := fun s g => by
  unfold inner; split
  · exact sh_fail s g
  · exact h.s s g
theorem sh_jump (k : Nat) : Sh (jump k) := fun s g => ((sh_skip s g).then sh_endS).then (sh_add _)
theorem sh_exprS {L : Lv} (h : ShL L) : Sh (exprS L) := fun s g => ((h.e s g).then sh_endS).then (sh_over _ _)
theorem go_exprS {L : Lv} (h : ShL L) : Go (exprS L) := fun s g => (h.ge s g).le (((Le.refl (h.e s g).good).then sh_endS).then (sh_over _ _))
theorem sh_whileS {L : Lv} (h : ShL L) : Sh (whileS L) := fun s g => (((sh_skip s g).then (sh_inParens h)).then (sh_inner h)).then (sh_add _)
theorem sh_returnS {L : Lv} (h : ShL L) : Sh (returnS L) := fun s g => by
  unfold returnS
  have h0 := sh_skip s g
  simp only []
  split
  · exact ((h0.then h.e).then sh_endS).then (sh_add _)
  · exact (h0.then sh_endS).then (sh_add _)
theorem sh_throwS {L : Lv} (h : ShL L) : Sh (throwS L) := fun s g => by
  unfold throwS
  have h0 := sh_skip s g
  simp only []
  split
  · exact h0.then sh_fail
  · exact ((h0.then h.e).then sh_endS).then (sh_add _)
theorem le_tryS {L : Lv} (h : ShL L) {s t : St} (r : Le t (skip s).2) : Le t (tryS L s).2 := by
  unfold tryS
  simp only []
  have r1 := r.then (sh_block h)
  have r2 := r1.then (sh_want [99, 97, 116, 99, 104])
  have r3 := r2.then (sh_want [40])
  have r4 := r3.then sh_name
  have r5 := r4.then (sh_want [41])
  have r6 := r5.then (sh_block h)
  exact r6.then (sh_add _)
theorem sh_tryS {L : Lv} (h : ShL L) : Sh (tryS L) := fun s g => le_tryS h (sh_skip s g)
theorem le_binding {L : Lv} (h : ShL L) (k : Nat) {s t : St} (r : Le t (skip s).2) : Le t (binding L k s).2 := by
  unfold binding
  simp only []
  have r1 := r.then sh_name
  have r2 := r1.then (sh_want [61])
  have r3 := r2.then h.e
  have r4 := r3.then sh_endS
  exact r4.then (sh_add _)
theorem sh_binding {L : Lv} (h : ShL L) (k : Nat) : Sh (binding L k) := fun s g => le_binding h k (sh_skip s g)
theorem sh_func {L : Lv} (h : ShL L) (b : Bool) : Sh (func L b) := fun s g => by
  unfold func
  simp only []
  have h0 := (sh_skip s g).then (sh_take [42])
  have h1 : Le s (if (b || decide ((nxt (take [42] (skip s).2).2).k = 3)) = true then name (take [42] (skip s).2).2 else ([], (take [42] (skip s).2).2)).2 := by
    split
    · exact h0.then sh_name
    · exact h0
  exact (((h1.then (sh_want [40])).then (sh_items sh_name [41])).then (sh_body h)).then (sh_add _)
theorem sh_definition {L : Lv} (h : ShL L) : Sh (definition L) := fun s g => by
  have r := sh_func h true s g
  unfold definition
  simp only []
  generalize func L true s = P at *
  exact r.then (sh_add _)
theorem sh_ifS {L : Lv} (h : ShL L) : Sh (ifS L) := fun s g => by
  unfold ifS
  simp only []
  have h2 := ((((sh_skip s g).then (sh_inParens h)).then (sh_inner h))).then (sh_take [101, 108, 115, 101])
  generalize take [101, 108, 115, 101] (inner L (inParens L (skip s).2).2).2 = P at *
  obtain ⟨b, s'⟩ := P
  simp only at h2
  cases b
  · exact h2.then (sh_add _)
  · exact (h2.then (sh_inner h)).then (sh_add _)
theorem sh_pair {L : Lv} (h : ShL L) : Sh (pair L) := fun s g => ((sh_textOf [3, 4, 2] s g).then (sh_want [58])).then h.e
theorem ite_Le {c : Prop} [Decidable c] {s : St} {a b : Nat × St} (ha : Le s a.2) (hb : Le s b.2) : Le s (if c then a else b).2 := by split <;> assumption
theorem sh_arr {L : Lv} (h : ShL L) (s : St) (g : Good s) : Le s (add { k := 9, a := (skip s).1.a, kids := (items [93] L.e (skip s).2).1 } (items [93] L.e (skip s).2).2).2 := ((sh_skip s g).then (sh_items h.e [93])).then (sh_add _)
theorem sh_obj {L : Lv} (h : ShL L) (s : St) (g : Good s) : Le s (add { k := 8, a := (skip s).1.a, names := (items [125] (pair L) (skip s).2).1.map (·.1), kids := (items [125] (pair L) (skip s).2).1.map (·.2) } (items [125] (pair L) (skip s).2).2).2 := ((sh_skip s g).then (sh_items (sh_pair h) [125])).then (sh_add _)
theorem sh_alone {L : Lv} (h : ShL L) : Sh (alone L) := fun s g => by
  unfold alone
  exact (ite_Le (sh_leaf _ s g) (ite_Le (sh_leaf _ s g) (ite_Le (sh_leaf _ s g) (ite_Le (sh_leaf _ s g) (ite_Le (sh_leaf _ s g) (ite_Le (sh_leaf _ s g) (ite_Le (sh_leaf _ s g) (ite_Le (sh_leaf _ s g) (ite_Le (sh_inParens h s g) (ite_Le (sh_arr h s g) (ite_Le (sh_obj h s g) (ite_Le (sh_func h false s g) (sh_fail s g)))))))))))))
theorem ite_Fw {c : Prop} [Decidable c] {s : St} {a b : Nat × St} (ha : c → Fw s a.2) (hb : ¬ c → Fw s b.2) : Fw s (if c then a else b).2 := by
  split
  · exact ha ‹_›
  · exact hb ‹_›
theorem fw_arr {L : Lv} (h : ShL L) {s : St} (g : Good s) (hm : mark s ≠ []) : Fw s (add { k := 9, a := (skip s).1.a, kids := (items [93] L.e (skip s).2).1 } (items [93] L.e (skip s).2).2).2 := (fw_mark g hm).le (((Le.refl (sh_skip s g).good).then (sh_items h.e [93])).then (sh_add _))
theorem fw_obj {L : Lv} (h : ShL L) {s : St} (g : Good s) (hm : mark s ≠ []) : Fw s (add { k := 8, a := (skip s).1.a, names := (items [125] (pair L) (skip s).2).1.map (·.1), kids := (items [125] (pair L) (skip s).2).1.map (·.2) } (items [125] (pair L) (skip s).2).2).2 := (fw_mark g hm).le (((Le.refl (sh_skip s g).good).then (sh_items (sh_pair h) [125])).then (sh_add _))
theorem fw_func {L : Lv} (h : ShL L) (b : Bool) {s : St} (g : Good s) (hm : mark s ≠ []) : Fw s (func L b s).2 := by
  unfold func
  simp only []
  have h0 := (Le.refl (sh_skip s g).good).then (sh_take [42])
  have h1 : Le (skip s).2 (if (b || decide ((nxt (take [42] (skip s).2).2).k = 3)) = true then name (take [42] (skip s).2).2 else ([], (take [42] (skip s).2).2)).2 := by
    split
    · exact h0.then sh_name
    · exact h0
  exact (fw_mark g hm).le ((((h1.then (sh_want [40])).then (sh_items sh_name [41])).then (sh_body h)).then (sh_add _))
theorem mne {s : St} {c : UInt8} {l : List UInt8} (h : mark s = c :: l) : mark s ≠ [] := by rw [h]; exact List.cons_ne_nil _ _
theorem go_alone {L : Lv} (h : ShL L) : Go (alone L) := fun s g => by
  unfold alone
  exact ite_Fw (fun c => fw_leaf _ g (by omega)) fun _ => ite_Fw (fun c => fw_leaf _ g (by omega)) fun _ => ite_Fw (fun c => fw_leaf _ g (by omega)) fun _ => ite_Fw (fun c => fw_leaf _ g (mark_kind (mne c))) fun _ => ite_Fw (fun c => fw_leaf _ g (mark_kind (mne c))) fun _ => ite_Fw (fun c => fw_leaf _ g (mark_kind (mne c))) fun _ => ite_Fw (fun c => fw_leaf _ g (mark_kind (mne c))) fun _ => ite_Fw (fun c => fw_leaf _ g (mark_kind (mne c))) fun _ => ite_Fw (fun _ => go_inParens h s g) fun _ => ite_Fw (fun c => fw_arr h g (mne c)) fun _ => ite_Fw (fun c => fw_obj h g (mne c)) fun _ => ite_Fw (fun c => fw_func h false g (mne c)) fun _ => go_fail s g
theorem sh_primaryLoop {L : Lv} (h : ShL L) : ∀ (f p : Nat), Sh (primaryLoop L f p)
  | 0, p, s, g => Le.refl g
  | f + 1, p, s, g => by
    unfold primaryLoop
    have h1 := sh_take [46] s g
    generalize take [46] s = P at *
    obtain ⟨b, s1⟩ := P
    simp only at h1
    cases b
    · simp only []
      have h2 := h1.then (sh_take [91])
      generalize take [91] s1 = P at *
      obtain ⟨b, s2⟩ := P
      simp only at h2
      cases b
      · simp only []
        have h3 := h2.then (sh_take [40])
        generalize take [40] s2 = P at *
        obtain ⟨b, s3⟩ := P
        simp only at h3
        cases b
        · exact h3
        · exact ((h3.then (sh_items h.e [41])).then (sh_over _ _)).then (sh_primaryLoop h f _)
      · exact (((h2.then h.e).then (sh_want [93])).then (sh_over _ _)).then (sh_primaryLoop h f _)
    · exact ((h1.then (sh_textOf [3, 4])).then (sh_over _ _)).then (sh_primaryLoop h f _)
theorem sh_primary {L : Lv} (h : ShL L) : Sh (primary L) := fun s g => (sh_alone h s g).then (sh_primaryLoop h _ _)
theorem go_primary {L : Lv} (h : ShL L) : Go (primary L) := fun s g => (go_alone h s g).le (sh_primaryLoop h _ _ _ (sh_alone h s g).good)
theorem sh_anyUnary {L : Lv} (h : ShL L) : Sh (anyUnary L) := fun s g => by
  unfold anyUnary
  split
  · exact ((sh_skip s g).then h.u).then (sh_add _)
  · exact h.p s g
theorem go_anyUnary {L : Lv} (h : ShL L) : Go (anyUnary L) := fun s g => by
  unfold anyUnary
  split
  · rename_i e
    refine (fw_mark g ?_).le (((Le.refl (sh_skip s g).good).then h.u).then (sh_add _))
    rcases e with e | e | e <;> exact mne e
  · exact h.gp s g
theorem sh_anyExpr {L : Lv} (h : ShL L) : Sh (anyExpr L) := fun s g => by
  unfold anyExpr
  have h1 := sh_take [121, 105, 101, 108, 100] s g
  generalize take [121, 105, 101, 108, 100] s = P at *
  obtain ⟨b, s1⟩ := P
  simp only at h1
  cases b
  · simp only []
    have h2 := h1.then (sh_choice h)
    split
    · have h3 := h2.then (sh_take [61])
      generalize take [61] (choice L s1).2 = P at *
      obtain ⟨b, s2⟩ := P
      simp only at h3
      cases b
      · exact h3
      · exact (h3.then h.e).then (sh_over _ _)
    · exact h2
  · exact (h1.then h.e).then (sh_add _)
theorem go_anyExpr {L : Lv} (h : ShL L) : Go (anyExpr L) := fun s g => by
  unfold anyExpr
  have h1 := sh_take [121, 105, 101, 108, 100] s g
  have hf := @fw_take s g [121, 105, 101, 108, 100] (by decide)
  generalize take [121, 105, 101, 108, 100] s = P at *
  obtain ⟨b, s1⟩ := P
  simp only at h1 hf
  cases b
  · simp only []
    have h2 := h1.fw (go_choice h s1 h1.good)
    have h2' := sh_choice h s1 h1.good
    split
    · have h3 := sh_take [61] _ h2'.good
      generalize take [61] (choice L s1).2 = P at *
      obtain ⟨b, s2⟩ := P
      simp only at h3
      cases b
      · exact h2.le h3
      · exact h2.le ((h3.then h.e).then (sh_over _ _))
    · exact h2
  · exact (hf rfl).le (((Le.refl h1.good).then h.e).then (sh_add _))
theorem sh_anyStatement {L : Lv} (h : ShL L) : Sh (anyStatement L) := fun s g => by
  unfold anyStatement
  exact (ite_Le (sh_block h s g) (ite_Le (sh_ifS h s g) (ite_Le (sh_whileS h s g) (ite_Le (sh_jump 28 s g) (ite_Le (sh_jump 29 s g) (ite_Le (sh_returnS h s g) (ite_Le (sh_throwS h s g) (ite_Le (sh_tryS h s g) (ite_Le (sh_binding h 21 s g) (ite_Le (sh_binding h 22 s g) (ite_Le (sh_definition h s g) (sh_exprS h s g))))))))))))
/-- What goes behind the next token first has gone on. -/
theorem fw_of {s : St} (g : Good s) (hm : mark s ≠ []) {t : St} (h : Le (skip s).2 t) : Fw s t := (fw_mark g hm).le h
theorem fw_ifS {L : Lv} (h : ShL L) {s : St} (g : Good s) (hm : mark s ≠ []) : Fw s (ifS L s).2 := fw_of g hm (by
  unfold ifS
  simp only []
  have h2 := (((Le.refl (sh_skip s g).good).then (sh_inParens h)).then (sh_inner h)).then (sh_take [101, 108, 115, 101])
  generalize take [101, 108, 115, 101] (inner L (inParens L (skip s).2).2).2 = P at *
  obtain ⟨b, s'⟩ := P
  simp only at h2
  cases b
  · exact h2.then (sh_add _)
  · exact (h2.then (sh_inner h)).then (sh_add _))
theorem fw_returnS {L : Lv} (h : ShL L) {s : St} (g : Good s) (hm : mark s ≠ []) : Fw s (returnS L s).2 := fw_of g hm (by
  unfold returnS
  have h0 := Le.refl (sh_skip s g).good
  simp only []
  split
  · exact ((h0.then h.e).then sh_endS).then (sh_add _)
  · exact (h0.then sh_endS).then (sh_add _))
theorem fw_throwS {L : Lv} (h : ShL L) {s : St} (g : Good s) (hm : mark s ≠ []) : Fw s (throwS L s).2 := fw_of g hm (by
  unfold throwS
  have h0 := Le.refl (sh_skip s g).good
  simp only []
  split
  · exact h0.then sh_fail
  · exact ((h0.then h.e).then sh_endS).then (sh_add _))
theorem go_anyStatement {L : Lv} (h : ShL L) : Go (anyStatement L) := fun s g => by
  have r := Le.refl (sh_skip s g).good
  unfold anyStatement
  exact ite_Fw (fun _ => go_block h s g) fun _ => ite_Fw (fun c => fw_ifS h g (mne c)) fun _ =>
    ite_Fw (fun c => fw_of g (mne c) (((r.then (sh_inParens h)).then (sh_inner h)).then (sh_add _))) fun _ =>
    ite_Fw (fun c => fw_of g (mne c) ((r.then sh_endS).then (sh_add _))) fun _ =>
    ite_Fw (fun c => fw_of g (mne c) ((r.then sh_endS).then (sh_add _))) fun _ =>
    ite_Fw (fun c => fw_returnS h g (mne c)) fun _ => ite_Fw (fun c => fw_throwS h g (mne c)) fun _ =>
    ite_Fw (fun c => fw_of g (mne c) (le_tryS h r)) fun _ =>
    ite_Fw (fun c => fw_of g (mne c) (le_binding h _ r)) fun _ =>
    ite_Fw (fun c => fw_of g (mne c) (le_binding h _ r)) fun _ =>
    ite_Fw (fun c => (fw_func h true g (mne c)).le (sh_add _ _ (sh_func h true s g).good)) fun _ => go_exprS h s g
theorem sh_lv : ∀ d, ShL (lv d)
  | 0 => ⟨sh_fail, sh_fail, sh_fail, sh_fail, go_fail, go_fail, go_fail, go_fail⟩
  | d + 1 => ⟨sh_anyExpr (sh_lv d), sh_anyUnary (sh_lv d), sh_primary (sh_lv d), sh_anyStatement (sh_lv d), go_anyExpr (sh_lv d), go_anyUnary (sh_lv d), go_primary (sh_lv d), go_anyStatement (sh_lv d)⟩
end Go.Proofs.YtoeolonbkeldoaaDoor.Ps
