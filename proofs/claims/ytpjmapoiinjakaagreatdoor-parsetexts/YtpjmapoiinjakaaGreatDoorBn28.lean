/- Texts: RpO RpQ RpS RpU RpX RpY RpZ. -/
import Derived.Test.YtpjmapoiinjakaaGreatDoorBn27
import Derived.Test.YtpjmapoiinjakaaGreatDoorBn06
section
namespace Go.Proofs.YtpjmapoiinjakaaGreatDoor.Rp
open Lx
set_option linter.unusedVariables false
/-- A row of signs, the same one. -/
structure Row (lv : List UInt8 → Option Ps.Nd) (row : List (List UInt8)) : Prop where
  e : ∀ m, lv m = if m ∈ row then some (sigNode m) else none
  w : ∀ m ∈ row, m ∉ Lx.words
  n : [] ∉ row
theorem nxt_mem {s : Ps.St} (g : Ps.H2.Good s) : Ps.nxt s ∈ s.toks := by
  have := g.one
  unfold Ps.nxt
  cases h : s.toks with
  | nil => rw [h] at this; simp at this
  | cons a b => simp
theorem Row.at {lv : List UInt8 → Option Ps.Nd} {row : List (List UInt8)} (h : Row lv row) {s : Ps.St} {r : Rt} (g : Ps.H2.Good s) (e : Sm s r) :
    lv (Ps.mark s) = if (!r.bad && decide ((nx r).k = 5) && decide ((nx r).t ∈ row)) = true then some (sigNode (nx r).t) else none := by
  rw [h.e, e.2.1, nx_eq e]
  have hk := g.kw _ (nxt_mem g)
  unfold Ps.mark
  by_cases h5 : (Ps.nxt s).k = 5
  · rw [if_pos (show (Ps.nxt s).k = 4 ∨ (Ps.nxt s).k = 5 from .inr h5), decide_eq_true h5]
    simp
  · rw [decide_eq_false h5]
    simp only [Bool.and_false, Bool.false_and, Bool.false_eq_true, if_false]
    by_cases h4 : (Ps.nxt s).k = 4
    · rw [if_pos (show (Ps.nxt s).k = 4 ∨ (Ps.nxt s).k = 5 from .inl h4), if_neg (fun hm => h.w _ hm (hk.1 h4))]
    · rw [if_neg (show ¬ ((Ps.nxt s).k = 4 ∨ (Ps.nxt s).k = 5) by omega), if_neg h.n]
theorem go_chainLoop {lv : List UInt8 → Option Ps.Nd} {row : List (List UInt8)} (hr : Row lv row) {part : Ps.M Nat} {sub : Q Nat} (p : Pair part sub) : ∀ (f left : Nat) (s : Ps.St) (r : Rt), Ps.H2.Good s → Sm s r → Res (Ps.chainLoop lv part f left s) (binLoop row sub f left r)
  | 0, left, s, r, g, h => .inl ⟨h, rfl⟩
  | f + 1, left, s, r, g, h => by
    unfold Ps.chainLoop binLoop
    rw [hr.at g h]
    by_cases hc : (!r.bad && decide ((nx r).k = 5) && decide ((nx r).t ∈ row)) = true
    · rw [if_pos hc, if_pos hc]
      dsimp only
      have c0 := cp_skip g h
      rcases p.go _ _ c0.1 (sm_move h) with h2 | h2
      · have c1 := p.c c0
        rw [h2.2]
        have ho := out_add (n := { sigNode (nx r).t with kids := [left, (sub (move r)).1], a := ((sub (move r)).2.nodes.getD left {}).a }) c1 (fun _ => rfl)
        have ho1 : Ps.over (sigNode (nx r).t) [left, (sub (move r)).1] (part (Ps.skip s).2).2 = Ps.add { sigNode (nx r).t with kids := [left, (sub (move r)).1], a := ((sub (move r)).2.nodes.getD left {}).a } (part (Ps.skip s).2).2 := by
          rw [h2.1.2.2.2]; rfl
        rw [ho1]
        rcases ho with ho | ho
        · rw [ho.2]
          exact go_chainLoop hr p f _ _ _ (Ps.H2.sh_add _ _ c1.1).good ho.1
        · exact .inr (ho.on (Ps.K.sh_chainLoop p.k f _) (sb_binLoop row sub f _))
      · right
        have h3 : Fl (Ps.over (sigNode (nx r).t) [left, (part (Ps.skip s).2).1] (part (Ps.skip s).2).2).2 (put { sigNode (nx r).t with kids := [left, (sub (move r)).1], a := ((sub (move r)).2.nodes.getD left {}).a } (sub (move r)).2).2 := h2
        exact h3.on (Ps.K.sh_chainLoop p.k f _) (sb_binLoop row sub f _)
    · rw [if_neg hc, if_neg hc]
      exact .inl ⟨h, rfl⟩
theorem pair_level {lv : List UInt8 → Option Ps.Nd} {row : List (List UInt8)} (hr : Row lv row) {part : Ps.M Nat} {R : List (List UInt8 → Option Ps.Nd)} {q : Q Nat} (p : Pair (Ps.chain part R) q) (sh : Ps.H2.Sh (Ps.chain part (lv :: R))) (k : Ps.K.Sh (Ps.chain part (lv :: R))) :
    Pair (Ps.chain part (lv :: R)) (fun r => binLoop row q (q r).2.toks.length (q r).1 (q r).2) := ⟨sh, k, fun r => (p.b r).trans (sb_binLoop row q _ _ _), fun s r g h => by
  unfold Ps.chain
  dsimp only
  rcases p.go s r g h with h2 | h2
  · rw [h2.2, h2.1.2.2.1]
    exact go_chainLoop hr p _ _ _ _ (p.sh s g).good h2.1
  · exact .inr (h2.on (Ps.K.sh_chainLoop p.k _ _) (sb_binLoop row q _ _))⟩
theorem row_logic (m : List UInt8) (k : Nat) (h : sigNode m = { k := k }) (w : m ∉ Lx.words) (n : m ≠ []) : Row (Ps.logic m k) [m] := ⟨fun x => by
  unfold Ps.logic
  by_cases e : x = m
  · rw [if_pos e, if_pos (by rw [e]; simp), e, h]
  · rw [if_neg e, if_neg (by simpa using e)], fun x hx => by
  have : x = m := by simpa using hx
  rw [this]; exact w, by simpa using n.symm⟩
theorem row_binary (l : List (List UInt8)) (h : ∀ m ∈ l, sigNode m = { k := 15, t := m }) (w : ∀ m ∈ l, m ∉ Lx.words) (n : [] ∉ l) : Row (Ps.binary l) l := ⟨fun x => by
  unfold Ps.binary
  by_cases e : x ∈ l
  · rw [if_pos e, if_pos e, h x e]
  · rw [if_neg e, if_neg e], w, n⟩
theorem pair_bin {L : Ps.Lv} {M : Lr} (p : PL L M) : Pair (Ps.chain (Ps.chain L.u Ps.binaries) Ps.logics) (bin M rrows) := by
  have s0 : ∀ R, Ps.H2.Sh (Ps.chain L.u R) := fun R => Ps.H2.sh_chain p.u.sh R
  have k0 : ∀ R, Ps.K.Sh (Ps.chain L.u R) := fun R => Ps.K.sh_chain p.u.k R
  have a0 : Pair (Ps.chain L.u []) M.u := p.u
  have a1 := pair_level (row_binary [[42], [47], [37]] (by decide) (by decide) (by decide)) a0 (s0 _) (k0 _)
  have a2 := pair_level (row_binary [[43], [45]] (by decide) (by decide) (by decide)) a1 (s0 _) (k0 _)
  have a3 := pair_level (row_binary [[60], [60, 61], [62], [62, 61]] (by decide) (by decide) (by decide)) a2 (s0 _) (k0 _)
  have a4 := pair_level (row_binary [[61, 61, 61], [33, 61, 61]] (by decide) (by decide) (by decide)) a3 (s0 _) (k0 _)
  have b0 : Pair (Ps.chain (Ps.chain L.u Ps.binaries) []) _ := a4
  have b1 := pair_level (row_logic [38, 38] 16 (by decide) (by decide) (by decide)) b0 (Ps.H2.sh_chain a4.sh _) (Ps.K.sh_chain a4.k _)
  have b2 := pair_level (row_logic [124, 124] 17 (by decide) (by decide) (by decide)) b1 (Ps.H2.sh_chain a4.sh _) (Ps.K.sh_chain a4.k _)
  exact b2
end Go.Proofs.YtpjmapoiinjakaaGreatDoor.Rp
end
section
namespace Go.Proofs.YtpjmapoiinjakaaGreatDoor.Rp
open Lx
set_option linter.unusedVariables false
theorem Fl.over {s : Ps.St} {r : Rt} (h : Fl s r) (n : Ps.Nd) (l : List Nat) : Fl (Ps.over n l s).2 r := h
theorem Fl.left {α : Type} {f : Ps.M α} {s : Ps.St} {r : Rt} (h : Fl s r) (k : Ps.K.Sh f) : Fl (f s).2 r := by
  have h1 := k s trivial h.1
  exact ⟨h1.1, h.2.1, h1.2.trans h.2.2⟩
theorem Fl.right {α : Type} {q : Q α} {s : Ps.St} {r : Rt} (h : Fl s r) (b : Sb q) : Fl s (q r).2 := by
  have h2 := b r h.2.1
  refine ⟨h.1, h2.1, ?_⟩
  rw [h.2.2]; unfold nx; rw [h2.2]
theorem Fl.wantl {s : Ps.St} {r : Rt} (h : Fl s r) (m : List UInt8) : Fl (Ps.want m s).2 r := h.left (Ps.K.sh_want m)
/-- Over the left one's place. -/
theorem out_over {n : Ps.Nd} {k : Nat} {l : List Nat} {s : Ps.St} {r : Rt} (g : Ps.H2.Good s) (h : Sm s r) : Res (Ps.over n (k :: l) s) (put { n with kids := k :: l, a := (r.nodes.getD k {}).a } r) := by
  rw [h.2.2.2]
  exact out_add ⟨g, .inl h⟩ (fun _ => rfl)
theorem go_choice {L : Ps.Lv} {M : Lr} (p : PL L M) (s : Ps.St) (r : Rt) (g : Ps.H2.Good s) (h : Sm s r) : Res (Ps.choice L s) (cond M r) := by
  have pb := pair_bin p
  unfold Ps.choice cond
  dsimp only
  have g1 := (pb.sh s g).good
  rcases pb.go s r g h with h1 | h1
  · generalize Ps.chain (Ps.chain L.u Ps.binaries) Ps.logics s = X at *
    generalize bin M rrows r = Y at *
    obtain ⟨h1, v1⟩ := h1
    rw [if_neg (show ¬ Y.2.bad = true by rw [h1.2.1]; simp), v1]
    obtain ⟨b, s2, r2, e1, e2, h2, g2⟩ := step_has (m := [63]) (by simp) h1
    rw [e1, e2]
    cases b
    · exact .inl ⟨h2, rfl⟩
    · dsimp only
      have g2 := g2 g1
      rcases p.e.go s2 r2 g2 h2 with h3 | h3
      · have g3 := (p.e.sh s2 g2).good
        generalize L.e s2 = X3 at *
        generalize M.e r2 = Y3 at *
        obtain ⟨h3, v3⟩ := h3
        have g4 := (Ps.H2.sh_want [58] X3.2 g3).good
        rcases (pair_want (m := [58]) (by simp)).go X3.2 Y3.2 g3 h3 with h4 | h4
        · obtain ⟨h4, -⟩ := h4
          simp only at h4
          rw [if_neg (show ¬ (must [58] Y3.2).bad = true by rw [h4.2.1]; simp), v3]
          have g5 := (p.e.sh _ g4).good
          rcases p.e.go _ _ g4 h4 with h5 | h5
          · rw [h5.2]
            exact out_over g5 h5.1
          · exact .inr (h5.over _ _)
        · simp only at h4
          rw [if_pos h4.2.1]
          exact .inr ((h4.left p.e.k).over _ _)
      · have h4 := h3.want [58]
        rw [if_pos h4.2.1]
        exact .inr ((h4.left p.e.k).over _ _)
  · rw [if_pos h1.2.1]
    have h2 := h1.left (Ps.K.sh_take [63])
    generalize Ps.take [63] (Ps.chain (Ps.chain L.u Ps.binaries) Ps.logics s).2 = X at *
    obtain ⟨b, s2⟩ := X
    cases b
    · exact .inr h2
    · exact .inr ((((h2.left p.e.k).wantl [58]).left p.e.k).over _ _)
theorem go_anyExpr {L : Ps.Lv} {M : Lr} (p : PL L M) (hs : Ps.H2.ShL L) (s : Ps.St) (r : Rt) (g : Ps.H2.Good s) (h : Sm s r) : Res (Ps.anyExpr L s) (assign M r) := by
  unfold Ps.anyExpr assign
  dsimp only
  obtain ⟨b, s1, r1, e1, e2, h1, g1⟩ := step_has (m := [121, 105, 101, 108, 100]) (by simp) h
  have g1 := g1 g
  rw [e1, e2]
  cases b
  · dsimp only
    have ch := go_choice p s1 r1 g1 h1
    have gx := (Ps.H2.sh_choice hs s1 g1).good
    generalize Ps.choice L s1 = X at *
    generalize cond M r1 = Y at *
    rcases ch with ⟨h3, v3⟩ | h3
    · rw [if_neg (show ¬ Y.2.bad = true by rw [h3.2.1]; simp), v3, h3.2.2.2]
      by_cases ht : Ps.isTarget (X.2.nodes.getD Y.1 {}).k = true
      · rw [if_pos ht, if_pos ht]
        obtain ⟨b, s2, r2, e3, e4, h4, g4⟩ := step_has (m := [61]) (by simp) h3
        have g4 := g4 gx
        rw [e3, e4]
        cases b
        · exact .inl ⟨h4, rfl⟩
        · dsimp only
          have g5 := (p.e.sh s2 g4).good
          rcases p.e.go s2 r2 g4 h4 with h5 | h5
          · rw [h5.2]
            exact out_over g5 h5.1
          · exact .inr (h5.over _ _)
      · rw [if_neg ht, if_neg ht]
        exact .inl ⟨h3, v3⟩
    · rw [if_pos h3.2.1]
      right
      by_cases ht : Ps.isTarget (X.2.nodes.getD X.1 {}).k = true
      · rw [if_pos ht]
        have h4 := h3.left (Ps.K.sh_take [61])
        generalize Ps.take [61] X.2 = Z at *
        obtain ⟨b, s2⟩ := Z
        cases b
        · exact h4
        · exact (h4.left p.e.k).over _ _
      · rw [if_neg ht]; exact h3
  · dsimp only
    have c1 : Cp s1 r1 := ⟨g1, .inl h1⟩
    refine out_add (p.e.c c1) fun e => ?_
    rw [nx_eq h, (p.e.v c1 e).2]
end Go.Proofs.YtpjmapoiinjakaaGreatDoor.Rp
end
section
namespace Go.Proofs.YtpjmapoiinjakaaGreatDoor.Rp
open Lx
set_option linter.unusedVariables false
/-- A name, a colon and an expression. -/
def rpair (M : Lr) : Q (Option (List UInt8 × Nat)) := fun r =>
  if (nx r).k = 3 ∨ (nx r).k = 4 ∨ (nx r).k = 2 then let x := M.e (must [58] (move r)); (some ((nx r).t, x.1), x.2) else (none, spoil r)
/-- After one, at a comma. -/
def rcom (M : Lr) (f : Nat) (N : List (List UInt8)) (K : List Nat) : Q (Option (List (List UInt8) × List Nat)) := fun r => match has [44] r with
  | (false, r) => (some (N, K), r)
  | (true, r) => objLoop M f N K r
def rstep (M : Lr) (f : Nat) (N : List (List UInt8)) (K : List Nat) : Q (Option (List (List UInt8) × List Nat)) := fun r => match rpair M r with
  | (none, q) => (none, q)
  | (some w, q) => rcom M f (N ++ [w.1]) (K ++ [w.2]) q
theorem obj_step (M : Lr) (f : Nat) (N : List (List UInt8)) (K : List Nat) {r : Rt} (hb : r.bad = false) (hc : (!isS [125] r || decide (0 < K.length)) = true) : objLoop M (f + 1) N K r = rstep M f N K r := by
  conv => lhs; unfold objLoop
  rw [if_pos hc]
  unfold rstep rpair rcom
  dsimp only
  by_cases h : (nx r).k = 3 ∨ (nx r).k = 4 ∨ (nx r).k = 2
  · rw [if_pos h, if_pos h, if_neg (by rw [hb]; simp)]
    rfl
  · rw [if_neg h, if_neg h, if_pos (show (spoil r).bad = true from rfl)]
theorem go_pair {L : Ps.Lv} {M : Lr} (p : PL L M) {s : Ps.St} {r : Rt} (g : Ps.H2.Good s) (h : Sm s r) :
    ((rpair M r).1 = some (Ps.pair L s).1 ∧ Sm (Ps.pair L s).2 (rpair M r).2) ∨ Fl (Ps.pair L s).2 (rpair M r).2 := by
  unfold Ps.pair rpair Ps.textOf
  rw [nx_eq h]
  dsimp only
  by_cases hk : (Ps.nxt s).k = 3 ∨ (Ps.nxt s).k = 4 ∨ (Ps.nxt s).k = 2
  · rw [if_pos hk, if_pos (show (Ps.nxt s).k ∈ [3, 4, 2] by simpa using hk)]
    dsimp only
    have c1 := cp_want (m := [58]) (by simp) (cp_skip g h)
    rcases c1.2 with h1 | h1
    · rcases p.e.go _ _ c1.1 h1 with h2 | h2
      · left; rw [h2.2]; exact ⟨rfl, h2.1⟩
      · exact .inr h2
    · exact .inr (h1.on p.e.k p.e.b)
  · rw [if_neg hk, if_neg (show ¬ (Ps.nxt s).k ∈ [3, 4, 2] by simpa using hk)]
    exact .inr (((fl_fail h).wantl [58]).left p.e.k)
theorem go_com {L : Ps.Lv} {M : Lr} (p : PL L M) (hs : Ps.H2.ShL L) (hk : Ps.K.ShL L) : ∀ (f f' : Nat) (l : List (List UInt8 × Nat)) (s : Ps.St) (r : Rt), Ps.H2.Good s → Sm s r → l ≠ [] → s.toks.length ≤ f → s.toks.length ≤ f' + 1 →
    (((rcom M f' (l.map (·.1)) (l.map (·.2)) r).1 = some ((Ps.itemsLoop (Ps.pair L) f l s).1.map (·.1), (Ps.itemsLoop (Ps.pair L) f l s).1.map (·.2)) ∧ Sm (Ps.itemsLoop (Ps.pair L) f l s).2 (rcom M f' (l.map (·.1)) (l.map (·.2)) r).2)
      ∨ Fl (Ps.itemsLoop (Ps.pair L) f l s).2 (rcom M f' (l.map (·.1)) (l.map (·.2)) r).2)
  | 0, f', l, s, r, g, h, hl, hf, hf' => by have := g.one; omega
  | f + 1, f', l, s, r, g, h, hl, hf, hf' => by
    have fw := Ps.H2.fw_take g (m := [44]) (by simp)
    obtain ⟨b, s1, r1, e1, e2, h1, g1⟩ := step_has (m := [44]) (by simp) h
    have g1 := g1 g
    unfold rcom Ps.itemsLoop
    rw [e1, e2]
    rw [e1] at fw
    cases b
    · exact .inl ⟨rfl, h1⟩
    · dsimp only
      have fw := fw rfl
      have ht : s1.toks.length < s.toks.length := by
        rcases fw with fw | fw
        · simp only at fw; rw [h1.1] at fw; cases fw
        · exact fw
      have o1 := g1.one
      obtain ⟨f'', rfl⟩ : ∃ f'', f' = f'' + 1 := ⟨f' - 1, by omega⟩
      rw [obj_step M f'' _ _ h1.2.1 (by
        have : 0 < l.length := List.length_pos_iff.2 hl
        simp [this])]
      unfold rstep
      have hp := go_pair p g1 h1
      have gp := Ps.H2.sh_pair hs s1 g1
      generalize Ps.pair L s1 = X at *
      generalize rpair M r1 = Y at *
      obtain ⟨o, q⟩ := Y
      rcases hp with ⟨v, h2⟩ | h2
      · simp only at v h2
        subst v
        have := go_com p hs hk f f'' (l ++ [X.1]) X.2 q gp.good h2 (by simp) (by have := gp.le; omega) (by have := gp.le; omega)
        simpa using this
      · right
        have h3 := h2.left (Ps.K.sh_itemsLoop (Ps.K.sh_pair hk) f (l ++ [X.1]))
        cases o
        · exact h3
        · dsimp only
          unfold rcom
          rw [has_bad h3.2.1]
          exact h3
theorem go_object {L : Ps.Lv} {M : Lr} (p : PL L M) (hs : Ps.H2.ShL L) (hk : Ps.K.ShL L) (a : Nat) {s : Ps.St} {r : Rt} (g : Ps.H2.Good s) (h : Sm s r) :
    Res (Ps.add { k := 8, a := a, names := (Ps.items [125] (Ps.pair L) s).1.map (·.1), kids := (Ps.items [125] (Ps.pair L) s).1.map (·.2) } (Ps.items [125] (Ps.pair L) s).2) (object M a r) := by
  unfold Ps.items object Ps.take
  by_cases e : Ps.mark s = [125]
  · have hi := isS_yes (by simp) h e
    have : objLoop M (r.toks.length + 1) [] [] r = (some ([], []), r) := by
      unfold objLoop
      rw [hi]; rfl
    rw [if_pos e, this]
    dsimp only
    rw [must_of h.2.1 hi]
    exact out_add (cp_skip g h) (fun _ => rfl)
  · have hi := isS_no (by simp) h e
    rw [if_neg e, obj_step M _ _ _ h.2.1 (by rw [hi]; rfl)]
    dsimp only
    unfold rstep
    have hp := go_pair p g h
    have gp := Ps.H2.sh_pair hs s g
    rw [h.2.2.1]
    generalize Ps.pair L s = X at *
    generalize rpair M r = Y at *
    obtain ⟨o, q⟩ := Y
    rcases hp with ⟨v, h2⟩ | h2
    · simp only at v h2
      subst v
      have hc := go_com p hs hk X.2.toks.length s.toks.length [X.1] X.2 q gp.good h2 (by simp) (Nat.le_refl _) (by have := gp.le; omega)
      have gl := (Ps.H2.sh_itemsLoop (Ps.H2.sh_pair hs) X.2.toks.length [X.1] X.2 gp.good).good
      have e1 : List.map (fun x : List UInt8 × Nat => x.1) [X.1] = [X.1.1] := rfl
      have e2 : List.map (fun x : List UInt8 × Nat => x.2) [X.1] = [X.1.2] := rfl
      rw [e1, e2] at hc
      dsimp only [List.nil_append] at hc ⊢
      generalize Ps.itemsLoop (Ps.pair L) X.2.toks.length [X.1] X.2 = Z at *
      generalize rcom M s.toks.length [X.1.1] [X.1.2] q = U at *
      obtain ⟨o, u⟩ := U
      rcases hc with ⟨v, h3⟩ | h3
      · simp only at v h3
        subst v
        exact out_add (cp_want (by simp) ⟨gl, .inl h3⟩) (fun _ => rfl)
      · simp only at h3
        right
        cases o
        · exact h3.wantl [125]
        · exact h3.want [125]
    · simp only at h2
      right
      have h3 := (h2.left (Ps.K.sh_itemsLoop (Ps.K.sh_pair hk) X.2.toks.length [X.1])).wantl [125]
      cases o
      · exact h3
      · dsimp only
        unfold rcom
        rw [has_bad h3.2.1]
        dsimp only
        exact h3.right (q := fun r => ((), must [125] r)) (fun r => ba_must [125] r)
end Go.Proofs.YtpjmapoiinjakaaGreatDoor.Rp
end
section
namespace Go.Proofs.YtpjmapoiinjakaaGreatDoor.Rp
open Lx
set_option linter.unusedVariables false
theorem go_par {L : Ps.Lv} {M : Lr} (p : PL L M) {s : Ps.St} {r : Rt} (g : Ps.H2.Good s) (h : Sm s r) : Res (Ps.inParens L s) (rpar M r) := by
  have c : Cp s r := ⟨g, .inl h⟩
  rcases (cp_par p c).2 with h1 | h1
  · exact .inl ⟨h1, (v_par p c h1).2⟩
  · exact .inr h1
/-- A mark that is a word is a word's. -/
theorem word_mark {s : Ps.St} (g : Ps.H2.Good s) {W : List UInt8} (e : Ps.mark s = W) (hn : W ≠ []) (hw : W ∉ Lx.signs) : (Ps.nxt s).k = 4 ∧ (Ps.nxt s).t = W := by
  have hk := g.kw _ (nxt_mem g)
  unfold Ps.mark at e
  by_cases h : (Ps.nxt s).k = 4 ∨ (Ps.nxt s).k = 5
  · rw [if_pos h] at e
    rcases h with h | h
    · exact ⟨h, e⟩
    · exact absurd (e ▸ hk.2 h) hw
  · rw [if_neg h] at e; exact absurd e.symm hn
theorem go_leaf {n n' : Ps.Nd} {s : Ps.St} {r : Rt} (g : Ps.H2.Good s) (h : Sm s r) (e : { n with a := (Ps.nxt s).a } = n') : Res (Ps.leaf n s) (put n' (move r)) := by
  unfold Ps.leaf
  dsimp only
  exact out_add (cp_skip g h) (fun _ => e)
theorem go_first {L : Ps.Lv} {M : Lr} (p : PL L M) (hb : SbL M) (hi : Ps.ImL L) (hs : Ps.H2.ShL L) (hk : Ps.K.ShL L) (s : Ps.St) (r : Rt) (g : Ps.H2.Good s) (h : Sm s r) : Res (Ps.alone L s) (first M r) := by
  unfold Ps.alone first
  dsimp only
  rw [nx_eq h]
  by_cases h1 : (Ps.nxt s).k = 1
  · rw [if_pos h1, if_pos h1]; exact go_leaf g h rfl
  rw [if_neg h1, if_neg h1]
  by_cases h2 : (Ps.nxt s).k = 2
  · rw [if_pos h2, if_pos h2]; exact go_leaf g h rfl
  rw [if_neg h2, if_neg h2]
  by_cases h3 : (Ps.nxt s).k = 3
  · rw [if_pos h3, if_pos h3]; exact go_leaf g h rfl
  rw [if_neg h3, if_neg h3]
  by_cases m1 : Ps.mark s = [116, 114, 117, 101]
  · have w := word_mark g m1 (by decide) (by decide)
    rw [if_pos m1, if_pos ⟨w.1, by rw [w.2]; decide⟩]
    exact go_leaf g h (by rw [w.2]; rfl)
  rw [if_neg m1]
  by_cases m2 : Ps.mark s = [102, 97, 108, 115, 101]
  · have w := word_mark g m2 (by decide) (by decide)
    rw [if_pos m2, if_pos ⟨w.1, by rw [w.2]; decide⟩]
    exact go_leaf g h (by rw [w.2]; rfl)
  rw [if_neg m2]
  by_cases m3 : Ps.mark s = [110, 117, 108, 108]
  · have w := word_mark g m3 (by decide) (by decide)
    rw [if_pos m3, if_pos ⟨w.1, by rw [w.2]; decide⟩]
    exact go_leaf g h (by rw [w.2]; rfl)
  rw [if_neg m3]
  by_cases m4 : Ps.mark s = [117, 110, 100, 101, 102, 105, 110, 101, 100]
  · have w := word_mark g m4 (by decide) (by decide)
    rw [if_pos m4, if_pos ⟨w.1, by rw [w.2]; decide⟩]
    exact go_leaf g h (by rw [w.2]; rfl)
  rw [if_neg m4]
  by_cases m5 : Ps.mark s = [116, 104, 105, 115]
  · have w := word_mark g m5 (by decide) (by decide)
    rw [if_pos m5, if_pos ⟨w.1, by rw [w.2]; decide⟩]
    exact go_leaf g h (by rw [w.2]; rfl)
  rw [if_neg m5]
  have hn : ¬ ((Ps.nxt s).k = 4 ∧ 0 < (simple (Ps.nxt s).t).k) := by
    rintro ⟨k4, ks⟩
    have hm : Ps.mark s = (Ps.nxt s).t := by unfold Ps.mark; rw [if_pos (show (Ps.nxt s).k = 4 ∨ (Ps.nxt s).k = 5 from .inl k4)]
    rw [hm] at m1 m2 m3 m4 m5
    unfold simple at ks
    rw [if_neg m1, if_neg m2, if_neg m3, if_neg m4, if_neg m5] at ks
    exact absurd ks (by decide)
  rw [if_neg hn]
  by_cases mf : Ps.mark s = [102, 117, 110, 99, 116, 105, 111, 110]
  · iterate 3 rw [if_neg (by rw [mf]; decide)]
    rw [if_pos mf, if_pos (isS_yes (by simp) h mf)]
    exact go_func p hi hs hk false g h mf
  rw [if_neg mf, isS_no (by simp) h mf, if_neg Bool.false_ne_true]
  by_cases m6 : Ps.mark s = [40]
  · rw [if_pos m6, has_yes (by simp) h m6]
    have := go_par p g h
    unfold rpar at this
    rw [must_of h.2.1 (isS_yes (by simp) h m6)] at this
    exact this
  rw [if_neg m6, hasnt (by simp) h m6]; dsimp only
  by_cases m7 : Ps.mark s = [91]
  · rw [if_pos m7, has_yes (by simp) h m7]
    dsimp only
    have pc := pair_commas p hb (m := [93]) (by simp)
    refine out_add (pc.c (cp_skip g h)) fun e => ?_
    rw [(pc.v (cp_skip g h) e).2]; rfl
  rw [if_neg m7, hasnt (by simp) h m7]; dsimp only
  by_cases m8 : Ps.mark s = [123]
  · rw [if_pos m8, has_yes (by simp) h m8]
    exact go_object p hs hk (Ps.nxt s).a (cp_skip g h).1 (sm_move h)
  rw [if_neg m8, hasnt (by simp) h m8]
  exact .inr (fl_fail h)
end Go.Proofs.YtpjmapoiinjakaaGreatDoor.Rp
end
section
namespace Go.Proofs.YtpjmapoiinjakaaGreatDoor.Ps.X
open Lx Ps
set_option linter.unusedVariables false
def Good (s : St) : Prop := True
/-- Nodes stay. -/
def Le (s t : St) : Prop := s.nodes <+: t.nodes
theorem Le.good {s t : St} (h : Le s t) : Good t := trivial
theorem Le.refl {s : St} (g : Good s) : Le s s := List.prefix_refl _
theorem Le.trans {a b c : St} (h : Le a b) (k : Le b c) : Le a c := List.IsPrefix.trans h k
def Sh {α : Type} (f : M α) : Prop := ∀ s, Good s → Le s (f s).2
theorem Le.then {α : Type} {f : M α} {a b : St} (h : Le a b) (k : Sh f) : Le a (f b).2 := h.trans (k b trivial)
theorem sh_skip : Sh skip := fun s g => by
  unfold skip
  simp only []
  split <;> exact List.prefix_refl _
theorem sh_take (m : List UInt8) : Sh (take m) := fun s g => by
  unfold take
  split
  · exact sh_skip s g
  · exact Le.refl g
theorem sh_add (n : Nd) : Sh (add n) := fun s g => List.prefix_append _ _
theorem sh_fail : Sh fail := fun s g => by
  unfold fail
  split
  · exact sh_add _ s g
  · exact List.prefix_append _ _
theorem sh_want (m : List UInt8) : Sh (want m) := fun s g => by
  unfold want
  have h := sh_take m s g
  generalize take m s = P at *
  obtain ⟨b, s'⟩ := P
  simp only at h
  cases b
  · exact h.then sh_fail
  · exact h
theorem sh_textOf (k : List Nat) : Sh (textOf k) := fun s g => by
  unfold textOf
  split
  · exact sh_skip s g
  · exact sh_fail s g
theorem sh_name : Sh name := sh_textOf _
theorem sh_over (n : Nd) (k : List Nat) : Sh (over n k) := fun s g => sh_add _ s g
theorem sh_itemsLoop {α : Type} {item : M α} (hi : Sh item) : ∀ (f : Nat) (l : List α), Sh (itemsLoop item f l)
  | 0, l, s, g => Le.refl g
  | f + 1, l, s, g => by
    unfold itemsLoop
    have h := sh_take [44] s g
    generalize take [44] s = P at *
    obtain ⟨b, s'⟩ := P
    simp only at h
    cases b
    · exact h
    · exact (h.then hi).then (sh_itemsLoop hi f _)
theorem sh_items {α : Type} {item : M α} (hi : Sh item) (m : List UInt8) : Sh (items m item) := fun s g => by
  unfold items
  have h := sh_take m s g
  generalize take m s = P at *
  obtain ⟨b, s'⟩ := P
  simp only at h
  cases b
  · exact ((h.then hi).then (sh_itemsLoop hi _ _)).then (sh_want m)
  · exact h
theorem sh_chainLoop {lv : List UInt8 → Option Nd} {sub : M Nat} (hs : Sh sub) : ∀ (f left : Nat), Sh (chainLoop lv sub f left)
  | 0, l, s, g => Le.refl g
  | f + 1, l, s, g => by
    unfold chainLoop
    split
    · exact Le.refl g
    · exact (((sh_skip s g).then hs).then (sh_over _ _)).then (sh_chainLoop hs f _)
theorem sh_chain {part : M Nat} (hp : Sh part) : ∀ (row : List (List UInt8 → Option Nd)), Sh (chain part row)
  | [], s, g => hp s g
  | lv :: row, s, g => (sh_chain hp row s g).then (sh_chainLoop (sh_chain hp row) _ _)
structure ShL (L : Lv) : Prop where
  e : Sh L.e
  u : Sh L.u
  p : Sh L.p
  s : Sh L.s
theorem sh_choice {L : Lv} (h : ShL L) : Sh (choice L) := fun s g => by
  unfold choice
  have h1 := sh_chain (sh_chain h.u binaries) logics s g
  have h2 := h1.then (sh_take [63])
  simp only []
  generalize take [63] (chain (chain L.u binaries) logics s).2 = P at *
  obtain ⟨b, s'⟩ := P
  simp only at h2
  cases b
  · exact h2
  · exact (((h2.then h.e).then (sh_want [58])).then h.e).then (sh_over _ _)
theorem sh_leaf (n : Nd) : Sh (leaf n) := fun s g => (sh_skip s g).then (sh_add _)
theorem sh_inParens {L : Lv} (h : ShL L) : Sh (inParens L) := fun s g => ((sh_want [40] s g).then h.e).then (sh_want [41])
theorem sh_statementsLoop {L : Lv} (h : ShL L) : ∀ (f : Nat) (l : List Nat), Sh (statementsLoop L f l)
  | 0, l, s, g => Le.refl g
  | f + 1, l, s, g => by
    unfold statementsLoop
    split
    · exact (h.s s g).then (sh_statementsLoop h f _)
    · exact Le.refl g
theorem sh_statements {L : Lv} (h : ShL L) : Sh (statements L) := fun s g => sh_statementsLoop h _ _ s g
theorem sh_body {L : Lv} (h : ShL L) : Sh (body L) := fun s g => ((sh_want [123] s g).then (sh_statements h)).then (sh_want [125])
theorem sh_endS : Sh endS := fun s g => by
  unfold endS
  have h := sh_take [59] s g
  generalize take [59] s = P at *
  obtain ⟨b, s'⟩ := P
  simp only at h
  cases b
  · simp only []
    split
    · exact h.then sh_fail
    · exact h
  · exact h
theorem sh_block {L : Lv} (h : ShL L) : Sh (block L) := fun s g => (sh_body h s g).then (sh_add _)
theorem sh_inner {L : Lv} (h : ShL L) : Sh (inner L) := fun s g => by
  unfold inner; split
  · exact sh_fail s g
  · exact h.s s g
theorem sh_jump (k : Nat) : Sh (jump k) := fun s g => ((sh_skip s g).then sh_endS).then (sh_add _)
theorem sh_exprS {L : Lv} (h : ShL L) : Sh (exprS L) := fun s g => ((h.e s g).then sh_endS).then (sh_over _ _)
theorem sh_whileS {L : Lv} (h : ShL L) : Sh (whileS L) := fun s g => (((sh_skip s g).then (sh_inParens h)).then (sh_inner h)).then (sh_add _)
theorem sh_returnS {L : Lv} (h : ShL L) : Sh (returnS L) := fun s g => by
  unfold returnS
  have h0 := sh_skip s g
  simp only []
  split
  · exact ((h0.then h.e).then sh_endS).then (sh_add _)
  · exact (h0.then sh_endS).then (sh_add _)
theorem sh_throwS {L : Lv} (h : ShL L) : Sh (throwS L) := fun s g => by
  unfold throwS
  have h0 := sh_skip s g
  simp only []
  split
  · exact h0.then sh_fail
  · exact ((h0.then h.e).then sh_endS).then (sh_add _)
theorem le_tryS {L : Lv} (h : ShL L) {s t : St} (r : Le t (skip s).2) : Le t (tryS L s).2 := by
  unfold tryS
  simp only []
  have r1 := r.then (sh_block h)
  have r2 := r1.then (sh_want [99, 97, 116, 99, 104])
  have r3 := r2.then (sh_want [40])
  have r4 := r3.then sh_name
  have r5 := r4.then (sh_want [41])
  have r6 := r5.then (sh_block h)
  exact r6.then (sh_add _)
theorem sh_tryS {L : Lv} (h : ShL L) : Sh (tryS L) := fun s g => le_tryS h (sh_skip s g)
theorem le_binding {L : Lv} (h : ShL L) (k : Nat) {s t : St} (r : Le t (skip s).2) : Le t (binding L k s).2 := by
  unfold binding
  simp only []
  have r1 := r.then sh_name
  have r2 := r1.then (sh_want [61])
  have r3 := r2.then h.e
  have r4 := r3.then sh_endS
  exact r4.then (sh_add _)
theorem sh_binding {L : Lv} (h : ShL L) (k : Nat) : Sh (binding L k) := fun s g => le_binding h k (sh_skip s g)
theorem sh_func {L : Lv} (h : ShL L) (b : Bool) : Sh (func L b) := fun s g => by
  unfold func
  simp only []
  have h0 := (sh_skip s g).then (sh_take [42])
  have h1 : Le s (if (b || decide ((nxt (take [42] (skip s).2).2).k = 3)) = true then name (take [42] (skip s).2).2 else ([], (take [42] (skip s).2).2)).2 := by
    split
    · exact h0.then sh_name
    · exact h0
  exact (((h1.then (sh_want [40])).then (sh_items sh_name [41])).then (sh_body h)).then (sh_add _)
theorem sh_definition {L : Lv} (h : ShL L) : Sh (definition L) := fun s g => by
  have r := sh_func h true s g
  unfold definition
  simp only []
  generalize func L true s = P at *
  exact r.then (sh_add _)
theorem sh_ifS {L : Lv} (h : ShL L) : Sh (ifS L) := fun s g => by
  unfold ifS
  simp only []
  have h2 := ((((sh_skip s g).then (sh_inParens h)).then (sh_inner h))).then (sh_take [101, 108, 115, 101])
  generalize take [101, 108, 115, 101] (inner L (inParens L (skip s).2).2).2 = P at *
  obtain ⟨b, s'⟩ := P
  simp only at h2
  cases b
  · exact h2.then (sh_add _)
  · exact (h2.then (sh_inner h)).then (sh_add _)
theorem sh_pair {L : Lv} (h : ShL L) : Sh (pair L) := fun s g => ((sh_textOf [3, 4, 2] s g).then (sh_want [58])).then h.e
theorem ite_Le {c : Prop} [Decidable c] {s : St} {a b : Nat × St} (ha : Le s a.2) (hb : Le s b.2) : Le s (if c then a else b).2 := by split <;> assumption
theorem sh_arr {L : Lv} (h : ShL L) (s : St) (g : Good s) : Le s (add { k := 9, a := (skip s).1.a, kids := (items [93] L.e (skip s).2).1 } (items [93] L.e (skip s).2).2).2 := ((sh_skip s g).then (sh_items h.e [93])).then (sh_add _)
theorem sh_obj {L : Lv} (h : ShL L) (s : St) (g : Good s) : Le s (add { k := 8, a := (skip s).1.a, names := (items [125] (pair L) (skip s).2).1.map (·.1), kids := (items [125] (pair L) (skip s).2).1.map (·.2) } (items [125] (pair L) (skip s).2).2).2 := ((sh_skip s g).then (sh_items (sh_pair h) [125])).then (sh_add _)
theorem sh_alone {L : Lv} (h : ShL L) : Sh (alone L) := fun s g => by
  unfold alone
  exact (ite_Le (sh_leaf _ s g) (ite_Le (sh_leaf _ s g) (ite_Le (sh_leaf _ s g) (ite_Le (sh_leaf _ s g) (ite_Le (sh_leaf _ s g) (ite_Le (sh_leaf _ s g) (ite_Le (sh_leaf _ s g) (ite_Le (sh_leaf _ s g) (ite_Le (sh_inParens h s g) (ite_Le (sh_arr h s g) (ite_Le (sh_obj h s g) (ite_Le (sh_func h false s g) (sh_fail s g)))))))))))))
theorem sh_primaryLoop {L : Lv} (h : ShL L) : ∀ (f p : Nat), Sh (primaryLoop L f p)
  | 0, p, s, g => Le.refl g
  | f + 1, p, s, g => by
    unfold primaryLoop
    have h1 := sh_take [46] s g
    generalize take [46] s = P at *
    obtain ⟨b, s1⟩ := P
    simp only at h1
    cases b
    · simp only []
      have h2 := h1.then (sh_take [91])
      generalize take [91] s1 = P at *
      obtain ⟨b, s2⟩ := P
      simp only at h2
      cases b
      · simp only []
        have h3 := h2.then (sh_take [40])
        generalize take [40] s2 = P at *
        obtain ⟨b, s3⟩ := P
        simp only at h3
        cases b
        · exact h3
        · exact ((h3.then (sh_items h.e [41])).then (sh_over _ _)).then (sh_primaryLoop h f _)
      · exact (((h2.then h.e).then (sh_want [93])).then (sh_over _ _)).then (sh_primaryLoop h f _)
    · exact ((h1.then (sh_textOf [3, 4])).then (sh_over _ _)).then (sh_primaryLoop h f _)
theorem sh_primary {L : Lv} (h : ShL L) : Sh (primary L) := fun s g => (sh_alone h s g).then (sh_primaryLoop h _ _)
theorem sh_anyUnary {L : Lv} (h : ShL L) : Sh (anyUnary L) := fun s g => by
  unfold anyUnary
  split
  · exact ((sh_skip s g).then h.u).then (sh_add _)
  · exact h.p s g
theorem sh_anyExpr {L : Lv} (h : ShL L) : Sh (anyExpr L) := fun s g => by
  unfold anyExpr
  have h1 := sh_take [121, 105, 101, 108, 100] s g
  generalize take [121, 105, 101, 108, 100] s = P at *
  obtain ⟨b, s1⟩ := P
  simp only at h1
  cases b
  · simp only []
    have h2 := h1.then (sh_choice h)
    split
    · have h3 := h2.then (sh_take [61])
      generalize take [61] (choice L s1).2 = P at *
      obtain ⟨b, s2⟩ := P
      simp only at h3
      cases b
      · exact h3
      · exact (h3.then h.e).then (sh_over _ _)
    · exact h2
  · exact (h1.then h.e).then (sh_add _)
theorem sh_anyStatement {L : Lv} (h : ShL L) : Sh (anyStatement L) := fun s g => by
  unfold anyStatement
  exact (ite_Le (sh_block h s g) (ite_Le (sh_ifS h s g) (ite_Le (sh_whileS h s g) (ite_Le (sh_jump 28 s g) (ite_Le (sh_jump 29 s g) (ite_Le (sh_returnS h s g) (ite_Le (sh_throwS h s g) (ite_Le (sh_tryS h s g) (ite_Le (sh_binding h 21 s g) (ite_Le (sh_binding h 22 s g) (ite_Le (sh_definition h s g) (sh_exprS h s g))))))))))))
theorem sh_lv : ∀ d, ShL (lv d)
  | 0 => ⟨sh_fail, sh_fail, sh_fail, sh_fail⟩
  | d + 1 => ⟨sh_anyExpr (sh_lv d), sh_anyUnary (sh_lv d), sh_primary (sh_lv d), sh_anyStatement (sh_lv d)⟩
end Go.Proofs.YtpjmapoiinjakaaGreatDoor.Ps.X
end
section
namespace Go.Proofs.YtpjmapoiinjakaaGreatDoor.Rp
open Lx
set_option linter.unusedVariables false
theorem getD_pre {A B : List Ps.Nd} (h : A <+: B) {k : Nat} (hk : k < A.length) : B.getD k {} = A.getD k {} := by
  obtain ⟨C, rfl⟩ := h
  simp [List.getD, List.getElem?_append_left hk]
theorem take_yes {m : List UInt8} {s : Ps.St} (e : Ps.mark s = m) : Ps.take m s = (true, (Ps.skip s).2) := by unfold Ps.take; rw [if_pos e]
theorem take_no {m : List UInt8} {s : Ps.St} (e : ¬ Ps.mark s = m) : Ps.take m s = (false, s) := by unfold Ps.take; rw [if_neg e]
theorem go_postLoop {L : Ps.Lv} {M : Lr} (p : PL L M) (hb : SbL M) (hx : Ps.X.ShL L) (hk : Ps.K.ShL L) : ∀ (f k : Nat) (s : Ps.St) (r : Rt), Ps.H2.Good s → Sm s r → k < s.nodes.length → Res (Ps.primaryLoop L f k s) (postLoop M f k r)
  | 0, k, s, r, g, h, hl => .inl ⟨h, rfl⟩
  | f + 1, k, s, r, g, h, hl => by
    unfold Ps.primaryLoop postLoop
    dsimp only
    rw [if_neg (show ¬ r.bad = true by rw [h.2.1]; simp), h.2.2.2]
    have c0 := cp_skip g h
    have px0 : s.nodes <+: (Ps.skip s).2.nodes := Ps.X.sh_skip s trivial
    have go : ∀ (n : Ps.Nd) (l : List Nat) (s' : Ps.St) (r' : Rt), Ps.H2.Good s' → Sm s' r' → s.nodes <+: s'.nodes →
        Res (Ps.primaryLoop L f (Ps.over n (k :: l) s').1 (Ps.over n (k :: l) s').2) (postLoop M f (put { n with kids := k :: l, a := (s.nodes.getD k {}).a } r').1 (put { n with kids := k :: l, a := (s.nodes.getD k {}).a } r').2) := fun n l s' r' g' h' hp => by
      have ho := out_over (n := n) (k := k) (l := l) g' h'
      rw [h'.2.2.2, getD_pre hp hl] at ho
      have hix := Ps.ix_add { n with kids := k :: l, a := (s'.nodes.getD k {}).a } s'
      have go := (Ps.H2.sh_over n (k :: l) s' g').good
      rcases ho with ho | ho
      · rw [← ho.2]
        exact go_postLoop p hb hx hk f _ _ _ go ho.1 hix
      · exact .inr (ho.on (Ps.K.sh_primaryLoop hk f _) (sb_postLoop M f _))
    have bad : ∀ (n n' : Ps.Nd) (l : List Nat) (s' : Ps.St) (r' : Rt), Fl s' r' → Res (Ps.primaryLoop L f (Ps.over n (k :: l) s').1 (Ps.over n (k :: l) s').2) (postLoop M f (put n' r').1 (put n' r').2) := fun n n' l s' r' h' => by
      have h1 : Fl (Ps.over n (k :: l) s').2 (put n' r').2 := h'
      exact .inr (h1.on (Ps.K.sh_primaryLoop hk f _) (sb_postLoop M f _))
    by_cases m1 : Ps.mark s = [46]
    · rw [take_yes m1, has_yes (by simp) h m1]
      dsimp only
      unfold Ps.textOf
      rw [nx_eq (sm_move h)]
      by_cases hn : (Ps.nxt (Ps.skip s).2).k ≠ 3 ∧ (Ps.nxt (Ps.skip s).2).k ≠ 4
      · rw [if_pos hn, if_neg (show ¬ (Ps.nxt (Ps.skip s).2).k ∈ [3, 4] by simpa using hn)]
        exact .inr (((fl_fail (sm_move h)).over _ _).left (Ps.K.sh_primaryLoop hk f _))
      · rw [if_neg hn, if_pos (show (Ps.nxt (Ps.skip s).2).k ∈ [3, 4] by
          have : (Ps.nxt (Ps.skip s).2).k = 3 ∨ (Ps.nxt (Ps.skip s).2).k = 4 := by omega
          simpa using this)]
        exact go _ [] _ _ (Ps.H2.sh_skip _ c0.1).good (sm_move (sm_move h)) (px0.trans (Ps.X.sh_skip _ trivial))
    rw [take_no m1, hasnt (by simp) h m1]
    dsimp only
    by_cases m2 : Ps.mark s = [91]
    · rw [take_yes m2, has_yes (by simp) h m2]
      dsimp only
      have c1 := p.e.c c0
      have c2 := cp_want (m := [93]) (by simp) c1
      have px : s.nodes <+: (Ps.want [93] (L.e (Ps.skip s).2).2).2.nodes := px0.trans ((hx.e _ trivial).trans (Ps.X.sh_want [93] _ trivial))
      rcases c2.2 with h2 | h2
      · rw [(p.e.v c0 (v_want (by simp) c1 h2)).2]
        exact go _ _ _ _ c2.1 h2 px
      · exact bad _ _ _ _ _ h2
    rw [take_no m2, hasnt (by simp) h m2]
    dsimp only
    by_cases m3 : Ps.mark s = [40]
    · rw [take_yes m3, has_yes (by simp) h m3]
      dsimp only
      have pc := pair_commas p hb (m := [41]) (by simp)
      have c1 := pc.c c0
      have px : s.nodes <+: (Ps.items [41] L.e (Ps.skip s).2).2.nodes := px0.trans (Ps.X.sh_items hx.e [41] _ trivial)
      rcases c1.2 with h2 | h2
      · rw [(pc.v c0 h2).2]
        exact go _ _ _ _ c1.1 h2 px
      · exact bad _ _ _ _ _ h2
    rw [take_no m3, hasnt (by simp) h m3]
    exact .inl ⟨h, rfl⟩
theorem go_post {L : Ps.Lv} {M : Lr} (p : PL L M) (hb : SbL M) (hx : Ps.X.ShL L) (hi : Ps.ImL L) (hs : Ps.H2.ShL L) (hk : Ps.K.ShL L) (ix : Ps.IxL L) (s : Ps.St) (r : Rt) (g : Ps.H2.Good s) (h : Sm s r) : Res (Ps.primary L s) (post M r) := by
  unfold Ps.primary post
  dsimp only
  have h1 := go_first p hb hi hs hk s r g h
  have g1 := (Ps.H2.sh_alone hs s g).good
  have i1 := Ps.ix_alone ix s
  generalize Ps.alone L s = X at *
  generalize first M r = Y at *
  rcases h1 with ⟨h1, v1⟩ | h1
  · rw [← v1, h1.2.2.1]
    exact go_postLoop p hb hx hk _ _ _ _ g1 h1 i1
  · exact .inr (h1.on (Ps.K.sh_primaryLoop hk _ _) (sb_postLoop M _ _))
/-- The levels. -/
theorem pair_lv : ∀ d, PL (Ps.lv d) (rl d)
  | 0 => by
    have b : Sb (fun r => ((0 : Nat), spoil r)) := fun r => ba_spoil r
    have f0 : Pair Ps.fail (fun r => ((0 : Nat), spoil r)) := ⟨Ps.H2.sh_fail, Ps.K.sh_fail, b, fun s r g h => .inr (fl_fail h)⟩
    exact ⟨f0, f0, f0, f0⟩
  | d + 1 => by
    have p := pair_lv d
    have hs := Ps.H2.sh_lv d
    have hk := Ps.K.sh_lv d
    have hx := Ps.X.sh_lv d
    have hi := Ps.im_lv d
    have hb := sb_rl d
    have ix := Ps.ix_lv d
    exact ⟨pair_deeper (Ps.H2.sh_anyExpr hs) (Ps.K.sh_anyExpr hk) (go_anyExpr p hs),
      pair_deeper (Ps.H2.sh_anyUnary hs) (Ps.K.sh_anyUnary hk) (go_unary p),
      pair_deeper (Ps.H2.sh_primary hs) (Ps.K.sh_primary hk) (go_post p hb hx hi hs hk ix),
      pair_deeper (Ps.H2.sh_anyStatement hs) (Ps.K.sh_anyStatement hk) (go_any p hi hs hk)⟩
end Go.Proofs.YtpjmapoiinjakaaGreatDoor.Rp
end
section
namespace Go.Proofs.YtpjmapoiinjakaaGreatDoor.Rp
open Lx
set_option linter.unusedVariables false
theorem go_last {L : Ps.Lv} {M : Lr} (p : PL L M) (hi : Ps.ImL L) (hs : Ps.H2.ShL L) (hk : Ps.K.ShL L) : ∀ (f : Nat) (l : List Nat) (s : Ps.St) (r : Rt), Ps.H2.Good s → Sm s r → s.toks.length + 1 ≤ f →
    (Sm (if (Ps.nxt (Ps.statementsLoop L f l s).2).k = 0 then (Ps.statementsLoop L f l s).2 else (Ps.fail (Ps.statementsLoop L f l s).2).2) (listLoop M true f l r).2 ∧ (Ps.statementsLoop L f l s).1 = (listLoop M true f l r).1)
      ∨ Fl (if (Ps.nxt (Ps.statementsLoop L f l s).2).k = 0 then (Ps.statementsLoop L f l s).2 else (Ps.fail (Ps.statementsLoop L f l s).2).2) (listLoop M true f l r).2
  | 0, l, s, r, g, h, hf => by omega
  | f + 1, l, s, r, g, h, hf => by
    unfold Ps.statementsLoop listLoop
    rw [if_neg (show ¬ r.bad = true by rw [h.2.1]; simp), h.1, nx_eq h]
    simp only [Bool.false_and, Bool.not_false, Bool.true_and, Bool.or_false, Bool.not_true]
    by_cases h0 : (Ps.nxt s).k = 0
    · have hc : Ps.closes s = true := by unfold Ps.closes; rw [decide_eq_true h0]; simp
      rw [hc, decide_eq_true h0]
      simp only [Bool.not_true, Bool.false_eq_true, if_false, if_true]
      rw [if_pos h0]
      exact .inl ⟨h, trivial⟩
    · rw [decide_eq_false h0]
      by_cases hm : Ps.mark s = [125]
      · have hc : Ps.closes s = true := by unfold Ps.closes; rw [decide_eq_true hm]; rfl
        rw [hc]
        simp only [Bool.not_true, Bool.false_eq_true, if_false]
        rw [if_neg h0]
        right
        obtain ⟨d1, d2⟩ := dead_s p hi g h ⟨h.1, .inr hm⟩
        have b1 := sb_listLoop M true f (l ++ [(M.s r).1]) (M.s r).2 d1
        have hfl := fl_fail h
        refine ⟨hfl.1, b1.1, ?_⟩
        rw [hfl.2.2]
        unfold nx at d2 ⊢
        rw [b1.2, d2]
        unfold spoil
        rw [h.2.2.1]; rfl
      · have hc : Ps.closes s = false := by unfold Ps.closes; rw [decide_eq_false h0, decide_eq_false hm]; rfl
        rw [hc]
        simp only [Bool.not_false, if_true, Bool.false_eq_true, if_false]
        have hg := hs.gs s g
        have hl := hs.s s g
        rcases p.s.go s r g h with h1 | h1
        · rw [h1.2]
          refine go_last p hi hs hk f _ _ _ hl.good h1.1 ?_
          rcases hg with h2 | h2
          · rw [h1.1.1] at h2; cases h2
          · omega
        · right
          have h2 := h1.on (Ps.K.sh_statementsLoop hk f (l ++ [(L.s s).1])) (sb_listLoop M true f (l ++ [(M.s r).1]))
          split
          · exact h2
          · exact h2.left Ps.K.sh_fail
theorem sgn_mem (l : List UInt8) : ∀ (L : List (List UInt8)) (a : List UInt8), L.foldl (longer l) a = a ∨ L.foldl (longer l) a ∈ L
  | [], a => .inl rfl
  | s :: L, a => by
    rw [List.foldl_cons]
    rcases sgn_mem l L (longer l a s) with h | h
    · rw [h]
      unfold longer
      split
      · exact .inr (List.mem_cons_self ..)
      · exact .inl rfl
    · exact .inr (List.mem_cons_of_mem _ h)
theorem sgn_in (l : List UInt8) : sgn l = [] ∨ sgn l ∈ signs := sgn_mem l signs []
theorem piece_kw {l : List UInt8} {q : Pc} (h : piece l = some q) : (q.k = 4 → q.t ∈ Lx.words) ∧ (q.k = 5 → q.t ∈ Lx.signs) := by
  unfold piece at h
  cases h1 : pEnd l with
  | some a =>
    rw [h1] at h; cases h
    unfold pEnd at h1
    split at h1
    · cases h1; exact ⟨fun e => (by cases e), fun e => (by cases e)⟩
    · cases h1
  | none =>
  rw [h1, Option.none_or] at h
  cases h2 : pNum l with
  | some a =>
    rw [h2] at h; cases h
    unfold pNum at h2
    split at h2 <;> (try cases h2)
    all_goals (try (split at h2 <;> cases h2))
    all_goals exact ⟨fun e => (by cases e), fun e => (by cases e)⟩
  | none =>
  rw [h2, Option.none_or] at h
  cases h3 : pTxt l with
  | some a =>
    rw [h3] at h; cases h
    unfold pTxt at h3
    split at h3
    · cases h3
    · split at h3
      · obtain ⟨w, -, e⟩ := Option.map_eq_some_iff.1 h3
        rw [← e]
        exact ⟨fun e => (by cases e), fun e => (by cases e)⟩
      · cases h3
  | none =>
  rw [h3, Option.none_or] at h
  cases h4 : pNam l with
  | some a =>
    rw [h4] at h; cases h
    unfold pNam at h4
    split at h4
    · cases h4
      by_cases hw : isWord (l.take (hd ofName l)) = true
      · exact ⟨fun _ => by simpa [isWord] using hw, fun e => by simp [hw] at e⟩
      · exact ⟨fun e => by simp [hw] at e, fun e => by simp [hw] at e⟩
    · cases h4
  | none =>
  rw [h4, Option.none_or] at h
  unfold pSgn at h
  have hs := sgn_in l
  generalize signs = S at *
  generalize sgn l = G at *
  by_cases hn : G = []
  · rw [if_pos hn] at h; cases h
  · rw [if_neg hn] at h
    have e := Option.some.inj h
    rw [← e]
    exact ⟨fun e => (by cases e), fun _ => hs.resolve_left hn⟩
theorem tok_kw (l : List UInt8) (p : Nat) : ((tok l p).k = 4 → (tok l p).t ∈ Lx.words) ∧ ((tok l p).k = 5 → (tok l p).t ∈ Lx.signs) := by
  unfold tok
  cases h : piece (l.drop (p + (blk false (l.drop p)).1)) with
  | none => exact ⟨fun e => (by cases e), fun e => (by cases e)⟩
  | some q => exact piece_kw h
theorem run_kw (l : List UInt8) : ∀ (f p : Nat), ∀ t ∈ run l f p, (t.k = 4 → t.t ∈ Lx.words) ∧ (t.k = 5 → t.t ∈ Lx.signs)
  | 0, p, t, h => by
    have : t = tok l p := by simpa [run] using h
    rw [this]; exact tok_kw l p
  | f + 1, p, t, h => by
    unfold run at h
    split at h
    · have : t = tok l p := by simpa using h
      rw [this]; exact tok_kw l p
    · rcases List.mem_cons.1 h with h | h
      · rw [h]; exact tok_kw l p
      · exact run_kw l f _ t h
/-- The reference's parser is the program's. -/
theorem rparse_eq (src : List UInt8) (one : 1 ≤ (Lx.all src).length) (last : ∀ T, (Lx.all src).getLast? = some T → T.k = 0 ∨ T.k = 6) : rparse src = Ps.parse src := by
  unfold rparse Ps.parse
  by_cases hl : 4096 < src.length
  · rw [if_pos hl, if_pos hl]
  rw [if_neg hl, if_neg hl]
  dsimp only
  unfold list Ps.statements
  dsimp only
  have g : Ps.H2.Good ⟨Lx.all src, [], false, 0⟩ := ⟨one, last, run_kw src _ _⟩
  have h : Sm ⟨Lx.all src, [], false, 0⟩ ⟨Lx.all src, [], false⟩ := ⟨rfl, rfl, rfl, rfl⟩
  have := go_last (pair_lv 40) (Ps.im_lv 40) (Ps.H2.sh_lv 40) (Ps.K.sh_lv 40) ((Lx.all src).length + 1) [] _ _ g h (Nat.le_refl _)
  generalize Ps.statementsLoop (Ps.lv 40) ((Lx.all src).length + 1) [] ⟨Lx.all src, [], false, 0⟩ = X at *
  generalize listLoop (rl 40) true ((Lx.all src).length + 1) [] ⟨Lx.all src, [], false⟩ = Y at *
  generalize (if (Ps.nxt X.2).k = 0 then X.2 else (Ps.fail X.2).2) = S at *
  rcases this with ⟨h1, h2⟩ | h1
  · rw [if_neg (show ¬ Y.2.bad = true by rw [h1.2.1]; simp), if_neg (show ¬ (Ps.add { k := 33, kids := X.1 } S).2.failed = true by
      show ¬ S.failed = true
      rw [h1.1]; simp), h2]
    show ((Y.2.nodes ++ [_], 0, true) : List Ps.Nd × Nat × Bool) = (S.nodes ++ [_], 0, true)
    rw [h1.2.2.2]
  · rw [if_pos h1.2.1, if_pos (show (Ps.add { k := 33, kids := X.1 } S).2.failed = true from h1.1)]
    show _ = (([], S.at_, false) : List Ps.Nd × Nat × Bool)
    rw [h1.2.2]
end Go.Proofs.YtpjmapoiinjakaaGreatDoor.Rp
end
