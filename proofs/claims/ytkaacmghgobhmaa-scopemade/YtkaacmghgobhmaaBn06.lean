/- Texts: RpD LxN QL QB. -/
import Derived.Test.YtkaacmghgobhmaaBn05
import Derived.Test.YtkaacmghgobhmaaBn00
import Derived.Deep.LoopGhost
section
namespace Go.Proofs.Ytkaacmghgobhmaa.Rp
open Lx Ps
set_option linter.unusedVariables false
/-- The last token ends. -/
structure Gd (r : Rt) : Prop where
  one : 1 ≤ r.toks.length
  last : ∀ T, r.toks.getLast? = some T → T.k = 0 ∨ T.k = 6
def Dn (a b : Rt) : Prop := (Gd a → Gd b ∧ b.toks.length ≤ a.toks.length) ∧ (a.bad = true → b.bad = true)
theorem move_gd {r : Rt} (g : Gd r) : Gd (move r) := by
  unfold move
  split
  · rename_i h
    obtain ⟨T, l, e⟩ : ∃ T l, r.toks = T :: l := by
      cases hs : r.toks with
      | nil => rw [hs] at h; simp at h
      | cons T l => exact ⟨T, l, rfl⟩
    have h1 : 1 ≤ l.length := by rw [e, List.length_cons] at h; omega
    refine ⟨by show 1 ≤ r.toks.tail.length; rw [e]; exact h1, fun T' hT => g.last T' ?_⟩
    rw [e, List.getLast?_cons]
    have hT' : l.getLast? = some T' := by have h2 : r.toks.tail.getLast? = some T' := hT; rw [e] at h2; exact h2
    rw [hT']; rfl
  · exact g
theorem move_len (r : Rt) : (move r).toks.length ≤ r.toks.length := by
  unfold move
  split
  · show r.toks.tail.length ≤ _; simp
  · exact Nat.le_refl _
theorem pre_dn : Pre Dn where
  refl := fun r => ⟨fun g => ⟨g, Nat.le_refl _⟩, id⟩
  trans := fun h k => ⟨fun g => ⟨(k.1 (h.1 g).1).1, Nat.le_trans (k.1 (h.1 g).1).2 (h.1 g).2⟩, fun b => k.2 (h.2 b)⟩
  move := fun r => ⟨fun g => ⟨move_gd g, move_len r⟩, fun h => by unfold move; split <;> exact h⟩
  spoil := fun r => ⟨fun g => ⟨⟨g.one, g.last⟩, Nat.le_refl _⟩, fun _ => rfl⟩
  put := fun n r => ⟨fun g => ⟨⟨g.one, g.last⟩, Nat.le_refl _⟩, fun h => h⟩
/-- On, or bad. -/
def On (a b : Rt) : Prop := Gd a → Gd b ∧ (b.bad = true ∨ b.toks.length < a.toks.length)
theorem On.to {a b c : Rt} (h : On a b) (k : Dn b c) : On a c := fun g => by
  obtain ⟨g1, h1⟩ := h g
  obtain ⟨g2, h2⟩ := k.1 g1
  refine ⟨g2, ?_⟩
  rcases h1 with h1 | h1
  · exact .inl (k.2 h1)
  · exact .inr (Nat.lt_of_le_of_lt h2 h1)
theorem Dn.on {a b c : Rt} (h : Dn a b) (k : On b c) : On a c := fun g => by
  obtain ⟨g1, h1⟩ := h.1 g
  obtain ⟨g2, h2⟩ := k g1
  refine ⟨g2, ?_⟩
  rcases h2 with h2 | h2
  · exact .inl h2
  · exact .inr (Nat.lt_of_lt_of_le h2 h1)
theorem on_move {r : Rt} (h0 : (nx r).k ≠ 0) (h6 : (nx r).k ≠ 6) : On r (move r) := fun g => by
  refine ⟨move_gd g, .inr ?_⟩
  have h1 : 1 < r.toks.length := by
    rcases Nat.lt_or_ge 1 r.toks.length with h | h
    · exact h
    · exfalso
      have hl := g.one
      obtain ⟨T, e⟩ : ∃ T, r.toks = [T] := List.length_eq_one_iff.1 (by omega)
      have hT := g.last T (by rw [e]; rfl)
      have hn : nx r = T := by unfold nx; rw [e]; rfl
      rw [hn] at h0 h6
      rcases hT with h | h <;> contradiction
  unfold move
  rw [if_pos h1]
  show r.toks.tail.length < _
  rw [List.length_tail]; omega
theorem isS_on {m : List UInt8} {r : Rt} (h : isS m r = true) : On r (move r) := by
  unfold isS at h
  simp only [Bool.and_eq_true, decide_eq_true_eq] at h
  exact on_move (by omega) (by omega)
theorem on_spoil {a b : Rt} (h : Dn a b) : On a (spoil b) := fun g => ⟨⟨(h.1 g).1.one, (h.1 g).1.last⟩, .inl rfl⟩
theorem has_on {m : List UInt8} {r r' : Rt} (h : has m r = (true, r')) : On r r' := by
  unfold has at h
  split at h
  · cases h
  · rename_i h1
    cases h
    cases e : isS m r
    · rw [e] at h1; simp at h1
    · exact isS_on e
theorem on_must (m : List UInt8) (r : Rt) : On r (must m r) := by
  unfold must
  split
  · rename_i h; exact has_on h
  · rename_i h; exact on_spoil (pre_dn.hs (pre_dn.refl _) h)
theorem on_put {a b : Rt} (h : On a b) (n : Nd) : On a (put n b).2 := h.to (pre_dn.put n b)
def OnF (f : Q Nat) : Prop := ∀ r, On r (f r).2
structure OnL (L : Lr) : Prop where
  e : OnF L.e
  u : OnF L.u
  p : OnF L.p
  s : OnF L.s
theorem on_func {L : Lr} (hL : KpL Dn L) (named : Bool) : OnF (func L named) := fun r =>
  on_put ((on_must _ r).to (pre_dn.to (kp_body pre_dn hL) (pre_dn.mu (pre_dn.to (kp_pars pre_dn) (pre_dn.mu (pre_dn.to (kp_fname pre_dn named) (kp_has pre_dn [42] _)) _)) _))) _
theorem on_block {L : Lr} (hL : KpL Dn L) : OnF (block L) := fun r => on_put (((on_must _ r).to (kp_list pre_dn hL false _)).to (kp_must pre_dn _ _)) _
theorem on_bin {L : Lr} (hL : KpL Dn L) (hO : OnL L) : ∀ row, OnF (bin L row)
  | [], r => hO.u r
  | row :: rest, r => (on_bin hL hO rest r).to (kp_binLoop pre_dn row (kp_bin pre_dn hL rest) _ _ _)
theorem on_cond {L : Lr} (hL : KpL Dn L) (hO : OnL L) : OnF (cond L) := fun r => by
  have h0 := on_bin hL hO rrows r
  unfold cond
  simp only
  split
  · exact h0
  · split
    · rename_i h; exact h0.to (pre_dn.hs (pre_dn.refl _) h)
    · rename_i h
      have h1 := h0.to (pre_dn.mu (pre_dn.to hL.e (pre_dn.hs (pre_dn.refl _) h)) [58])
      split
      · exact h1
      · exact on_put (h1.to (hL.e _)) _
theorem on_assign {L : Lr} (hL : KpL Dn L) (hO : OnL L) : OnF (assign L) := fun r => by
  unfold assign
  simp only
  split
  · rename_i h; exact on_put ((has_on h).to (hL.e _)) _
  · rename_i r1 h
    have h0 := (pre_dn.hs (pre_dn.refl _) h).on (on_cond hL hO r1)
    generalize cond L _ = k at *
    obtain ⟨k1, k2⟩ := k
    simp only at h0 ⊢
    cases k2.bad
    · simp only [Bool.false_eq_true, if_false]
      generalize isTarget _ = tt
      cases tt
      · exact h0
      · simp only [if_true]
        split
        · rename_i h'; exact h0.to (pre_dn.hs (pre_dn.refl _) h')
        · rename_i h'; exact on_put (h0.to (pre_dn.to hL.e (pre_dn.hs (pre_dn.refl _) h'))) _
    · exact h0
theorem on_unary {L : Lr} (hL : KpL Dn L) (hO : OnL L) : OnF (unary L) := fun r => by
  unfold unary
  cases e : (isS [33] r || isS [45] r || isS [116, 121, 112, 101, 111, 102] r)
  · exact hO.p r
  · have h : On r (move r) := by
      cases e1 : isS [33] r
      · cases e2 : isS [45] r
        · rw [e1, e2] at e; exact isS_on e
        · exact isS_on e2
      · exact isS_on e1
    exact on_put (h.to (hL.u _)) _
theorem on_first {L : Lr} (hL : KpL Dn L) : OnF (first L) := fun r => by
  unfold first
  simp only
  split
  · rename_i h; exact on_put (on_move (by omega) (by omega)) _
  split
  · rename_i h; exact on_put (on_move (by omega) (by omega)) _
  split
  · rename_i h; exact on_put (on_move (by omega) (by omega)) _
  split
  · rename_i h; exact on_put (on_move (by omega) (by omega)) _
  split
  · exact on_func hL false r
  split
  · rename_i h; exact ((has_on h).to (hL.e _)).to (kp_must pre_dn _ _)
  rename_i h1
  have g1 := pre_dn.hs (pre_dn.refl _) h1
  split
  · rename_i h; exact on_put ((g1.on (has_on h)).to (kp_commas pre_dn hL _ _)) _
  rename_i h2
  have g2 := pre_dn.hs g1 h2
  split
  · rename_i h; exact (g2.on (has_on h)).to (kp_object pre_dn hL _ _)
  · rename_i h; exact on_spoil (pre_dn.hs g2 h)
theorem on_post {L : Lr} (hL : KpL Dn L) : OnF (post L) := fun r => (on_first hL r).to (kp_postLoop pre_dn hL _ _ _)
theorem on_one {L : Lr} (hL : KpL Dn L) (hO : OnL L) : OnF (one L) := fun r => by
  unfold one
  simp only
  split
  · exact on_block hL r
  split
  · exact on_put (on_func hL true r) _
  split
  · rename_i h
    have g := (has_on h).to (pre_dn.to (kp_inner pre_dn hL) (pre_dn.mu (pre_dn.to hL.e (kp_must pre_dn [40] _)) [41]))
    split
    · rename_i h'; exact on_put (g.to (pre_dn.to (kp_inner pre_dn hL) (pre_dn.hs (pre_dn.refl _) h'))) _
    · rename_i h'; exact on_put (g.to (pre_dn.hs (pre_dn.refl _) h')) _
  rename_i h1
  have g1 := pre_dn.hs (pre_dn.refl _) h1
  split
  · rename_i h; exact on_put ((g1.on (has_on h)).to (pre_dn.to (kp_inner pre_dn hL) (pre_dn.mu (pre_dn.to hL.e (kp_must pre_dn [40] _)) [41]))) _
  rename_i h2
  have g2 := pre_dn.hs g1 h2
  split
  · rename_i h; exact on_put ((g2.on (has_on h)).to (kp_ende pre_dn _)) _
  rename_i h3
  have g3 := pre_dn.hs g2 h3
  split
  · rename_i h; exact on_put ((g3.on (has_on h)).to (kp_ende pre_dn _)) _
  rename_i h4
  have g4 := pre_dn.hs g3 h4
  split
  · rename_i h
    have g := g4.on (has_on h)
    split
    · exact on_put (g.to (pre_dn.en (hL.e _))) _
    · exact on_put (g.to (kp_ende pre_dn _)) _
  rename_i h5
  have g5 := pre_dn.hs g4 h5
  split
  · rename_i h
    have g := g5.on (has_on h)
    split
    · exact on_put (g.to (pre_dn.en (pre_dn.to hL.e (pre_dn.spoil _)))) _
    · exact on_put (g.to (pre_dn.en (hL.e _))) _
  rename_i h6
  have g6 := pre_dn.hs g5 h6
  split
  · rename_i h
    exact on_put ((g6.on (has_on h)).to (pre_dn.to (kp_block pre_dn hL) (pre_dn.mu (pre_dn.to (kp_rname pre_dn) (pre_dn.mu (pre_dn.mu (kp_block pre_dn hL _) _) _)) _))) _
  rename_i r7 h7
  have g7 := pre_dn.hs g6 h7
  cases e : (isS [108, 101, 116] r7 || isS [99, 111, 110, 115, 116] r7)
  · have g8 := g7.on ((hO.e r7).to (kp_ende pre_dn _))
    rw [if_neg (by simp)]
    split
    · exact g8
    · exact on_put g8 _
  · rw [if_pos rfl]
    have h : On r7 (move r7) := by
      cases e1 : isS [108, 101, 116] r7
      · rw [e1] at e; exact isS_on e
      · exact isS_on e1
    exact on_put ((g7.on h).to (pre_dn.en (pre_dn.to hL.e (pre_dn.mu (kp_rname pre_dn _) _)))) _
theorem on_deeper {f : Q Nat} (hf : OnF f) : OnF (deeper f) := fun r => by
  unfold deeper
  split
  · rename_i h; exact fun g => ⟨g, .inl h⟩
  · exact hf r
theorem on_rl : ∀ d, OnL (rl d)
  | 0 => ⟨fun r => on_spoil (pre_dn.refl r), fun r => on_spoil (pre_dn.refl r), fun r => on_spoil (pre_dn.refl r), fun r => on_spoil (pre_dn.refl r)⟩
  | d + 1 => ⟨on_deeper (on_assign (kp_rl pre_dn d) (on_rl d)), on_deeper (on_unary (kp_rl pre_dn d) (on_rl d)), on_deeper (on_post (kp_rl pre_dn d)), on_deeper (on_one (kp_rl pre_dn d) (on_rl d))⟩
end Go.Proofs.Ytkaacmghgobhmaa.Rp
end
section
namespace Go.Proofs.Ytkaacmghgobhmaa.Lx
set_option linter.unusedVariables false
theorem run_ends (l : List UInt8) : ∀ (f p : Nat), p ≤ l.length → l.length < p + f → 1 ≤ (run l f p).length ∧ (run l f p).length + p ≤ l.length + 1 ∧ ∀ T, (run l f p).getLast? = some T → T.k = 0 ∨ T.k = 6
  | 0, p, hp, hf => by omega
  | f + 1, p, hp, hf => by
    unfold run
    split
    · rename_i h
      refine ⟨by simp, by simp; omega, fun T hT => ?_⟩
      have : T = tok l p := by simpa using hT.symm
      rw [this]; exact h
    · rename_i h
      have h1 := tok_ok l p hp
      have h5 := h1.2.2.2.2.1 (fun e => h (.inl e)) (fun e => h (.inr e))
      have ih := run_ends l f (tok l p).e h1.2.2.1 (by omega)
      refine ⟨by simp, by rw [List.length_cons]; omega, fun T hT => ih.2.2 T ?_⟩
      rw [List.getLast?_cons] at hT
      cases hg : (run l f (tok l p).e).getLast? with
      | none => have := ih.1; rw [List.getLast?_eq_none_iff] at hg; rw [hg] at this; simp at this
      | some U => rw [hg] at hT; simpa using hT
end Go.Proofs.Ytkaacmghgobhmaa.Lx
end
section
namespace Go.Proofs.Ytkaacmghgobhmaa.Rd
open Go.RowKit
open L (tkA own_block own_below intOf info_of size_list wpList_append_run)
set_option linter.unusedVariables false
abbrev Grow : Rp.Rt → Rp.Rt → Prop := fun a b => a.nodes.length ≤ b.nodes.length
/-- Back along a step. -/
theorem gb {α : Type} {f : Rp.Q α} {s : Rp.Rt} {r : α} {s' : Rp.Rt} (g : Rp.Kp Grow f) (e : f s = (r, s')) (n : s'.nodes.length ≤ 1000000000) : s.nodes.length ≤ 1000000000 := by
  have := g s
  rw [e] at this
  exact Nat.le_trans this n
theorem Ru.back {α : Type} {f : Rp.Q α} {s : Rp.Rt} {r : α} {s' : Rp.Rt} (h : Ru f s r s') (g : Rp.Kp Grow f) : s.nodes.length ≤ 1000000000 := gb g h.eq h.small
theorem kp_up {R : Rp.Rt → Rp.Rt → Prop} {f : Rp.Rt → Rp.Rt} (h : ∀ r, R r (f r)) : Rp.Kp R (up f) := fun r => h r
/-- What a level is to be: its e, u, p, statement, by their contracts. -/
structure LvC (src : ByteArray) (F : Nat → Prop) (base B dep : Nat) (L : Rp.Lr) : Prop where
  e : ∀ {s s' : Rp.Rt} {r : Nat} {nv : Value} {w : World}, Ru L.e s r s' → RS src F base B dep s nv w → Calls Try.prog 60 #[.pointer (some ⟨B, 0, none⟩)] w (Tells src F base B dep nv w s' (.int .i64 (r : Int)))
  u : ∀ {s s' : Rp.Rt} {r : Nat} {nv : Value} {w : World}, Ru L.u s r s' → RS src F base B dep s nv w → Calls Try.prog 71 #[.pointer (some ⟨B, 0, none⟩)] w (Tells src F base B dep nv w s' (.int .i64 (r : Int)))
  p : ∀ {s s' : Rp.Rt} {r : Nat} {nv : Value} {w : World}, s.bad = false → Ru L.p s r s' → RS src F base B dep s nv w → Calls Try.prog 72 #[.pointer (some ⟨B, 0, none⟩)] w (Tells src F base B dep nv w s' (.int .i64 (r : Int)))
  s : ∀ {s s' : Rp.Rt} {r : Nat} {nv : Value} {w : World}, Ru L.s s r s' → RS src F base B dep s nv w → Calls Try.prog 41 #[.pointer (some ⟨B, 0, none⟩)] w (Tells src F base B dep nv w s' (.int .i64 (r : Int)))
/-- What a level keeps. -/
structure LvP (L : Rp.Lr) : Prop where
  gr : Rp.KpL Grow L
  dn : Rp.KpL Rp.Dn L
  on : Rp.OnL L
  ix : Rp.IxL L
  bd : Rp.KpL (fun a b => a.bad = true → b.bad = true) L
theorem lvP (d : Nat) : LvP (Rp.rl d) := ⟨Rp.kp_rl Rp.pre_len d, Rp.kp_rl Rp.pre_dn d, Rp.on_rl d, Rp.ix_rl d, Rp.kp_rl Rp.pre_bad d⟩
section
variable {src : ByteArray} {F : Nat → Prop} {base B dep : Nat} {s s' : Rp.Rt} {nv : Value} {w : World}
theorem RS.gd (h : RS src F base B dep s nv w) : Rp.Gd s := by
  obtain ⟨E, x, ⟨p, hp, e, _⟩, _⟩ := h.rd
  have := Lx.run_ends src.data.toList (src.data.toList.length + 1) p (by rw [size_list]; exact hp) (by omega)
  exact ⟨by rw [e]; exact this.1, fun T hT => this.2.2 T (by rw [← e]; exact hT)⟩
theorem RS.toks (h : RS src F base B dep s nv w) : s.toks.length ≤ 4097 := by
  obtain ⟨E, x, ⟨p, hp, e, _⟩, _⟩ := h.rd
  have := (Lx.run_ends src.data.toList (src.data.toList.length + 1) p (by rw [size_list]; exact hp) (by omega)).2.1
  rw [size_list] at this
  have := h.sm
  rw [e]; rw [size_list]; omega
theorem c_in (h : RS src F base B dep s nv w) (hb : s.bad = false) (hd : dep < 40) :
    Calls Try.prog 49 #[.pointer (some ⟨B, 0, none⟩)] w fun e w' => e = .returned (.bool true) ∧ RS src F base B (dep + 1) s nv w' ∧ Chg B nv nv w w' := by
  obtain ⟨E, x, hT, hx, hx0, hc, -⟩ := h.cells
  have hx0 := hx0 hb
  subst hx0
  rw [hb] at hc
  refine (in_any hc (by omega)).mono ?_
  rintro e w' ⟨rfl, hC, hh⟩
  rw [Bool.false_or, decide_eq_false (by omega)] at hh ⊢
  exact ⟨rfl, h.turn hC rfl (dep' := dep + 1) (by omega) hT (Nat.zero_le 1) (fun _ => rfl) (by rw [hb]; exact hh), hC.chg nv⟩
theorem c_inFull (h : RS src F base B dep s nv w) (hb : s.bad = false) (hd : dep = 40) :
    Calls Try.prog 49 #[.pointer (some ⟨B, 0, none⟩)] w fun e w' => e = .returned (.bool false) ∧ RS src F base B dep (Rp.spoil s) nv w' ∧ Chg B nv nv w w' := by
  obtain ⟨E, x, hT, hx, hx0, hc, -⟩ := h.cells
  have hx0 := hx0 hb
  subst hx0
  refine (in_any hc (by omega)).mono ?_
  rintro e w' ⟨rfl, hC, hh⟩
  rw [decide_eq_true (by omega), Bool.or_true] at hh ⊢
  exact ⟨rfl, h.turn (st' := Rp.spoil s) hC rfl h.low (x := 1) (show TokAt src (Rp.spoil s) E from hT) (Nat.le_refl 1) (fun e => nomatch e) hh, hC.chg nv⟩
theorem c_out (h : RS src F base B (dep + 1) s nv w) :
    Calls Try.prog 51 #[.pointer (some ⟨B, 0, none⟩)] w fun e w' => e = .returned (.tuple #[]) ∧ RS src F base B dep s nv w' ∧ Chg B nv nv w w' := by
  obtain ⟨E, x, hT, hx, hx0, hc, -⟩ := h.cells
  have hl := h.low
  rw [show dep + 1 + x = dep + x + 1 by omega] at hc
  refine (out_any hc (by omega)).mono ?_
  rintro e w' ⟨rfl, hC, hh⟩
  exact ⟨rfl, h.turn hC rfl (by omega) hT hx hx0 hh, hC.chg nv⟩
/-- In, and out again, where it is bad or becomes so. -/
theorem inOut (h : RS src F base B dep s nv w) (hb : s.bad = true ∨ dep = 40) :
    Calls Try.prog 49 #[.pointer (some ⟨B, 0, none⟩)] w fun e w1 => e = .returned (.bool false) ∧ Calls Try.prog 51 #[.pointer (some ⟨B, 0, none⟩)] w1 fun e w' => e = .returned (.tuple #[]) ∧ RS src F base B dep (Rp.spoil s) nv w' ∧ Chg B nv nv w w' := by
  obtain ⟨E, x, hT, hx, hx0, hc, -⟩ := h.cells
  have hl := h.low
  refine (in_any hc (by omega)).mono ?_
  rintro e w1 ⟨rfl, hC, hh⟩
  have hbd : (s.bad || decide (40 < dep + x + 1)) = true := by
    rcases hb with hb | hb
    · rw [hb]; rfl
    · rw [decide_eq_true (by omega)]; simp
  rw [hbd] at hh ⊢
  refine ⟨rfl, (out_any hh (by omega)).mono ?_⟩
  rintro e w' ⟨rfl, hC2, hh2⟩
  have cc : ChgB B w w' := hC.trans hC2
  exact ⟨rfl, h.turn (st' := Rp.spoil s) cc rfl h.low (x := x) (show TokAt src (Rp.spoil s) E from hT) hx (fun e => nomatch e) hh2, cc.chg nv⟩
/-- A call tells kids and leaves the reader in a state. -/
def TellsK (src : ByteArray) (F : Nat → Prop) (base B dep : Nat) (nv : Value) (w : World) (s' : Rp.Rt) (K : List Nat) : Ending → World → Prop := fun e w' => ∃ ad cap, e = .returned (.slice ad K.length cap) ∧ ∃ nv', RS src F base B dep s' nv' w' ∧ Chg B nv nv' w w' ∧ KV F B nv' w' (.slice ad K.length cap) K
def fl (s : Rp.Rt) : Nat := if s.bad = true then 0 else 1
/-- Where the loop of statements stands. -/
structure StL (src : ByteArray) (F : Nat → Prop) (base B dep : Nat) (L : Rp.Lr) (last : Bool) (nv : Value) (w W : World) (f : Nat) (a : Option Addr) (cap : Nat) (K1 : List Nat) (s1 : Rp.Rt) (K : List Nat) (s' : Rp.Rt) : Prop where
  ko : ∃ nv1, KO src F base B dep s1 nv1 w W 3 (.slice a K1.length cap) K1.length (kc K1) ∧ Chg B nv nv1 w W
  run : Rp.listLoop L last f K1 s1 = (K, s') ∧ s1.toks.length + fl s1 ≤ f
  cnt : K1.length + f ≤ 100001
set_option maxRecDepth 100000 in
set_option maxHeartbeats 4000000 in
theorem c_list {L : Rp.Lr} {last : Bool} {K : List Nat} (hL : ∀ F, LvC src F base B dep L) (hP : LvP L) (E : Ru (Rp.list L last) s K s') (h : RS src F base B dep s nv w) : Calls Try.prog 22 #[.pointer (some ⟨B, 0, none⟩), .bool last] w (TellsK src F base B dep nv w s' K) := by
  have HSTART : Hid (StL src F base B dep L last nv w w (s.toks.length + 1) none 0 [] s K s') := (show StL _ _ _ _ _ _ _ _ _ _ _ _ _ _ _ _ _ from ⟨⟨nv, KO.nil h (Nat.le_refl _), Chg.refl _ _ _⟩, ⟨E.eq, by unfold fl; split <;> omega⟩, by have := h.toks; simp; omega⟩)
  have H : Hid (_) := h
  have HSm : Hid (s'.nodes.length ≤ 1000000000) := E.small
  clear E h
  go_enter Try.func22, Try.ntmps22
  go_wp2_with fail
  go_loopg [5] (s.toks.length + 1) (fun f v W => ∃ (K1 : List Nat) (a : Option Addr) (cap : Nat) (s1 : Rp.Rt), v = .slice a K1.length cap ∧ Hid (StL src F base B dep L last nv w W f a cap K1 s1 K s'))
  case atStart => exact ⟨[], none, 0, s, rfl, HSTART⟩
  case round =>
    obtain ⟨K1, a, cap, s1, rfl, HI⟩ := hrel
    clear HSTART
    obtain ⟨⟨nv1, hko, hchg⟩, ⟨hrun, hf⟩, hcnt⟩ := HI.out
    have hg := hko.rs.gd
    obtain ⟨E, x, -, -, -, -, c0, c1, c2, c3, c4, c5, c6, c7, c8, c9, cf, hlt⟩ := hko.rs.cells
    obtain ⟨f, rfl⟩ : ∃ f', gk = f' + 1 := ⟨gk - 1, by have := hg.one; omega⟩
    by_cases hfail : s1.bad = true
    · have hr : K1 = K ∧ s1 = s' := by
        unfold Rp.listLoop at hrun
        rw [hfail] at hrun
        simpa using hrun
      obtain ⟨rfl, rfl⟩ := hr
      have HE := hko.kv H.out
      rw [hfail] at c9
      have HEE : Hid (_) := HE
      have HC : Hid (_) := hchg
      clear hrun hf hcnt hko HE HI hchg
      go_wp2_with fail
      go_ret
      exact ⟨a, cap, rfl, nv1, HEE.out.1, HC.out, HEE.out.2⟩
    have hff : s1.bad = false := by simpa using hfail
    rw [hff] at c9
    have HIS : Hid (_) := is_any hko.rs [125]
    by_cases hst : ((last && decide ((Rp.nx s1).k = 0)) || (!last && Rp.isS [125] s1)) = true
    · have hr : K1 = K ∧ s1 = s' := by
        unfold Rp.listLoop at hrun
        rw [if_neg hfail, if_pos hst] at hrun
        simpa using hrun
      obtain ⟨rfl, rfl⟩ := hr
      have HE := hko.kv H.out
      have HEE : Hid (_) := HE
      have HC : Hid (_) := hchg
      clear hrun hf hcnt hko HE HI hchg
      cases last
      · have hi : Rp.isS [125] s1 = true := by simpa using hst
        rw [hi] at HIS
        clear hi hst
        go_wp2_with fail
        refine Calls.mono HIS.out ?_
        rintro e w2 ⟨rfl, rfl⟩
        go_wp2_with fail
        go_ret
        exact ⟨a, cap, rfl, nv1, HEE.out.1, HC.out, HEE.out.2⟩
      · have hi : (Rp.nx s1).k = 0 := by simpa using hst
        rw [hi] at c1
        clear hi hst HIS
        go_wp2_with fail
        go_ret
        exact ⟨a, cap, rfl, nv1, HEE.out.1, HC.out, HEE.out.2⟩
    have hst' : ((last && decide ((Rp.nx s1).k = 0)) || (!last && Rp.isS [125] s1)) = false := by simpa using hst
    have hrun2 : Rp.listLoop L last f (K1 ++ [(L.s s1).1]) (L.s s1).2 = (K, s') := by
      have h2 := hrun
      unfold Rp.listLoop at h2
      rw [if_neg hfail, if_neg hst] at h2
      exact h2
    rcases es : L.s s1 with ⟨r, s2⟩
    rw [es] at hrun2
    simp only at hrun2
    have hle := (hP.dn.s s1).1 hg
    have hgo := hP.on.s s1 hg
    rw [es] at hle hgo
    have n2 : s2.nodes.length ≤ 1000000000 := gb (Rp.kp_listLoop Rp.pre_len hP.gr last f _) hrun2 HSm.out
    have E2 : Ru L.s s1 r s2 := ⟨es, n2⟩
    have hdrop : s2.toks.length + fl s2 + 1 ≤ s1.toks.length + fl s1 := by
      have h1 : fl s1 = 1 := by unfold fl; rw [if_neg hfail]
      have h2 := hle.2
      rcases hgo.2 with h3 | h3
      · have : fl s2 = 0 := by unfold fl; rw [if_pos h3]
        simp only at h2; omega
      · have : fl s2 ≤ 1 := by unfold fl; split <;> omega
        simp only at h3; omega
    have HKO : Hid (_) := hko
    have HC : Hid (_) := hchg
    have HR2 : Hid (_) := hrun2
    have HD : Hid (s2.toks.length + fl s2 + 1 ≤ s1.toks.length + fl s1 ∧ s1.toks.length + fl s1 ≤ f + 1 ∧ K1.length + (f + 1) ≤ 100001) := (show _ ∧ _ ∧ _ from ⟨hdrop, hf, hcnt⟩)
    have HEND : Hid (∀ nv3 a4 cap4 w4, KO src F base B dep s2 nv3 w w4 3 (.slice a4 (K1.length + 1) cap4) (K1 ++ [r]).length (kc (K1 ++ [r])) → Chg B nv nv3 w w4 → StL src F base B dep L last nv w w4 f a4 cap4 (K1 ++ [r]) s2 K s') := fun nv3 a4 cap4 w4 h1 h2 => ⟨⟨nv3, by simpa using h1, h2⟩, ⟨hrun2, by omega⟩, by simp; omega⟩
    clear hrun hf hcnt hko HI hchg hfail hff hrun2 hle hgo n2 hdrop es hg
    cases last
    · have hi : Rp.isS [125] s1 = false := by simpa using hst'
      rw [hi] at HIS
      clear hi hst hst'
      go_wp2_with fail
      refine Calls.mono HIS.out ?_
      rintro e w2 ⟨rfl, rfl⟩
      go_wp2_with fail
      refine Calls.mono ((hL _).s E2 HKO.out.rs) ?_
      rintro e w3 ⟨rfl, nv3, hr3, hc3⟩
      obtain ⟨a4, cap4, w4, hap, hko4, hc4⟩ := (HKO.out.go hr3 hc3).kid r (by have := HD.out; omega)
      have HRn : Hid (_) := hap
      have HKO4 : Hid (_) := hko4
      have HC4 : Hid (_) := hc4 _ (HC.out.trans hc3)
      clear hr3 hc3 HKO HC hap hko4 hc4
      go_wp2_with (at_builtin; refine wpList_append_run _ _ 36 rfl rfl _ _ _ _ rfl rfl HRn.out ?_)
      go_roundg f
      case rel => exact ⟨K1 ++ [r], a4, cap4, s2, by simp, HEND.out _ _ _ _ HKO4.out HC4.out⟩
      case measure => omega
    · have hi : ¬ (Rp.nx s1).k = 0 := by simpa using hst'
      have e0 : (((Rp.nx s1).k : Int) == 0) = false := by rw [beq_eq_false_iff_ne]; omega
      have e0' : ¬ ((Rp.nx s1).k : Int) = 0 := by omega
      clear hi hst hst' HIS
      generalize Rp.nx s1 = T at *
      go_wp2_with fail
      refine Calls.mono ((hL _).s E2 HKO.out.rs) ?_
      rintro e w3 ⟨rfl, nv3, hr3, hc3⟩
      obtain ⟨a4, cap4, w4, hap, hko4, hc4⟩ := (HKO.out.go hr3 hc3).kid r (by have := HD.out; omega)
      have HRn : Hid (_) := hap
      have HKO4 : Hid (_) := hko4
      have HC4 : Hid (_) := hc4 _ (HC.out.trans hc3)
      clear hr3 hc3 HKO HC hap hko4 hc4
      go_wp2_with (at_builtin; refine wpList_append_run _ _ 36 rfl rfl _ _ _ _ rfl rfl HRn.out ?_)
      go_roundg f
      case rel => exact ⟨K1 ++ [r], a4, cap4, s2, by simp, HEND.out _ _ _ _ HKO4.out HC4.out⟩
      case measure => omega
end
end Go.Proofs.Ytkaacmghgobhmaa.Rd
end
section
namespace Go.Proofs.Ytkaacmghgobhmaa.Rd
open Go.RowKit
open L (tkA own_block own_below intOf info_of size_list wpList_append_run)
set_option linter.unusedVariables false
section
variable {src : ByteArray} {F : Nat → Prop} {base B dep : Nat} {s s' : Rp.Rt} {nv : Value} {w : World}
theorem block_ru {L : Rp.Lr} {r : Nat} (hP : LvP L) (E : Ru (Rp.block L) s r s') : ∃ s1 s2 s3 K, Ru (up (Rp.must [123])) s () s1 ∧ Ru (Rp.list L false) s1 K s2 ∧ Ru (up (Rp.must [125])) s2 () s3 ∧ Ru (Rp.put { k := 25, kids := K, a := (Rp.nx s).a }) s3 r s' := by
  have R4 : Ru (Rp.put { k := 25, kids := (Rp.list L false (Rp.must [123] s)).1, a := (Rp.nx s).a }) (Rp.must [125] (Rp.list L false (Rp.must [123] s)).2) r s' := ⟨E.eq, E.small⟩
  have n3 := R4.back (Rp.pre_len.put _)
  have R3 : Ru (up (Rp.must [125])) (Rp.list L false (Rp.must [123] s)).2 () _ := ⟨rfl, n3⟩
  have n2 := R3.back (kp_up (Rp.kp_must Rp.pre_len _))
  have R2 : Ru (Rp.list L false) (Rp.must [123] s) _ _ := ⟨rfl, n2⟩
  have n1 := R2.back (Rp.kp_list Rp.pre_len hP.gr false)
  exact ⟨_, _, _, _, ⟨rfl, n1⟩, R2, R3, R4⟩
set_option maxRecDepth 100000 in
set_option maxHeartbeats 4000000 in
theorem c_block {L : Rp.Lr} {r : Nat} (hL : ∀ F, LvC src F base B dep L) (hP : LvP L) (E : Ru (Rp.block L) s r s') (h : RS src F base B dep s nv w) : Calls Try.prog 56 #[.pointer (some ⟨B, 0, none⟩)] w (Tells src F base B dep nv w s' (.int .i64 (r : Int))) := by
  obtain ⟨s1, s2, s3, K, R1, R2, R3, R4⟩ := block_ru hP E
  obtain ⟨-, -, -, -, -, -, c0, c1, c2, c3, c4, c5, c6, c7, c8, c9, cf, hlt⟩ := h.cells
  have H : Hid (_) := h
  clear E h
  generalize Rp.nx s = T at *
  go_enter Try.func56, Try.ntmps56
  go_wp2_with fail
  refine Calls.mono (c_must R1 H.out) ?_
  rintro e w1 ⟨rfl, nv1, hr1, hc1⟩
  go_wp2_with fail
  refine Calls.mono (c_list hL hP R2 hr1) ?_
  rintro e w2 ⟨ad, cap, rfl, nv2, hr2, hc2, hk2⟩
  go_wp2_with fail
  refine Calls.mono (c_must R3 hr2) ?_
  rintro e w3 ⟨rfl, nv3, hr3, hc3⟩
  go_wp2_with fail
  refine Calls.mono (c_putV R4 hr3 (NV.nil _ _ _ _) (hk2.go hc3)) ?_
  rintro e w4 ⟨rfl, nv4, hr4, hc4⟩
  go_wp2_with fail
  go_ret
  exact ⟨rfl, nv4, hr4, ((hc1.trans hc2).trans hc3).trans hc4⟩
set_option maxRecDepth 100000 in
set_option maxHeartbeats 4000000 in
theorem c_inner {L : Rp.Lr} {r : Nat} (hL : ∀ F, LvC src F base B dep L) (hP : LvP L) (E : Ru (Rp.inner L) s r s') (h : RS src F base B dep s nv w) : Calls Try.prog 61 #[.pointer (some ⟨B, 0, none⟩)] w (Tells src F base B dep nv w s' (.int .i64 (r : Int))) := by
  have e := E.eq
  have hsm := E.small
  obtain ⟨-, -, -, -, -, -, c0, c1, c2, c3, c4, c5, c6, c7, c8, c9, cf, hlt⟩ := h.cells
  unfold Rp.inner at e
  simp only at e
  have HI1 : Hid (_) := is_any h [108, 101, 116]
  have HI2 : Hid (_) := is_any h [99, 111, 110, 115, 116]
  have HI3 : Hid (_) := is_any h [102, 117, 110, 99, 116, 105, 111, 110]
  have HS : Hid (_) := h.spoil
  have H : Hid (_) := h
  clear h E
  have bad : (Rp.isS [108, 101, 116] s || Rp.isS [99, 111, 110, 115, 116] s || Rp.isS [102, 117, 110, 99, 116, 105, 111, 110] s) = true → r = 0 ∧ s' = Rp.spoil s := fun hh => by
    rw [if_pos hh] at e
    have : (if (Rp.spoil s).bad = true then (0, Rp.spoil s) else L.s (Rp.spoil s)) = (0, Rp.spoil s) := if_pos rfl
    rw [this] at e
    cases e; exact ⟨rfl, rfl⟩
  cases h1 : Rp.isS [108, 101, 116] s
  · cases h2 : Rp.isS [99, 111, 110, 115, 116] s
    · cases h3 : Rp.isS [102, 117, 110, 99, 116, 105, 111, 110] s
      · rw [h1, h2, h3] at e
        rw [h1] at HI1
        rw [h2] at HI2
        rw [h3] at HI3
        simp only [Bool.or_self, Bool.false_eq_true, if_false] at e
        clear bad h1 h2 h3 HS
        cases hb : s.bad
        · rw [hb] at e c9
          have E2 : Ru L.s s r s' := ⟨by simpa using e, hsm⟩
          clear e hb
          go_enter Try.func61, Try.ntmps61
          go_wp2_with fail
          refine Calls.mono HI1.out ?_
          rintro e w1 ⟨rfl, rfl⟩
          go_wp2_with fail
          refine Calls.mono HI2.out ?_
          rintro e w2 ⟨rfl, rfl⟩
          go_wp2_with fail
          refine Calls.mono HI3.out ?_
          rintro e w3 ⟨rfl, rfl⟩
          go_wp2_with fail
          refine Calls.mono ((hL _).s E2 H.out) ?_
          rintro e w4 ⟨rfl, hl⟩
          go_wp2_with fail
          go_ret
          exact ⟨rfl, hl⟩
        · rw [hb] at e c9
          obtain ⟨rfl, rfl⟩ : r = 0 ∧ s' = s := by simp at e; exact ⟨e.1.symm, e.2.symm⟩
          clear e hb
          go_enter Try.func61, Try.ntmps61
          go_wp2_with fail
          refine Calls.mono HI1.out ?_
          rintro e w1 ⟨rfl, rfl⟩
          go_wp2_with fail
          refine Calls.mono HI2.out ?_
          rintro e w2 ⟨rfl, rfl⟩
          go_wp2_with fail
          refine Calls.mono HI3.out ?_
          rintro e w3 ⟨rfl, rfl⟩
          go_wp2_with fail
          go_ret
          exact ⟨rfl, Leaves.same H.out⟩
      · obtain ⟨rfl, rfl⟩ := bad (by rw [h3]; simp)
        rw [h1] at HI1
        rw [h2] at HI2
        rw [h3] at HI3
        clear e bad h1 h2 h3
        go_enter Try.func61, Try.ntmps61
        go_wp2_with fail
        refine Calls.mono HI1.out ?_
        rintro e w1 ⟨rfl, rfl⟩
        go_wp2_with fail
        refine Calls.mono HI2.out ?_
        rintro e w2 ⟨rfl, rfl⟩
        go_wp2_with fail
        refine Calls.mono HI3.out ?_
        rintro e w3 ⟨rfl, rfl⟩
        go_wp2_with fail
        go_ret
        exact ⟨rfl, nv, HS.out.1, HS.out.2⟩
    · obtain ⟨rfl, rfl⟩ := bad (by rw [h2]; simp)
      rw [h1] at HI1
      rw [h2] at HI2
      clear e bad h1 h2
      go_enter Try.func61, Try.ntmps61
      go_wp2_with fail
      refine Calls.mono HI1.out ?_
      rintro e w1 ⟨rfl, rfl⟩
      go_wp2_with fail
      refine Calls.mono HI2.out ?_
      rintro e w2 ⟨rfl, rfl⟩
      go_wp2_with fail
      go_ret
      exact ⟨rfl, nv, HS.out.1, HS.out.2⟩
  · obtain ⟨rfl, rfl⟩ := bad (by rw [h1]; simp)
    rw [h1] at HI1
    clear e bad h1
    go_enter Try.func61, Try.ntmps61
    go_wp2_with fail
    refine Calls.mono HI1.out ?_
    rintro e w1 ⟨rfl, rfl⟩
    go_wp2_with fail
    go_ret
    exact ⟨rfl, nv, HS.out.1, HS.out.2⟩
set_option maxRecDepth 100000 in
set_option maxHeartbeats 4000000 in
/-- e, one deeper. -/
theorem e_part {f : Rp.Q Nat} {r : Nat} (hd : dep < 40) (hf : ∀ {s s' : Rp.Rt} {r : Nat} {nv : Value} {w : World}, Ru f s r s' → RS src F base B (dep + 1) s nv w → Calls Try.prog 67 #[.pointer (some ⟨B, 0, none⟩)] w (Tells src F base B (dep + 1) nv w s' (.int .i64 (r : Int))))
    (E : Ru (Rp.deeper f) s r s') (h : RS src F base B dep s nv w) : Calls Try.prog 60 #[.pointer (some ⟨B, 0, none⟩)] w (Tells src F base B dep nv w s' (.int .i64 (r : Int))) := by
  have e := E.eq
  have hsm := E.small
  obtain ⟨-, -, -, -, -, -, c0, c1, c2, c3, c4, c5, c6, c7, c8, c9, cf, hlt⟩ := h.cells
  unfold Rp.deeper at e
  cases hb : s.bad
  · have HI : Hid (_) := c_in h hb hd
    rw [hb] at e c9
    have E2 : Ru f s r s' := ⟨by simpa using e, hsm⟩
    clear e hb E h
    go_enter Try.func60, Try.ntmps60
    go_wp2_with fail
    refine Calls.mono HI.out ?_
    rintro e w1 ⟨rfl, hr1, hc1⟩
    go_wp2_with fail
    refine Calls.mono (hf E2 hr1) ?_
    rintro e w2 ⟨rfl, nv2, hr2, hc2⟩
    go_wp2_with fail
    refine Calls.mono (c_out hr2) ?_
    rintro e w3 ⟨rfl, hr3, hc3⟩
    go_wp2_with fail
    go_ret
    exact ⟨rfl, nv2, hr3, (hc1.trans hc2).trans hc3⟩
  · have HS : Hid (_) := h.spoil
    have hsp := spoil_bad hb
    rw [hb] at e c9
    obtain ⟨rfl, rfl⟩ : r = 0 ∧ s' = s := by simp at e; exact ⟨e.1.symm, e.2.symm⟩
    rw [hsp] at HS
    clear e hb E h hsp
    go_enter Try.func60, Try.ntmps60
    go_wp2_with fail
    go_ret
    exact ⟨rfl, nv, HS.out.1, HS.out.2⟩
set_option maxRecDepth 100000 in
set_option maxHeartbeats 4000000 in
/-- e, too deep. -/
theorem e_full (hd : dep = 40) (h : RS src F base B dep s nv w) : Calls Try.prog 60 #[.pointer (some ⟨B, 0, none⟩)] w (Tells src F base B dep nv w (Rp.spoil s) (.int .i64 0)) := by
  obtain ⟨-, -, -, -, -, -, c0, c1, c2, c3, c4, c5, c6, c7, c8, c9, cf, hlt⟩ := h.cells
  have HS : Hid (_) := h.spoil
  cases hb : s.bad
  · have HI : Hid (_) := c_inFull h hb hd
    rw [hb] at c9
    clear hb h HS
    go_enter Try.func60, Try.ntmps60
    go_wp2_with fail
    refine Calls.mono HI.out ?_
    rintro e w1 ⟨rfl, hr1, hc1⟩
    obtain ⟨-, -, -, -, -, -, d0, d1, d2, d3, d4, d5, d6, d7, d8, d9, df, dlt⟩ := hr1.cells
    have HS2 : Hid (_) := hr1.spoil
    have HC1 : Hid (_) := hc1
    clear hr1 hc1
    go_wp2_with fail
    go_ret
    exact ⟨rfl, nv, HS2.out.1, HC1.out.trans HS2.out.2⟩
  · rw [hb] at c9
    clear hb h
    go_enter Try.func60, Try.ntmps60
    go_wp2_with fail
    go_ret
    exact ⟨rfl, nv, HS.out.1, HS.out.2⟩
set_option maxRecDepth 100000 in
set_option maxHeartbeats 4000000 in
/-- A statement, one deeper. -/
theorem s_part {f : Rp.Q Nat} {r : Nat} (hd : dep < 40) (hf : ∀ {s s' : Rp.Rt} {r : Nat} {nv : Value} {w : World}, Ru f s r s' → RS src F base B (dep + 1) s nv w → Calls Try.prog 50 #[.pointer (some ⟨B, 0, none⟩)] w (Tells src F base B (dep + 1) nv w s' (.int .i64 (r : Int))))
    (E : Ru (Rp.deeper f) s r s') (h : RS src F base B dep s nv w) : Calls Try.prog 41 #[.pointer (some ⟨B, 0, none⟩)] w (Tells src F base B dep nv w s' (.int .i64 (r : Int))) := by
  have e := E.eq
  have hsm := E.small
  unfold Rp.deeper at e
  cases hb : s.bad
  · have HI : Hid (_) := c_in h hb hd
    rw [hb] at e
    have E2 : Ru f s r s' := ⟨by simpa using e, hsm⟩
    clear e hb E h
    go_enter Try.func41, Try.ntmps41
    go_wp2_with fail
    refine Calls.mono HI.out ?_
    rintro e w1 ⟨rfl, hr1, hc1⟩
    go_wp2_with fail
    refine Calls.mono (hf E2 hr1) ?_
    rintro e w2 ⟨rfl, nv2, hr2, hc2⟩
    go_wp2_with fail
    refine Calls.mono (c_out hr2) ?_
    rintro e w3 ⟨rfl, hr3, hc3⟩
    go_wp2_with fail
    go_ret
    exact ⟨rfl, nv2, hr3, (hc1.trans hc2).trans hc3⟩
  · have HI : Hid (_) := inOut h (.inl hb)
    have hsp := spoil_bad hb
    rw [hb] at e
    obtain ⟨rfl, rfl⟩ : r = 0 ∧ s' = s := by simp at e; exact ⟨e.1.symm, e.2.symm⟩
    rw [hsp] at HI
    clear e hb E h hsp
    go_enter Try.func41, Try.ntmps41
    go_wp2_with fail
    refine Calls.mono HI.out ?_
    rintro e w1 ⟨rfl, hr1⟩
    go_wp2_with fail
    refine Calls.mono hr1 ?_
    rintro e w2 ⟨rfl, hr2, hc2⟩
    go_wp2_with fail
    go_ret
    exact ⟨rfl, nv, hr2, hc2⟩
set_option maxRecDepth 100000 in
set_option maxHeartbeats 4000000 in
theorem s_full (hd : dep = 40) (h : RS src F base B dep s nv w) : Calls Try.prog 41 #[.pointer (some ⟨B, 0, none⟩)] w (Tells src F base B dep nv w (Rp.spoil s) (.int .i64 0)) := by
  have HI : Hid (_) := inOut h (.inr hd)
  clear h
  go_enter Try.func41, Try.ntmps41
  go_wp2_with fail
  refine Calls.mono HI.out ?_
  rintro e w1 ⟨rfl, hr1⟩
  go_wp2_with fail
  refine Calls.mono hr1 ?_
  rintro e w2 ⟨rfl, hr2, hc2⟩
  go_wp2_with fail
  go_ret
  exact ⟨rfl, nv, hr2, hc2⟩
end
end Go.Proofs.Ytkaacmghgobhmaa.Rd
end
