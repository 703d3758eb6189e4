/- Texts: RpP RpV RpD LxN QL. -/
import Derived.Test.YtpjmapoiinjakaaGreatDoorBn17
import Derived.Test.YtpjmapoiinjakaaGreatDoorBn02
import Derived.Test.YtpjmapoiinjakaaGreatDoorBn18
import Derived.Deep.LoopGhost
section
namespace Go.Proofs.YtpjmapoiinjakaaGreatDoor.Rp
open Lx Ps
set_option linter.unusedVariables false
structure Pre (R : Rt → Rt → Prop) : Prop where
  refl : ∀ r, R r r
  trans : ∀ {a b c}, R a b → R b c → R a c
  move : ∀ r, R r (move r)
  spoil : ∀ r, R r (spoil r)
  put : ∀ n r, R r (put n r).2
section
variable {R : Rt → Rt → Prop}
def Kp {α : Type} (R : Rt → Rt → Prop) (f : Q α) : Prop := ∀ r, R r (f r).2
structure KpL (R : Rt → Rt → Prop) (L : Lr) : Prop where
  e : Kp R L.e
  u : Kp R L.u
  p : Kp R L.p
  s : Kp R L.s
theorem Pre.to {α : Type} (P : Pre R) {f : Q α} (hf : Kp R f) {a b : Rt} (h : R a b) : R a (f b).2 := P.trans h (hf b)
theorem Pre.ps (P : Pre R) {a b : Rt} (h : R a b) : R a (Rp.spoil b) := P.trans h (P.spoil b)
theorem Pre.pm (P : Pre R) {a b : Rt} (h : R a b) : R a (Rp.move b) := P.trans h (P.move b)
theorem Pre.pp (P : Pre R) {a b : Rt} (h : R a b) (n : Nd) : R a (Rp.put n b).2 := P.trans h (P.put n b)
theorem kp_has (P : Pre R) (m : List UInt8) : Kp R (has m) := fun r => by
  unfold has
  split
  · exact P.refl _
  · exact P.move r
theorem Pre.hs (P : Pre R) {a b c : Rt} {m : List UInt8} {x : Bool} (h : R a b) (e : has m b = (x, c)) : R a c := by
  have := P.to (kp_has P m) h
  rw [e] at this
  exact this
theorem kp_must (P : Pre R) (m : List UInt8) (r : Rt) : R r (must m r) := by
  unfold must
  split
  · rename_i h; exact P.hs (P.refl _) h
  · rename_i h; exact P.ps (P.hs (P.refl _) h)
theorem Pre.mu (P : Pre R) {a b : Rt} (h : R a b) (m : List UInt8) : R a (must m b) := P.trans h (kp_must P m b)
theorem kp_rname (P : Pre R) : Kp R rname := fun r => by
  unfold rname
  split
  · exact P.spoil r
  · exact P.move r
theorem kp_ende (P : Pre R) (r : Rt) : R r (ende r) := by
  unfold ende
  split
  · rename_i h; exact P.hs (P.refl _) h
  · rename_i h
    have := P.hs (P.refl _) h
    split
    · exact this
    · split
      · exact P.ps this
      · exact this
theorem Pre.en (P : Pre R) {a b : Rt} (h : R a b) : R a (ende b) := P.trans h (kp_ende P b)
theorem kp_listLoop (P : Pre R) {L : Lr} (hL : KpL R L) (last : Bool) : ∀ (f : Nat) (l : List Nat), Kp R (listLoop L last f l)
  | 0, l, r => P.refl _
  | f + 1, l, r => by
    unfold listLoop
    split
    · exact P.refl _
    · split
      · exact P.refl _
      · exact P.trans (hL.s r) (kp_listLoop P hL last f _ _)
theorem kp_list (P : Pre R) {L : Lr} (hL : KpL R L) (last : Bool) : Kp R (list L last) := fun r => kp_listLoop P hL last _ _ r
theorem kp_body (P : Pre R) {L : Lr} (hL : KpL R L) : Kp R (body L) := fun r => P.mu (P.to (kp_list P hL false) (P.mu (P.refl r) _)) _
theorem kp_block (P : Pre R) {L : Lr} (hL : KpL R L) : Kp R (block L) := fun r => P.pp (P.to (kp_body P hL) (P.refl r)) _
theorem kp_inner (P : Pre R) {L : Lr} (hL : KpL R L) : Kp R (inner L) := fun r => by
  unfold inner
  simp only
  split
  · split
    · exact P.spoil r
    · exact P.to hL.s (P.spoil r)
  · split
    · exact P.refl r
    · exact hL.s r
theorem kp_namesLoop (P : Pre R) : ∀ (f : Nat) (l : List (List UInt8)), Kp R (namesLoop f l)
  | 0, l, r => P.refl _
  | f + 1, l, r => by
    unfold namesLoop
    split
    · rename_i h; exact P.hs (P.refl _) h
    · rename_i h; exact P.to (kp_namesLoop P f _) (P.to (kp_rname P) (P.hs (P.refl _) h))
/-- The names between a function's parens. -/
def pars : Q (List (List UInt8)) := fun r => if isS [41] r then ([], r) else let x := rname r; namesLoop x.2.toks.length [x.1] x.2
theorem kp_pars (P : Pre R) : Kp R pars := fun r => by
  unfold pars
  split
  · exact P.refl r
  · exact P.to (kp_namesLoop P _ _) (P.to (kp_rname P) (P.refl r))
/-- A function's own name. -/
def fname (named : Bool) : Q (List UInt8) := fun r => if named || decide ((nx r).k = 3) then rname r else ([], r)
theorem kp_fname (P : Pre R) (named : Bool) : Kp R (fname named) := fun r => by
  unfold fname
  split
  · exact kp_rname P r
  · exact P.refl r
theorem kp_func (P : Pre R) {L : Lr} (hL : KpL R L) (named : Bool) : Kp R (func L named) := fun r =>
  P.pp (P.to (kp_body P hL) (P.mu (P.to (kp_pars P) (P.mu (P.to (kp_fname P named) (P.to (kp_has P [42]) (P.mu (P.refl r) _))) _)) _)) _
theorem kp_commasLoop (P : Pre R) {L : Lr} (hL : KpL R L) : ∀ (f : Nat) (l : List Nat), Kp R (commasLoop L f l)
  | 0, l, r => P.refl _
  | f + 1, l, r => by
    unfold commasLoop
    split
    · rename_i h; exact P.hs (P.refl _) h
    · rename_i h; exact P.to (kp_commasLoop P hL f _) (P.to hL.e (P.hs (P.refl _) h))
theorem kp_commas (P : Pre R) {L : Lr} (hL : KpL R L) (m : List UInt8) : Kp R (commas L m) := fun r => by
  unfold commas
  split
  · rename_i h; exact P.hs (P.refl _) h
  · rename_i h; exact P.mu (P.to (kp_commasLoop P hL _ _) (P.to hL.e (P.hs (P.refl _) h))) _
theorem kp_binLoop (P : Pre R) (row : List (List UInt8)) {sub : Q Nat} (hs : Kp R sub) : ∀ (f k : Nat), Kp R (binLoop row sub f k)
  | 0, k, r => P.refl _
  | f + 1, k, r => by
    unfold binLoop
    split
    · exact P.to (kp_binLoop P row hs f _) (P.pp (P.to hs (P.move r)) _)
    · exact P.refl _
theorem kp_bin (P : Pre R) {L : Lr} (hL : KpL R L) : ∀ row, Kp R (bin L row)
  | [], r => hL.u r
  | row :: rest, r => P.to (kp_binLoop P row (kp_bin P hL rest) _ _) (kp_bin P hL rest r)
theorem kp_cond (P : Pre R) {L : Lr} (hL : KpL R L) : Kp R (cond L) := fun r => by
  have h0 := kp_bin P hL rrows r
  unfold cond
  simp only
  split
  · exact h0
  · split
    · rename_i h; exact P.hs h0 h
    · rename_i h
      have h1 := P.mu (P.to hL.e (P.hs h0 h)) [58]
      split
      · exact h1
      · exact P.pp (P.to hL.e h1) _
theorem kp_assign (P : Pre R) {L : Lr} (hL : KpL R L) : Kp R (assign L) := fun r => by
  unfold assign
  simp only
  split
  · rename_i h; exact P.pp (P.to hL.e (P.hs (P.refl _) h)) _
  · rename_i h
    have h0 := P.to (kp_cond P hL) (P.hs (P.refl _) h)
    generalize cond L _ = k at *
    obtain ⟨k1, k2⟩ := k
    simp only at h0 ⊢
    cases k2.bad
    · simp only [Bool.false_eq_true, if_false]
      generalize isTarget _ = tt
      cases tt
      · exact h0
      · simp only [if_true]
        split
        · rename_i h'; exact P.hs h0 h'
        · rename_i h'; exact P.pp (P.to hL.e (P.hs h0 h')) _
    · exact h0
theorem kp_unary (P : Pre R) {L : Lr} (hL : KpL R L) : Kp R (unary L) := fun r => by
  unfold unary
  generalize (isS [33] r || isS [45] r || isS [116, 121, 112, 101, 111, 102] r) = c
  cases c
  · exact hL.p r
  · exact P.pp (P.to hL.u (P.move r)) _
theorem kp_objLoop (P : Pre R) {L : Lr} (hL : KpL R L) : ∀ (f : Nat) (N : List (List UInt8)) (K : List Nat), Kp R (objLoop L f N K)
  | 0, N, K, r => P.refl _
  | f + 1, N, K, r => by
    unfold objLoop
    simp only
    split
    · split
      · split
        · exact P.refl _
        · split
          · rename_i h; exact P.hs (P.to hL.e (P.mu (P.move r) _)) h
          · rename_i h; exact P.to (kp_objLoop P hL f _ _) (P.hs (P.to hL.e (P.mu (P.move r) _)) h)
      · split
        · exact P.spoil r
        · split
          · rename_i h; exact P.hs (P.to hL.e (P.mu (P.pm (P.spoil r)) _)) h
          · rename_i h; exact P.to (kp_objLoop P hL f _ _) (P.hs (P.to hL.e (P.mu (P.pm (P.spoil r)) _)) h)
    · exact P.refl _
theorem kp_object (P : Pre R) {L : Lr} (hL : KpL R L) (a : Nat) : Kp R (object L a) := fun r => by
  have h0 := kp_objLoop P hL (r.toks.length + 1) [] [] r
  unfold object
  split
  · rename_i h; rw [h] at h0; exact h0
  · rename_i h; rw [h] at h0; exact P.pp (P.mu h0 _) _
theorem kp_first (P : Pre R) {L : Lr} (hL : KpL R L) : Kp R (first L) := fun r => by
  unfold first
  simp only
  split
  · exact P.pp (P.move r) _
  split
  · exact P.pp (P.move r) _
  split
  · exact P.pp (P.move r) _
  split
  · exact P.pp (P.move r) _
  split
  · exact kp_func P hL false r
  split
  · rename_i h; exact P.mu (P.to hL.e (P.hs (P.refl _) h)) _
  rename_i h1
  have g1 := P.hs (P.refl _) h1
  split
  · rename_i h; exact P.pp (P.to (kp_commas P hL _) (P.hs g1 h)) _
  rename_i h2
  have g2 := P.hs g1 h2
  split
  · rename_i h; exact P.to (kp_object P hL _) (P.hs g2 h)
  · rename_i h; exact P.ps (P.hs g2 h)
theorem kp_postLoop (P : Pre R) {L : Lr} (hL : KpL R L) : ∀ (f k : Nat), Kp R (postLoop L f k)
  | 0, k, r => P.refl _
  | f + 1, k, r => by
    unfold postLoop
    simp only
    split
    · exact P.refl _
    split
    · rename_i h
      have g := P.hs (P.refl _) h
      split
      · exact P.ps g
      · exact P.to (kp_postLoop P hL f _) (P.pp (P.pm g) _)
    rename_i h1
    have g1 := P.hs (P.refl _) h1
    split
    · rename_i h; exact P.to (kp_postLoop P hL f _) (P.pp (P.mu (P.to hL.e (P.hs g1 h)) _) _)
    rename_i h2
    have g2 := P.hs g1 h2
    split
    · rename_i h; exact P.to (kp_postLoop P hL f _) (P.pp (P.to (kp_commas P hL _) (P.hs g2 h)) _)
    · rename_i h; exact P.hs g2 h
theorem kp_post (P : Pre R) {L : Lr} (hL : KpL R L) : Kp R (post L) := fun r => P.to (kp_postLoop P hL _ _) (kp_first P hL r)
theorem kp_one (P : Pre R) {L : Lr} (hL : KpL R L) : Kp R (one L) := fun r => by
  unfold one
  simp only
  split
  · exact kp_block P hL r
  split
  · exact P.pp (kp_func P hL true r) _
  split
  · rename_i h
    have g := P.to (kp_inner P hL) (P.mu (P.to hL.e (P.mu (P.hs (P.refl _) h) [40])) [41])
    split
    · rename_i h'; exact P.pp (P.to (kp_inner P hL) (P.hs g h')) _
    · rename_i h'; exact P.pp (P.hs g h') _
  rename_i h1
  have g1 := P.hs (P.refl _) h1
  split
  · rename_i h; exact P.pp (P.to (kp_inner P hL) (P.mu (P.to hL.e (P.mu (P.hs g1 h) _)) _)) _
  rename_i h2
  have g2 := P.hs g1 h2
  split
  · rename_i h; exact P.pp (P.en (P.hs g2 h)) _
  rename_i h3
  have g3 := P.hs g2 h3
  split
  · rename_i h; exact P.pp (P.en (P.hs g3 h)) _
  rename_i h4
  have g4 := P.hs g3 h4
  split
  · rename_i h
    have g := P.hs g4 h
    split
    · exact P.pp (P.en (P.to hL.e g)) _
    · exact P.pp (P.en g) _
  rename_i h5
  have g5 := P.hs g4 h5
  split
  · rename_i h
    have g := P.hs g5 h
    split
    · exact P.pp (P.en (P.to hL.e (P.ps g))) _
    · exact P.pp (P.en (P.to hL.e g)) _
  rename_i h6
  have g6 := P.hs g5 h6
  split
  · rename_i h
    exact P.pp (P.to (kp_block P hL) (P.mu (P.to (kp_rname P) (P.mu (P.mu (P.to (kp_block P hL) (P.hs g6 h)) _) _)) _)) _
  rename_i h7
  have g7 := P.hs g6 h7
  split
  · exact P.pp (P.en (P.to hL.e (P.mu (P.to (kp_rname P) (P.pm g7)) _))) _
  · have g8 := P.en (P.to hL.e g7)
    split
    · exact g8
    · exact P.pp g8 _
theorem kp_deeper (P : Pre R) {f : Q Nat} (hf : Kp R f) : Kp R (deeper f) := fun r => by
  unfold deeper
  split
  · exact P.refl r
  · exact hf r
theorem kp_rl (P : Pre R) : ∀ d, KpL R (rl d)
  | 0 => ⟨P.spoil, P.spoil, P.spoil, P.spoil⟩
  | d + 1 => ⟨kp_deeper P (kp_assign P (kp_rl P d)), kp_deeper P (kp_unary P (kp_rl P d)), kp_deeper P (kp_post P (kp_rl P d)), kp_deeper P (kp_one P (kp_rl P d))⟩
end
/-- Nodes only grow. -/
theorem pre_len : Pre (fun a b => a.nodes.length ≤ b.nodes.length) where
  refl := fun _ => Nat.le_refl _
  trans := Nat.le_trans
  move := fun r => by unfold move; split <;> exact Nat.le_refl _
  spoil := fun r => Nat.le_refl _
  put := fun n r => by show _ ≤ (r.nodes ++ [n]).length; simp
end Go.Proofs.YtpjmapoiinjakaaGreatDoor.Rp
end
section
namespace Go.Proofs.YtpjmapoiinjakaaGreatDoor.Rp
open Lx Ps
set_option linter.unusedVariables false
theorem has_keep {m : List UInt8} {r r' : Rt} {b : Bool} (h : has m r = (b, r')) : r'.nodes = r.nodes ∧ r'.bad = r.bad := by
  unfold has at h
  split at h
  · cases h; exact ⟨rfl, rfl⟩
  · cases h; unfold move; split <;> exact ⟨rfl, rfl⟩
theorem has_no {m : List UInt8} {r r' : Rt} (h : has m r = (false, r')) : r' = r := by
  unfold has at h
  split at h
  · cases h; rfl
  · cases h
/-- What a function tells is a node, where it is not bad. -/
def Ix (f : Q Nat) : Prop := ∀ r, (f r).2.bad = false → (f r).1 < (f r).2.nodes.length
structure IxL (L : Lr) : Prop where
  e : Ix L.e
  u : Ix L.u
  p : Ix L.p
  s : Ix L.s
theorem put_ix (n : Nd) : Ix (put n) := fun r _ => by show r.nodes.length < (r.nodes ++ [n]).length; simp
theorem put_ix' (n : Nd) (r : Rt) : (put n r).1 < (put n r).2.nodes.length := by show r.nodes.length < (r.nodes ++ [n]).length; simp
theorem bad_put (n : Nd) (r : Rt) : (put n r).2.bad = r.bad := rfl
/-- What is bad stays bad. -/
theorem pre_bad : Pre (fun a b => a.bad = true → b.bad = true) where
  refl := fun _ h => h
  trans := fun h k e => k (h e)
  move := fun r h => by unfold move; split <;> exact h
  spoil := fun r h => rfl
  put := fun n r h => h
theorem good_of {α : Type} {f : Q α} (hf : Kp (fun a b => a.bad = true → b.bad = true) f) {r : Rt} (h : (f r).2.bad = false) : r.bad = false := by
  cases e : r.bad
  · rfl
  · have := hf r e; rw [h] at this; cases this
theorem ix_binLoop (row : List (List UInt8)) {sub : Q Nat} (hs : Ix sub) (hg : Kp (fun a b => a.nodes.length ≤ b.nodes.length) sub) : ∀ (f k : Nat) (r : Rt), k < r.nodes.length → (binLoop row sub f k r).1 < (binLoop row sub f k r).2.nodes.length
  | 0, k, r, h => h
  | f + 1, k, r, h => by
    unfold binLoop
    split
    · exact ix_binLoop row hs hg f _ _ (put_ix' _ _)
    · exact h
theorem ix_bin {L : Lr} (hL : IxL L) (hg : KpL (fun a b => a.nodes.length ≤ b.nodes.length) L) (hb : KpL (fun a b => a.bad = true → b.bad = true) L) : ∀ row, Ix (bin L row)
  | [], r, h => hL.u r h
  | row :: rest, r, h => by
    have e : bin L (row :: rest) r = binLoop row (bin L rest) (bin L rest r).2.toks.length (bin L rest r).1 (bin L rest r).2 := rfl
    rw [e] at h ⊢
    have hb0 := good_of (kp_binLoop pre_bad row (kp_bin pre_bad hb rest) _ _) h
    exact ix_binLoop row (ix_bin hL hg hb rest) (kp_bin pre_len hg rest) _ _ _ (ix_bin hL hg hb rest r hb0)
theorem ix_cond {L : Lr} (hL : IxL L) (hg : KpL (fun a b => a.nodes.length ≤ b.nodes.length) L) (hb : KpL (fun a b => a.bad = true → b.bad = true) L) : Ix (cond L) := fun r h => by
  have h0 := ix_bin hL hg hb rrows r
  unfold cond at h ⊢
  simp only at h ⊢
  generalize bin L rrows r = k at *
  obtain ⟨k1, k2⟩ := k
  simp only at h0 h ⊢
  by_cases hk : k2.bad = true
  · rw [if_pos hk] at h ⊢; exact h0 h
  rw [if_neg hk] at h ⊢
  have hk' : k2.bad = false := by simpa using hk
  cases e : has [63] k2 with
  | mk b r1 =>
  rw [e] at h
  cases b
  · simp only; rw [has_no e]; exact h0 hk'
  · simp only at h ⊢
    generalize must [58] (L.e r1).2 = r2 at *
    by_cases h2 : r2.bad = true
    · rw [if_pos h2] at h; rw [h2] at h; cases h
    · rw [if_neg h2] at h ⊢
      exact put_ix' _ _
theorem ix_assign {L : Lr} (hL : IxL L) (hg : KpL (fun a b => a.nodes.length ≤ b.nodes.length) L) (hb : KpL (fun a b => a.bad = true → b.bad = true) L) : Ix (assign L) := fun r h => by
  unfold assign at h ⊢
  simp only at h ⊢
  cases e : has [121, 105, 101, 108, 100] r with
  | mk b r1 =>
  rw [e] at h
  cases b
  · simp only at h ⊢
    have h0 := ix_cond hL hg hb r1
    generalize cond L r1 = k at *
    obtain ⟨k1, k2⟩ := k
    simp only at h0 h ⊢
    by_cases hk : k2.bad = true
    · rw [if_pos hk] at h; rw [hk] at h; cases h
    rw [if_neg hk] at h ⊢
    have hk' : k2.bad = false := by simpa using hk
    by_cases ht : isTarget (k2.nodes.getD k1 {}).k = true
    · rw [if_pos ht] at h ⊢
      cases e2 : has [61] k2 with
      | mk b r3 =>
      rw [e2] at h
      cases b
      · simp only; rw [has_no e2]; exact h0 hk'
      · exact put_ix' _ _
    · rw [if_neg ht] at h ⊢
      exact h0 hk'
  · exact put_ix' _ _
theorem ix_unary {L : Lr} (hL : IxL L) : Ix (unary L) := fun r h => by
  unfold unary at h ⊢
  generalize (isS [33] r || isS [45] r || isS [116, 121, 112, 101, 111, 102] r) = c at *
  cases c
  · exact hL.p r h
  · exact put_ix' _ _
theorem objLoop_none {L : Lr} : ∀ (f : Nat) (N : List (List UInt8)) (K : List Nat) (r r' : Rt), objLoop L f N K r = (none, r') → r'.bad = true
  | 0, N, K, r, r', h => by unfold objLoop at h; cases h
  | f + 1, N, K, r, r', h => by
    unfold objLoop at h
    simp only at h
    split at h
    · generalize (if (nx r).k = 3 ∨ (nx r).k = 4 ∨ (nx r).k = 2 then r else spoil r) = r1 at h
      by_cases hb : r1.bad = true
      · rw [if_pos hb] at h; cases h; exact hb
      · rw [if_neg hb] at h
        generalize has [44] (L.e (must [58] (move r1))).2 = p at h
        obtain ⟨b, r2⟩ := p
        cases b
        · cases h
        · exact objLoop_none f _ _ _ _ h
    · cases h
theorem ix_object {L : Lr} (a : Nat) : Ix (object L a) := fun r h => by
  unfold object at h ⊢
  cases e : objLoop L (r.toks.length + 1) [] [] r with
  | mk o r1 =>
  rw [e] at h
  cases o with
  | none => simp only at h; rw [objLoop_none _ _ _ _ _ e] at h; cases h
  | some p => exact put_ix' _ _
theorem ix_first {L : Lr} (hL : IxL L) (hb : KpL (fun a b => a.bad = true → b.bad = true) L) (hg : KpL (fun a b => a.nodes.length ≤ b.nodes.length) L) : Ix (first L) := fun r => by
  unfold first
  simp only
  split
  · exact fun _ => put_ix' _ _
  split
  · exact fun _ => put_ix' _ _
  split
  · exact fun _ => put_ix' _ _
  split
  · exact fun _ => put_ix' _ _
  split
  · exact fun _ => put_ix' _ _
  split
  · rename_i r1 h1
    intro h
    have hb1 : (L.e r1).2.bad = false := by
      cases e : (L.e r1).2.bad
      · rfl
      · have := kp_must pre_bad [41] (L.e r1).2 e; rw [h] at this; cases this
    exact Nat.lt_of_lt_of_le (hL.e r1 hb1) (kp_must pre_len [41] (L.e r1).2)
  split
  · exact fun _ => put_ix' _ _
  split
  · exact ix_object _ _
  · intro h; cases h
theorem ix_postLoop {L : Lr} : ∀ (f k : Nat) (r : Rt), (r.bad = false → k < r.nodes.length) → (postLoop L f k r).2.bad = false → (postLoop L f k r).1 < (postLoop L f k r).2.nodes.length
  | 0, k, r, h => h
  | f + 1, k, r, h => by
    unfold postLoop
    simp only
    split
    · exact h
    rename_i hb
    have hb' : r.bad = false := by simpa using hb
    split
    · split
      · intro h; cases h
      · exact ix_postLoop f _ _ (fun _ => put_ix' _ _)
    rename_i h1
    split
    · exact ix_postLoop f _ _ (fun _ => put_ix' _ _)
    rename_i h2
    split
    · exact ix_postLoop f _ _ (fun _ => put_ix' _ _)
    · rename_i h3
      rw [has_no h1] at h2
      rw [has_no h2] at h3
      rw [has_no h3]
      exact h
theorem ix_post {L : Lr} (hL : IxL L) (hb : KpL (fun a b => a.bad = true → b.bad = true) L) (hg : KpL (fun a b => a.nodes.length ≤ b.nodes.length) L) : Ix (post L) := fun r h => by
  have e : post L r = postLoop L (first L r).2.toks.length (first L r).1 (first L r).2 := rfl
  rw [e] at h ⊢
  exact ix_postLoop _ _ _ (ix_first hL hb hg r) h
theorem ix_one {L : Lr} : Ix (one L) := fun r => by
  unfold one
  simp only
  split
  · exact fun _ => put_ix' _ _
  split
  · exact fun _ => put_ix' _ _
  split
  · split
    · exact fun _ => put_ix' _ _
    · exact fun _ => put_ix' _ _
  split
  · exact fun _ => put_ix' _ _
  split
  · exact fun _ => put_ix' _ _
  split
  · exact fun _ => put_ix' _ _
  split
  · split
    · exact fun _ => put_ix' _ _
    · exact fun _ => put_ix' _ _
  split
  · split
    · exact fun _ => put_ix' _ _
    · exact fun _ => put_ix' _ _
  split
  · exact fun _ => put_ix' _ _
  split
  · exact fun _ => put_ix' _ _
  · rename_i r1 _ _
    intro h
    by_cases hb : (ende (L.e r1).2).bad = true
    · rw [if_pos hb] at h; rw [hb] at h; cases h
    · rw [if_neg hb]; exact put_ix' _ _
theorem ix_deeper {f : Q Nat} (hf : Ix f) : Ix (deeper f) := fun r h => by
  unfold deeper at h ⊢
  by_cases hb : r.bad = true
  · rw [if_pos hb] at h; rw [hb] at h; cases h
  · rw [if_neg hb] at h ⊢; exact hf r h
theorem ix_rl : ∀ d, IxL (rl d)
  | 0 => ⟨fun r h => (nomatch h), fun r h => (nomatch h), fun r h => (nomatch h), fun r h => (nomatch h)⟩
  | d + 1 => ⟨ix_deeper (ix_assign (ix_rl d) (kp_rl pre_len d) (kp_rl pre_bad d)), ix_deeper (ix_unary (ix_rl d)), ix_deeper (ix_post (ix_rl d) (kp_rl pre_bad d) (kp_rl pre_len d)), ix_deeper ix_one⟩
end Go.Proofs.YtpjmapoiinjakaaGreatDoor.Rp
end
section
namespace Go.Proofs.YtpjmapoiinjakaaGreatDoor.Rp
open Lx Ps
set_option linter.unusedVariables false
/-- The last token ends. -/
structure Gd (r : Rt) : Prop where
  one : 1 ≤ r.toks.length
  last : ∀ T, r.toks.getLast? = some T → T.k = 0 ∨ T.k = 6
def Dn (a b : Rt) : Prop := (Gd a → Gd b ∧ b.toks.length ≤ a.toks.length) ∧ (a.bad = true → b.bad = true)
theorem move_gd {r : Rt} (g : Gd r) : Gd (move r) := by
  unfold move
  split
  · rename_i h
    obtain ⟨T, l, e⟩ : ∃ T l, r.toks = T :: l := by
      cases hs : r.toks with
      | nil => rw [hs] at h; simp at h
      | cons T l => exact ⟨T, l, rfl⟩
    have h1 : 1 ≤ l.length := by rw [e, List.length_cons] at h; omega
    refine ⟨by show 1 ≤ r.toks.tail.length; rw [e]; exact h1, fun T' hT => g.last T' ?_⟩
    rw [e, List.getLast?_cons]
    have hT' : l.getLast? = some T' := by have h2 : r.toks.tail.getLast? = some T' := hT; rw [e] at h2; exact h2
    rw [hT']; rfl
  · exact g
theorem move_len (r : Rt) : (move r).toks.length ≤ r.toks.length := by
  unfold move
  split
  · show r.toks.tail.length ≤ _; simp
  · exact Nat.le_refl _
theorem pre_dn : Pre Dn where
  refl := fun r => ⟨fun g => ⟨g, Nat.le_refl _⟩, id⟩
  trans := fun h k => ⟨fun g => ⟨(k.1 (h.1 g).1).1, Nat.le_trans (k.1 (h.1 g).1).2 (h.1 g).2⟩, fun b => k.2 (h.2 b)⟩
  move := fun r => ⟨fun g => ⟨move_gd g, move_len r⟩, fun h => by unfold move; split <;> exact h⟩
  spoil := fun r => ⟨fun g => ⟨⟨g.one, g.last⟩, Nat.le_refl _⟩, fun _ => rfl⟩
  put := fun n r => ⟨fun g => ⟨⟨g.one, g.last⟩, Nat.le_refl _⟩, fun h => h⟩
/-- On, or bad. -/
def On (a b : Rt) : Prop := Gd a → Gd b ∧ (b.bad = true ∨ b.toks.length < a.toks.length)
theorem On.to {a b c : Rt} (h : On a b) (k : Dn b c) : On a c := fun g => by
  obtain ⟨g1, h1⟩ := h g
  obtain ⟨g2, h2⟩ := k.1 g1
  refine ⟨g2, ?_⟩
  rcases h1 with h1 | h1
  · exact .inl (k.2 h1)
  · exact .inr (Nat.lt_of_le_of_lt h2 h1)
theorem Dn.on {a b c : Rt} (h : Dn a b) (k : On b c) : On a c := fun g => by
  obtain ⟨g1, h1⟩ := h.1 g
  obtain ⟨g2, h2⟩ := k g1
  refine ⟨g2, ?_⟩
  rcases h2 with h2 | h2
  · exact .inl h2
  · exact .inr (Nat.lt_of_lt_of_le h2 h1)
theorem on_move {r : Rt} (h0 : (nx r).k ≠ 0) (h6 : (nx r).k ≠ 6) : On r (move r) := fun g => by
  refine ⟨move_gd g, .inr ?_⟩
  have h1 : 1 < r.toks.length := by
    rcases Nat.lt_or_ge 1 r.toks.length with h | h
    · exact h
    · exfalso
      have hl := g.one
      obtain ⟨T, e⟩ : ∃ T, r.toks = [T] := List.length_eq_one_iff.1 (by omega)
      have hT := g.last T (by rw [e]; rfl)
      have hn : nx r = T := by unfold nx; rw [e]; rfl
      rw [hn] at h0 h6
      rcases hT with h | h <;> contradiction
  unfold move
  rw [if_pos h1]
  show r.toks.tail.length < _
  rw [List.length_tail]; omega
theorem isS_on {m : List UInt8} {r : Rt} (h : isS m r = true) : On r (move r) := by
  unfold isS at h
  simp only [Bool.and_eq_true, decide_eq_true_eq] at h
  exact on_move (by omega) (by omega)
theorem on_spoil {a b : Rt} (h : Dn a b) : On a (spoil b) := fun g => ⟨⟨(h.1 g).1.one, (h.1 g).1.last⟩, .inl rfl⟩
theorem has_on {m : List UInt8} {r r' : Rt} (h : has m r = (true, r')) : On r r' := by
  unfold has at h
  split at h
  · cases h
  · rename_i h1
    cases h
    cases e : isS m r
    · rw [e] at h1; simp at h1
    · exact isS_on e
theorem on_must (m : List UInt8) (r : Rt) : On r (must m r) := by
  unfold must
  split
  · rename_i h; exact has_on h
  · rename_i h; exact on_spoil (pre_dn.hs (pre_dn.refl _) h)
theorem on_put {a b : Rt} (h : On a b) (n : Nd) : On a (put n b).2 := h.to (pre_dn.put n b)
def OnF (f : Q Nat) : Prop := ∀ r, On r (f r).2
structure OnL (L : Lr) : Prop where
  e : OnF L.e
  u : OnF L.u
  p : OnF L.p
  s : OnF L.s
theorem on_func {L : Lr} (hL : KpL Dn L) (named : Bool) : OnF (func L named) := fun r =>
  on_put ((on_must _ r).to (pre_dn.to (kp_body pre_dn hL) (pre_dn.mu (pre_dn.to (kp_pars pre_dn) (pre_dn.mu (pre_dn.to (kp_fname pre_dn named) (kp_has pre_dn [42] _)) _)) _))) _
theorem on_block {L : Lr} (hL : KpL Dn L) : OnF (block L) := fun r => on_put (((on_must _ r).to (kp_list pre_dn hL false _)).to (kp_must pre_dn _ _)) _
theorem on_bin {L : Lr} (hL : KpL Dn L) (hO : OnL L) : ∀ row, OnF (bin L row)
  | [], r => hO.u r
  | row :: rest, r => (on_bin hL hO rest r).to (kp_binLoop pre_dn row (kp_bin pre_dn hL rest) _ _ _)
theorem on_cond {L : Lr} (hL : KpL Dn L) (hO : OnL L) : OnF (cond L) := fun r => by
  have h0 := on_bin hL hO rrows r
  unfold cond
  simp only
  split
  · exact h0
  · split
    · rename_i h; exact h0.to (pre_dn.hs (pre_dn.refl _) h)
    · rename_i h
      have h1 := h0.to (pre_dn.mu (pre_dn.to hL.e (pre_dn.hs (pre_dn.refl _) h)) [58])
      split
      · exact h1
      · exact on_put (h1.to (hL.e _)) _
theorem on_assign {L : Lr} (hL : KpL Dn L) (hO : OnL L) : OnF (assign L) := fun r => by
  unfold assign
  simp only
  split
  · rename_i h; exact on_put ((has_on h).to (hL.e _)) _
  · rename_i r1 h
    have h0 := (pre_dn.hs (pre_dn.refl _) h).on (on_cond hL hO r1)
    generalize cond L _ = k at *
    obtain ⟨k1, k2⟩ := k
    simp only at h0 ⊢
    cases k2.bad
    · simp only [Bool.false_eq_true, if_false]
      generalize isTarget _ = tt
      cases tt
      · exact h0
      · simp only [if_true]
        split
        · rename_i h'; exact h0.to (pre_dn.hs (pre_dn.refl _) h')
        · rename_i h'; exact on_put (h0.to (pre_dn.to hL.e (pre_dn.hs (pre_dn.refl _) h'))) _
    · exact h0
theorem on_unary {L : Lr} (hL : KpL Dn L) (hO : OnL L) : OnF (unary L) := fun r => by
  unfold unary
  cases e : (isS [33] r || isS [45] r || isS [116, 121, 112, 101, 111, 102] r)
  · exact hO.p r
  · have h : On r (move r) := by
      cases e1 : isS [33] r
      · cases e2 : isS [45] r
        · rw [e1, e2] at e; exact isS_on e
        · exact isS_on e2
      · exact isS_on e1
    exact on_put (h.to (hL.u _)) _
theorem on_first {L : Lr} (hL : KpL Dn L) : OnF (first L) := fun r => by
  unfold first
  simp only
  split
  · rename_i h; exact on_put (on_move (by omega) (by omega)) _
  split
  · rename_i h; exact on_put (on_move (by omega) (by omega)) _
  split
  · rename_i h; exact on_put (on_move (by omega) (by omega)) _
  split
  · rename_i h; exact on_put (on_move (by omega) (by omega)) _
  split
  · exact on_func hL false r
  split
  · rename_i h; exact ((has_on h).to (hL.e _)).to (kp_must pre_dn _ _)
  rename_i h1
  have g1 := pre_dn.hs (pre_dn.refl _) h1
  split
  · rename_i h; exact on_put ((g1.on (has_on h)).to (kp_commas pre_dn hL _ _)) _
  rename_i h2
  have g2 := pre_dn.hs g1 h2
  split
  · rename_i h; exact (g2.on (has_on h)).to (kp_object pre_dn hL _ _)
  · rename_i h; exact on_spoil (pre_dn.hs g2 h)
theorem on_post {L : Lr} (hL : KpL Dn L) : OnF (post L) := fun r => (on_first hL r).to (kp_postLoop pre_dn hL _ _ _)
theorem on_one {L : Lr} (hL : KpL Dn L) (hO : OnL L) : OnF (one L) := fun r => by
  unfold one
  simp only
  split
  · exact on_block hL r
  split
  · exact on_put (on_func hL true r) _
  split
  · rename_i h
    have g := (has_on h).to (pre_dn.to (kp_inner pre_dn hL) (pre_dn.mu (pre_dn.to hL.e (kp_must pre_dn [40] _)) [41]))
    split
    · rename_i h'; exact on_put (g.to (pre_dn.to (kp_inner pre_dn hL) (pre_dn.hs (pre_dn.refl _) h'))) _
    · rename_i h'; exact on_put (g.to (pre_dn.hs (pre_dn.refl _) h')) _
  rename_i h1
  have g1 := pre_dn.hs (pre_dn.refl _) h1
  split
  · rename_i h; exact on_put ((g1.on (has_on h)).to (pre_dn.to (kp_inner pre_dn hL) (pre_dn.mu (pre_dn.to hL.e (kp_must pre_dn [40] _)) [41]))) _
  rename_i h2
  have g2 := pre_dn.hs g1 h2
  split
  · rename_i h; exact on_put ((g2.on (has_on h)).to (kp_ende pre_dn _)) _
  rename_i h3
  have g3 := pre_dn.hs g2 h3
  split
  · rename_i h; exact on_put ((g3.on (has_on h)).to (kp_ende pre_dn _)) _
  rename_i h4
  have g4 := pre_dn.hs g3 h4
  split
  · rename_i h
    have g := g4.on (has_on h)
    split
    · exact on_put (g.to (pre_dn.en (hL.e _))) _
    · exact on_put (g.to (kp_ende pre_dn _)) _
  rename_i h5
  have g5 := pre_dn.hs g4 h5
  split
  · rename_i h
    have g := g5.on (has_on h)
    split
    · exact on_put (g.to (pre_dn.en (pre_dn.to hL.e (pre_dn.spoil _)))) _
    · exact on_put (g.to (pre_dn.en (hL.e _))) _
  rename_i h6
  have g6 := pre_dn.hs g5 h6
  split
  · rename_i h
    exact on_put ((g6.on (has_on h)).to (pre_dn.to (kp_block pre_dn hL) (pre_dn.mu (pre_dn.to (kp_rname pre_dn) (pre_dn.mu (pre_dn.mu (kp_block pre_dn hL _) _) _)) _))) _
  rename_i r7 h7
  have g7 := pre_dn.hs g6 h7
  cases e : (isS [108, 101, 116] r7 || isS [99, 111, 110, 115, 116] r7)
  · have g8 := g7.on ((hO.e r7).to (kp_ende pre_dn _))
    rw [if_neg (by simp)]
    split
    · exact g8
    · exact on_put g8 _
  · rw [if_pos rfl]
    have h : On r7 (move r7) := by
      cases e1 : isS [108, 101, 116] r7
      · rw [e1] at e; exact isS_on e
      · exact isS_on e1
    exact on_put ((g7.on h).to (pre_dn.en (pre_dn.to hL.e (pre_dn.mu (kp_rname pre_dn _) _)))) _
theorem on_deeper {f : Q Nat} (hf : OnF f) : OnF (deeper f) := fun r => by
  unfold deeper
  split
  · rename_i h; exact fun g => ⟨g, .inl h⟩
  · exact hf r
theorem on_rl : ∀ d, OnL (rl d)
  | 0 => ⟨fun r => on_spoil (pre_dn.refl r), fun r => on_spoil (pre_dn.refl r), fun r => on_spoil (pre_dn.refl r), fun r => on_spoil (pre_dn.refl r)⟩
  | d + 1 => ⟨on_deeper (on_assign (kp_rl pre_dn d) (on_rl d)), on_deeper (on_unary (kp_rl pre_dn d) (on_rl d)), on_deeper (on_post (kp_rl pre_dn d)), on_deeper (on_one (kp_rl pre_dn d) (on_rl d))⟩
end Go.Proofs.YtpjmapoiinjakaaGreatDoor.Rp
end
section
namespace Go.Proofs.YtpjmapoiinjakaaGreatDoor.Lx
set_option linter.unusedVariables false
theorem run_ends (l : List UInt8) : ∀ (f p : Nat), p ≤ l.length → l.length < p + f → 1 ≤ (run l f p).length ∧ (run l f p).length + p ≤ l.length + 1 ∧ ∀ T, (run l f p).getLast? = some T → T.k = 0 ∨ T.k = 6
  | 0, p, hp, hf => by omega
  | f + 1, p, hp, hf => by
    unfold run
    split
    · rename_i h
      refine ⟨by simp, by simp; omega, fun T hT => ?_⟩
      have : T = tok l p := by simpa using hT.symm
      rw [this]; exact h
    · rename_i h
      have h1 := tok_ok l p hp
      have h5 := h1.2.2.2.2.1 (fun e => h (.inl e)) (fun e => h (.inr e))
      have ih := run_ends l f (tok l p).e h1.2.2.1 (by omega)
      refine ⟨by simp, by rw [List.length_cons]; omega, fun T hT => ih.2.2 T ?_⟩
      rw [List.getLast?_cons] at hT
      cases hg : (run l f (tok l p).e).getLast? with
      | none => have := ih.1; rw [List.getLast?_eq_none_iff] at hg; rw [hg] at this; simp at this
      | some U => rw [hg] at hT; simpa using hT
end Go.Proofs.YtpjmapoiinjakaaGreatDoor.Lx
end
section
namespace Go.Proofs.YtpjmapoiinjakaaGreatDoor.Rd
open Go.RowKit
open L (tkA own_block own_below intOf info_of size_list wpList_append_run)
set_option linter.unusedVariables false
abbrev Grow : Rp.Rt → Rp.Rt → Prop := fun a b => a.nodes.length ≤ b.nodes.length
/-- Back along a step. -/
theorem gb {α : Type} {f : Rp.Q α} {s : Rp.Rt} {r : α} {s' : Rp.Rt} (g : Rp.Kp Grow f) (e : f s = (r, s')) (n : s'.nodes.length ≤ 1000000000) : s.nodes.length ≤ 1000000000 := by
  have := g s
  rw [e] at this
  exact Nat.le_trans this n
theorem Ru.back {α : Type} {f : Rp.Q α} {s : Rp.Rt} {r : α} {s' : Rp.Rt} (h : Ru f s r s') (g : Rp.Kp Grow f) : s.nodes.length ≤ 1000000000 := gb g h.eq h.small
theorem kp_up {R : Rp.Rt → Rp.Rt → Prop} {f : Rp.Rt → Rp.Rt} (h : ∀ r, R r (f r)) : Rp.Kp R (up f) := fun r => h r
/-- What a level is to be: its e, u, p, statement, by their contracts. -/
structure LvC (src : ByteArray) (F : Nat → Prop) (base B dep : Nat) (L : Rp.Lr) : Prop where
  e : ∀ {s s' : Rp.Rt} {r : Nat} {nv : Value} {w : World}, Ru L.e s r s' → RS src F base B dep s nv w → Calls Tryz.prog 59 #[.pointer (some ⟨B, 0, none⟩)] w (Tells src F base B dep nv w s' (.int .i64 (r : Int)))
  u : ∀ {s s' : Rp.Rt} {r : Nat} {nv : Value} {w : World}, Ru L.u s r s' → RS src F base B dep s nv w → Calls Tryz.prog 115 #[.pointer (some ⟨B, 0, none⟩)] w (Tells src F base B dep nv w s' (.int .i64 (r : Int)))
  p : ∀ {s s' : Rp.Rt} {r : Nat} {nv : Value} {w : World}, s.bad = false → Ru L.p s r s' → RS src F base B dep s nv w → Calls Tryz.prog 119 #[.pointer (some ⟨B, 0, none⟩)] w (Tells src F base B dep nv w s' (.int .i64 (r : Int)))
  s : ∀ {s s' : Rp.Rt} {r : Nat} {nv : Value} {w : World}, Ru L.s s r s' → RS src F base B dep s nv w → Calls Tryz.prog 36 #[.pointer (some ⟨B, 0, none⟩)] w (Tells src F base B dep nv w s' (.int .i64 (r : Int)))
/-- What a level keeps. -/
structure LvP (L : Rp.Lr) : Prop where
  gr : Rp.KpL Grow L
  dn : Rp.KpL Rp.Dn L
  on : Rp.OnL L
  ix : Rp.IxL L
  bd : Rp.KpL (fun a b => a.bad = true → b.bad = true) L
theorem lvP (d : Nat) : LvP (Rp.rl d) := ⟨Rp.kp_rl Rp.pre_len d, Rp.kp_rl Rp.pre_dn d, Rp.on_rl d, Rp.ix_rl d, Rp.kp_rl Rp.pre_bad d⟩
section
variable {src : ByteArray} {F : Nat → Prop} {base B dep : Nat} {s s' : Rp.Rt} {nv : Value} {w : World}
theorem RS.gd (h : RS src F base B dep s nv w) : Rp.Gd s := by
  obtain ⟨E, x, ⟨p, hp, e, _⟩, _⟩ := h.rd
  have := Lx.run_ends src.data.toList (src.data.toList.length + 1) p (by rw [size_list]; exact hp) (by omega)
  exact ⟨by rw [e]; exact this.1, fun T hT => this.2.2 T (by rw [← e]; exact hT)⟩
theorem RS.toks (h : RS src F base B dep s nv w) : s.toks.length ≤ 4097 := by
  obtain ⟨E, x, ⟨p, hp, e, _⟩, _⟩ := h.rd
  have := (Lx.run_ends src.data.toList (src.data.toList.length + 1) p (by rw [size_list]; exact hp) (by omega)).2.1
  rw [size_list] at this
  have := h.sm
  rw [e]; rw [size_list]; omega
theorem c_in (h : RS src F base B dep s nv w) (hb : s.bad = false) (hd : dep < 40) :
    Calls Tryz.prog 42 #[.pointer (some ⟨B, 0, none⟩)] w fun e w' => e = .returned (.bool true) ∧ RS src F base B (dep + 1) s nv w' ∧ Chg B nv nv w w' := by
  obtain ⟨E, x, hT, hx, hx0, hc, -⟩ := h.cells
  have hx0 := hx0 hb
  subst hx0
  rw [hb] at hc
  refine (in_any hc (by omega)).mono ?_
  rintro e w' ⟨rfl, hC, hh⟩
  rw [Bool.false_or, decide_eq_false (by omega)] at hh ⊢
  exact ⟨rfl, h.turn hC rfl (dep' := dep + 1) (by omega) hT (Nat.zero_le 1) (fun _ => rfl) (by rw [hb]; exact hh), hC.chg nv⟩
theorem c_inFull (h : RS src F base B dep s nv w) (hb : s.bad = false) (hd : dep = 40) :
    Calls Tryz.prog 42 #[.pointer (some ⟨B, 0, none⟩)] w fun e w' => e = .returned (.bool false) ∧ RS src F base B dep (Rp.spoil s) nv w' ∧ Chg B nv nv w w' := by
  obtain ⟨E, x, hT, hx, hx0, hc, -⟩ := h.cells
  have hx0 := hx0 hb
  subst hx0
  refine (in_any hc (by omega)).mono ?_
  rintro e w' ⟨rfl, hC, hh⟩
  rw [decide_eq_true (by omega), Bool.or_true] at hh ⊢
  exact ⟨rfl, h.turn (st' := Rp.spoil s) hC rfl h.low (x := 1) (show TokAt src (Rp.spoil s) E from hT) (Nat.le_refl 1) (fun e => nomatch e) hh, hC.chg nv⟩
theorem c_out (h : RS src F base B (dep + 1) s nv w) :
    Calls Tryz.prog 44 #[.pointer (some ⟨B, 0, none⟩)] w fun e w' => e = .returned (.tuple #[]) ∧ RS src F base B dep s nv w' ∧ Chg B nv nv w w' := by
  obtain ⟨E, x, hT, hx, hx0, hc, -⟩ := h.cells
  have hl := h.low
  rw [show dep + 1 + x = dep + x + 1 by omega] at hc
  refine (out_any hc (by omega)).mono ?_
  rintro e w' ⟨rfl, hC, hh⟩
  exact ⟨rfl, h.turn hC rfl (by omega) hT hx hx0 hh, hC.chg nv⟩
/-- In, and out again, where it is bad or becomes so. -/
theorem inOut (h : RS src F base B dep s nv w) (hb : s.bad = true ∨ dep = 40) :
    Calls Tryz.prog 42 #[.pointer (some ⟨B, 0, none⟩)] w fun e w1 => e = .returned (.bool false) ∧ Calls Tryz.prog 44 #[.pointer (some ⟨B, 0, none⟩)] w1 fun e w' => e = .returned (.tuple #[]) ∧ RS src F base B dep (Rp.spoil s) nv w' ∧ Chg B nv nv w w' := by
  obtain ⟨E, x, hT, hx, hx0, hc, -⟩ := h.cells
  have hl := h.low
  refine (in_any hc (by omega)).mono ?_
  rintro e w1 ⟨rfl, hC, hh⟩
  have hbd : (s.bad || decide (40 < dep + x + 1)) = true := by
    rcases hb with hb | hb
    · rw [hb]; rfl
    · rw [decide_eq_true (by omega)]; simp
  rw [hbd] at hh ⊢
  refine ⟨rfl, (out_any hh (by omega)).mono ?_⟩
  rintro e w' ⟨rfl, hC2, hh2⟩
  have cc : ChgB B w w' := hC.trans hC2
  exact ⟨rfl, h.turn (st' := Rp.spoil s) cc rfl h.low (x := x) (show TokAt src (Rp.spoil s) E from hT) hx (fun e => nomatch e) hh2, cc.chg nv⟩
/-- A call tells kids and leaves the reader in a state. -/
def TellsK (src : ByteArray) (F : Nat → Prop) (base B dep : Nat) (nv : Value) (w : World) (s' : Rp.Rt) (K : List Nat) : Ending → World → Prop := fun e w' => ∃ ad cap, e = .returned (.slice ad K.length cap) ∧ ∃ nv', RS src F base B dep s' nv' w' ∧ Chg B nv nv' w w' ∧ KV F B nv' w' (.slice ad K.length cap) K
def fl (s : Rp.Rt) : Nat := if s.bad = true then 0 else 1
/-- Where the loop of statements stands. -/
structure StL (src : ByteArray) (F : Nat → Prop) (base B dep : Nat) (L : Rp.Lr) (last : Bool) (nv : Value) (w W : World) (f : Nat) (a : Option Addr) (cap : Nat) (K1 : List Nat) (s1 : Rp.Rt) (K : List Nat) (s' : Rp.Rt) : Prop where
  ko : ∃ nv1, KO src F base B dep s1 nv1 w W 3 (.slice a K1.length cap) K1.length (kc K1) ∧ Chg B nv nv1 w W
  run : Rp.listLoop L last f K1 s1 = (K, s') ∧ s1.toks.length + fl s1 ≤ f
  cnt : K1.length + f ≤ 100001
set_option maxRecDepth 100000 in
set_option maxHeartbeats 4000000 in
theorem c_list {L : Rp.Lr} {last : Bool} {K : List Nat} (hL : ∀ F, LvC src F base B dep L) (hP : LvP L) (E : Ru (Rp.list L last) s K s') (h : RS src F base B dep s nv w) : Calls Tryz.prog 18 #[.pointer (some ⟨B, 0, none⟩), .bool last] w (TellsK src F base B dep nv w s' K) := by
  have HSTART : Hid (StL src F base B dep L last nv w w (s.toks.length + 1) none 0 [] s K s') := (show StL _ _ _ _ _ _ _ _ _ _ _ _ _ _ _ _ _ from ⟨⟨nv, KO.nil h (Nat.le_refl _), Chg.refl _ _ _⟩, ⟨E.eq, by unfold fl; split <;> omega⟩, by have := h.toks; simp; omega⟩)
  have H : Hid (_) := h
  have HSm : Hid (s'.nodes.length ≤ 1000000000) := E.small
  clear E h
  go_enter Tryz.func18, Tryz.ntmps18
  go_wp2_with fail
  go_loopg [5] (s.toks.length + 1) (fun f v W => ∃ (K1 : List Nat) (a : Option Addr) (cap : Nat) (s1 : Rp.Rt), v = .slice a K1.length cap ∧ Hid (StL src F base B dep L last nv w W f a cap K1 s1 K s'))
  case atStart => exact ⟨[], none, 0, s, rfl, HSTART⟩
  case round =>
    obtain ⟨K1, a, cap, s1, rfl, HI⟩ := hrel
    clear HSTART
    obtain ⟨⟨nv1, hko, hchg⟩, ⟨hrun, hf⟩, hcnt⟩ := HI.out
    have hg := hko.rs.gd
    obtain ⟨E, x, -, -, -, -, c0, c1, c2, c3, c4, c5, c6, c7, c8, c9, cf, hlt⟩ := hko.rs.cells
    obtain ⟨f, rfl⟩ : ∃ f', gk = f' + 1 := ⟨gk - 1, by have := hg.one; omega⟩
    by_cases hfail : s1.bad = true
    · have hr : K1 = K ∧ s1 = s' := by
        unfold Rp.listLoop at hrun
        rw [hfail] at hrun
        simpa using hrun
      obtain ⟨rfl, rfl⟩ := hr
      have HE := hko.kv H.out
      rw [hfail] at c9
      have HEE : Hid (_) := HE
      have HC : Hid (_) := hchg
      clear hrun hf hcnt hko HE HI hchg
      go_wp2_with fail
      go_ret
      exact ⟨a, cap, rfl, nv1, HEE.out.1, HC.out, HEE.out.2⟩
    have hff : s1.bad = false := by simpa using hfail
    rw [hff] at c9
    have HIS : Hid (_) := is_any hko.rs [125]
    by_cases hst : ((last && decide ((Rp.nx s1).k = 0)) || (!last && Rp.isS [125] s1)) = true
    · have hr : K1 = K ∧ s1 = s' := by
        unfold Rp.listLoop at hrun
        rw [if_neg hfail, if_pos hst] at hrun
        simpa using hrun
      obtain ⟨rfl, rfl⟩ := hr
      have HE := hko.kv H.out
      have HEE : Hid (_) := HE
      have HC : Hid (_) := hchg
      clear hrun hf hcnt hko HE HI hchg
      cases last
      · have hi : Rp.isS [125] s1 = true := by simpa using hst
        rw [hi] at HIS
        clear hi hst
        go_wp2_with fail
        refine Calls.mono HIS.out ?_
        rintro e w2 ⟨rfl, rfl⟩
        go_wp2_with fail
        go_ret
        exact ⟨a, cap, rfl, nv1, HEE.out.1, HC.out, HEE.out.2⟩
      · have hi : (Rp.nx s1).k = 0 := by simpa using hst
        rw [hi] at c1
        clear hi hst HIS
        go_wp2_with fail
        go_ret
        exact ⟨a, cap, rfl, nv1, HEE.out.1, HC.out, HEE.out.2⟩
    have hst' : ((last && decide ((Rp.nx s1).k = 0)) || (!last && Rp.isS [125] s1)) = false := by simpa using hst
    have hrun2 : Rp.listLoop L last f (K1 ++ [(L.s s1).1]) (L.s s1).2 = (K, s') := by
      have h2 := hrun
      unfold Rp.listLoop at h2
      rw [if_neg hfail, if_neg hst] at h2
      exact h2
    rcases es : L.s s1 with ⟨r, s2⟩
    rw [es] at hrun2
    simp only at hrun2
    have hle := (hP.dn.s s1).1 hg
    have hgo := hP.on.s s1 hg
    rw [es] at hle hgo
    have n2 : s2.nodes.length ≤ 1000000000 := gb (Rp.kp_listLoop Rp.pre_len hP.gr last f _) hrun2 HSm.out
    have E2 : Ru L.s s1 r s2 := ⟨es, n2⟩
    have hdrop : s2.toks.length + fl s2 + 1 ≤ s1.toks.length + fl s1 := by
      have h1 : fl s1 = 1 := by unfold fl; rw [if_neg hfail]
      have h2 := hle.2
      rcases hgo.2 with h3 | h3
      · have : fl s2 = 0 := by unfold fl; rw [if_pos h3]
        simp only at h2; omega
      · have : fl s2 ≤ 1 := by unfold fl; split <;> omega
        simp only at h3; omega
    have HKO : Hid (_) := hko
    have HC : Hid (_) := hchg
    have HR2 : Hid (_) := hrun2
    have HD : Hid (s2.toks.length + fl s2 + 1 ≤ s1.toks.length + fl s1 ∧ s1.toks.length + fl s1 ≤ f + 1 ∧ K1.length + (f + 1) ≤ 100001) := (show _ ∧ _ ∧ _ from ⟨hdrop, hf, hcnt⟩)
    have HEND : Hid (∀ nv3 a4 cap4 w4, KO src F base B dep s2 nv3 w w4 3 (.slice a4 (K1.length + 1) cap4) (K1 ++ [r]).length (kc (K1 ++ [r])) → Chg B nv nv3 w w4 → StL src F base B dep L last nv w w4 f a4 cap4 (K1 ++ [r]) s2 K s') := fun nv3 a4 cap4 w4 h1 h2 => ⟨⟨nv3, by simpa using h1, h2⟩, ⟨hrun2, by omega⟩, by simp; omega⟩
    clear hrun hf hcnt hko HI hchg hfail hff hrun2 hle hgo n2 hdrop es hg
    cases last
    · have hi : Rp.isS [125] s1 = false := by simpa using hst'
      rw [hi] at HIS
      clear hi hst hst'
      go_wp2_with fail
      refine Calls.mono HIS.out ?_
      rintro e w2 ⟨rfl, rfl⟩
      go_wp2_with fail
      refine Calls.mono ((hL _).s E2 HKO.out.rs) ?_
      rintro e w3 ⟨rfl, nv3, hr3, hc3⟩
      obtain ⟨a4, cap4, w4, hap, hko4, hc4⟩ := (HKO.out.go hr3 hc3).kid r (by have := HD.out; omega)
      have HRn : Hid (_) := hap
      have HKO4 : Hid (_) := hko4
      have HC4 : Hid (_) := hc4 _ (HC.out.trans hc3)
      clear hr3 hc3 HKO HC hap hko4 hc4
      go_wp2_with (at_builtin; refine wpList_append_run _ _ 41 rfl rfl _ _ _ _ rfl rfl HRn.out ?_)
      go_roundg f
      case rel => exact ⟨K1 ++ [r], a4, cap4, s2, by simp, HEND.out _ _ _ _ HKO4.out HC4.out⟩
      case measure => omega
    · have hi : ¬ (Rp.nx s1).k = 0 := by simpa using hst'
      have e0 : (((Rp.nx s1).k : Int) == 0) = false := by rw [beq_eq_false_iff_ne]; omega
      have e0' : ¬ ((Rp.nx s1).k : Int) = 0 := by omega
      clear hi hst hst' HIS
      generalize Rp.nx s1 = T at *
      go_wp2_with fail
      refine Calls.mono ((hL _).s E2 HKO.out.rs) ?_
      rintro e w3 ⟨rfl, nv3, hr3, hc3⟩
      obtain ⟨a4, cap4, w4, hap, hko4, hc4⟩ := (HKO.out.go hr3 hc3).kid r (by have := HD.out; omega)
      have HRn : Hid (_) := hap
      have HKO4 : Hid (_) := hko4
      have HC4 : Hid (_) := hc4 _ (HC.out.trans hc3)
      clear hr3 hc3 HKO HC hap hko4 hc4
      go_wp2_with (at_builtin; refine wpList_append_run _ _ 41 rfl rfl _ _ _ _ rfl rfl HRn.out ?_)
      go_roundg f
      case rel => exact ⟨K1 ++ [r], a4, cap4, s2, by simp, HEND.out _ _ _ _ HKO4.out HC4.out⟩
      case measure => omega
end
end Go.Proofs.YtpjmapoiinjakaaGreatDoor.Rd
end
