/- What a function tells is a node that is there. -/
import Derived.Test.YtoeolonbkeldoaaDoorPsG
namespace Go.Proofs.YtoeolonbkeldoaaDoor.Ps
open Lx
set_option linter.unusedVariables false
/-- The place that is told is a node's. -/
def Ix (f : M Nat) : Prop := ∀ s, (f s).1 < (f s).2.nodes.length
theorem ix_add (n : Nd) : Ix (add n) := fun s => by simp [add]
theorem ix_fail : Ix fail := fun s => by
  unfold fail
  exact ix_add _ _
theorem ix_over (n : Nd) (k : List Nat) : Ix (over n k) := fun s => ix_add _ s
structure IxL (L : Lv) : Prop where
  e : Ix L.e
  u : Ix L.u
  p : Ix L.p
  s : Ix L.s
theorem ite_lt {c : Prop} [Decidable c] {a b : Nat × St} (ha : a.1 < a.2.nodes.length) (hb : b.1 < b.2.nodes.length) : (if c then a else b).1 < (if c then a else b).2.nodes.length := by split <;> assumption
theorem ix_chainLoop {lv : List UInt8 → Option Nd} {sub : M Nat} : ∀ (f left : Nat) (s : St), left < s.nodes.length → (chainLoop lv sub f left s).1 < (chainLoop lv sub f left s).2.nodes.length
  | 0, l, s, h => h
  | f + 1, l, s, h => by
    unfold chainLoop
    split
    · exact h
    · rename_i n _
      exact ix_chainLoop (lv := lv) (sub := sub) f _ _ (ix_over n [l, (sub (skip s).2).1] (sub (skip s).2).2)
theorem ix_chain {part : M Nat} (hp : Ix part) : ∀ (row : List (List UInt8 → Option Nd)), Ix (chain part row)
  | [], s => hp s
  | lv :: row, s => ix_chainLoop (lv := lv) _ _ _ (ix_chain hp row s)
theorem ix_choice {L : Lv} (h : IxL L) : Ix (choice L) := fun s => by
  unfold choice
  simp only []
  have h1 := ix_chain (ix_chain h.u binaries) logics s
  have h2 := take_n [63] (chain (chain L.u binaries) logics s).2
  generalize take [63] (chain (chain L.u binaries) logics s).2 = P at *
  obtain ⟨b, s'⟩ := P
  simp only at h2
  cases b
  · simp only [h2]; exact h1
  · exact ix_over _ _ _
theorem ix_leaf (n : Nd) : Ix (leaf n) := fun s => ix_add _ _
theorem ix_inParens {L : Lv} (h : IxL L) : Ix (inParens L) := fun s => Nat.lt_of_lt_of_le (h.e (want [40] s).2) (gr_want [41] _)
theorem ix_block (L : Lv) : Ix (block L) := fun s => ix_add _ _
theorem ix_inner {L : Lv} (h : IxL L) : Ix (inner L) := fun s => by
  unfold inner; exact ite_lt (ix_fail s) (h.s s)
theorem ix_jump (k : Nat) : Ix (jump k) := fun s => ix_add _ _
theorem ix_exprS (L : Lv) : Ix (exprS L) := fun s => ix_over _ _ _
theorem ix_whileS (L : Lv) : Ix (whileS L) := fun s => ix_add _ _
theorem ix_returnS (L : Lv) : Ix (returnS L) := fun s => by
  unfold returnS
  exact ite_lt (ix_add _ _) (ix_add _ _)
theorem ix_throwS (L : Lv) : Ix (throwS L) := fun s => by
  unfold throwS
  exact ite_lt (ix_fail _) (ix_add _ _)
theorem ix_tryS (L : Lv) : Ix (tryS L) := fun s => ix_add _ _
theorem ix_binding (L : Lv) (k : Nat) : Ix (binding L k) := fun s => ix_add _ _
theorem ix_func (L : Lv) (b : Bool) : Ix (func L b) := fun s => ix_add _ _
theorem ix_definition (L : Lv) : Ix (definition L) := fun s => ix_add _ _
theorem ix_ifS (L : Lv) : Ix (ifS L) := fun s => by
  unfold ifS
  simp only []
  generalize take [101, 108, 115, 101] (inner L (inParens L (skip s).2).2).2 = P
  obtain ⟨b, s'⟩ := P
  cases b <;> exact ix_add _ _
theorem ix_alone {L : Lv} (h : IxL L) : Ix (alone L) := fun s => by
  unfold alone
  exact (ite_lt (ix_leaf _ s) (ite_lt (ix_leaf _ s) (ite_lt (ix_leaf _ s) (ite_lt (ix_leaf _ s) (ite_lt (ix_leaf _ s) (ite_lt (ix_leaf _ s) (ite_lt (ix_leaf _ s) (ite_lt (ix_leaf _ s) (ite_lt (ix_inParens h s) (ite_lt (ix_add _ _) (ite_lt (ix_add _ _) (ite_lt (ix_func L false s) (ix_fail s)))))))))))))
theorem ix_primaryLoop {L : Lv} : ∀ (f p : Nat) (s : St), p < s.nodes.length → (primaryLoop L f p s).1 < (primaryLoop L f p s).2.nodes.length
  | 0, p, s, h => h
  | f + 1, p, s, h => by
    unfold primaryLoop
    have h1 := take_n [46] s
    generalize take [46] s = P at *
    obtain ⟨b, s1⟩ := P
    simp only at h1
    cases b
    · simp only []
      have h2 := take_n [91] s1
      generalize take [91] s1 = P at *
      obtain ⟨b, s2⟩ := P
      simp only at h2
      cases b
      · simp only []
        have h3 := take_n [40] s2
        generalize take [40] s2 = P at *
        obtain ⟨b, s3⟩ := P
        simp only at h3
        cases b
        · show p < s3.nodes.length
          rw [h3, h2, h1]; exact h
        · exact ix_primaryLoop f _ _ (ix_over _ _ _)
      · exact ix_primaryLoop f _ _ (ix_over _ _ _)
    · exact ix_primaryLoop f _ _ (ix_over _ _ _)
theorem ix_primary {L : Lv} (h : IxL L) : Ix (primary L) := fun s => ix_primaryLoop _ _ _ (ix_alone h s)
theorem ix_anyUnary {L : Lv} (h : IxL L) : Ix (anyUnary L) := fun s => by
  unfold anyUnary
  exact ite_lt (ix_add _ _) (h.p s)
theorem ix_anyExpr {L : Lv} (h : IxL L) : Ix (anyExpr L) := fun s => by
  unfold anyExpr
  generalize take [121, 105, 101, 108, 100] s = P
  obtain ⟨b, s1⟩ := P
  cases b
  · simp only []
    have h2 := ix_choice h s1
    split
    · have h3 := take_n [61] (choice L s1).2
      generalize take [61] (choice L s1).2 = P at *
      obtain ⟨b, s2⟩ := P
      simp only at h3
      cases b
      · simp only [h3]; exact h2
      · exact ix_over _ _ _
    · exact h2
  · exact ix_add _ _
theorem ix_anyStatement {L : Lv} : Ix (anyStatement L) := fun s => by
  unfold anyStatement
  exact (ite_lt (ix_block L s) (ite_lt (ix_ifS L s) (ite_lt (ix_whileS L s) (ite_lt (ix_jump 28 s) (ite_lt (ix_jump 29 s) (ite_lt (ix_returnS L s) (ite_lt (ix_throwS L s) (ite_lt (ix_tryS L s) (ite_lt (ix_binding L 21 s) (ite_lt (ix_binding L 22 s) (ite_lt (ix_definition L s) (ix_exprS L s))))))))))))
theorem ix_lv : ∀ d, IxL (lv d)
  | 0 => ⟨ix_fail, ix_fail, ix_fail, ix_fail⟩
  | d + 1 => ⟨ix_anyExpr (ix_lv d), ix_anyUnary (ix_lv d), ix_primary (ix_lv d), ix_anyStatement⟩
end Go.Proofs.YtoeolonbkeldoaaDoor.Ps
