/- What stands ahead of a token. -/
import Derived.Test.YtbciecmikcloaaaDoorLxM

namespace Go.Proofs.YtbciecmikcloaaaDoor.Lx
set_option linter.unusedVariables false
/-- What stands ahead is blanks and comments; line: a line ends there. -/
def Ahead (A : List UInt8) (line : Bool) : Prop := ∀ l, blk false (A ++ l) = (A.length + (blk false l).1, line || (blk false l).2)
theorem ahead_nil : Ahead [] false := fun l => by simp
theorem ahead_more {A B : List UInt8} {x y : Bool} (hA : Ahead A x) (hB : Ahead B y) : Ahead (A ++ B) (x || y) := fun l => by
  rw [List.append_assoc, hA, hB, List.length_append]
  simp only [Nat.add_assoc, Bool.or_assoc]
theorem ahead_blank (c : UInt8) (h : c.toNat = 9 ∨ c.toNat = 13 ∨ c.toNat = 32) : Ahead [c] false := fun l => by
  show blk false (c :: l) = _
  rw [blk, if_neg (by omega), if_pos h]
  simp [Nat.add_comm]
theorem ahead_line : Ahead [10] true := fun l => by
  show blk false (10 :: l) = _
  rw [blk, if_pos (by decide)]
  simp [Nat.add_comm]
theorem ahead_note : Ahead [47, 47, 10] true := fun l => by
  simp [blk, Nat.add_comm]
  omega
theorem ahead_note2 : Ahead [47, 47, 32, 120, 32, 123, 32, 34, 10] true := fun l => by
  simp [blk, Nat.add_comm]
  omega
theorem tok_ahead {A l : List UInt8} {line : Bool} (h : Ahead A line) : tok (A ++ l) 0 = ⟨(tok l 0).k, (tok l 0).t, (tok l 0).n, (tok l 0).a + A.length, (tok l 0).ln || line, (tok l 0).e + A.length⟩ := by
  unfold tok
  simp only [List.drop_zero]
  rw [h l]
  simp only [Nat.zero_add]
  rw [show List.drop (A.length + (blk false l).1) (A ++ l) = List.drop (blk false l).1 l by rw [← List.drop_drop, List.drop_left]]
  cases piece (List.drop (blk false l).1 l) <;> simp only [tokOf, Tk.mk.injEq, Bool.or_comm, true_and] <;> omega
end Go.Proofs.YtbciecmikcloaaaDoor.Lx
