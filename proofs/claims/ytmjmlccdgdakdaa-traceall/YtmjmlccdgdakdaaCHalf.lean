/- crc.half, crc.table: the half bytes, four times halved. -/
import Derived.Test.YtmjmlccdgdakdaaCMath
import Derived.Test.YtmjmlccdgdakdaaRows
import Derived.WalkSpells
import Derived.WalkLawsBesides
import Derived.Laws.BitsAllLaws
import Derived.Laws.ResultCell
import Derived.Deep.LoopGhost
import Derived.Deep.WholeRow
namespace Go.Proofs.Ytmjmlccdgdakdaa.C
open Go.RowKit

theorem ret_int {k : IntKind} {a b : Int} (h : a = b) : Ending.returned (.int k a) = .returned (.int k b) := by rw [h]
theorem ret_bool {a b : Bool} (h : a = b) : Ending.returned (.bool a) = .returned (.bool b) := by rw [h]
def intOf : Value → Int | .int _ q => q | _ => 0

set_option maxHeartbeats 400000 in
theorem half_any (n : Nat) (w : World) (hn : n < 4294967296) :
    Calls Try.prog 70 #[.int .u32 (n : Int), .int .u32 2197175160] w fun e w' => e = .returned (.int .u32 (Cm.half n : Nat)) ∧ w' = w := by
  by_cases h : n % 2 = 1
  · have hb : ((n : Int) % 2 == 1) = true := by rw [beq_iff_eq]; omega
    have HX : Hid (bits .xor .u32 ((n : Int) / 2) 2197175160 = (Cm.half n : Nat)) := (show bits .xor .u32 ((n : Int) / 2) 2197175160 = (Cm.half n : Nat) from by
      have := u32_xor_nat (n / 2) 2197175160 (by omega) (by omega)
      unfold Cm.half
      rw [if_pos h]
      rw [show ((n / 2 : Nat) : Int) = (n : Int) / 2 by omega] at this
      exact this)
    have hn' : (n : Int) < 4294967296 := by omega
    clear h hn
    go_enter Try.func70, Try.ntmps70
    go_wp2
    go_ret
    exact ⟨ret_int HX.out, rfl⟩
  · have hb : ((n : Int) % 2 == 1) = false := by rw [beq_eq_false_iff_ne]; omega
    have HX : Hid ((n : Int) / 2 = (Cm.half n : Nat)) := (show (n : Int) / 2 = (Cm.half n : Nat) from by
      unfold Cm.half
      rw [if_neg h]; omega)
    have hn' : (n : Int) < 4294967296 := by omega
    clear h hn
    go_enter Try.func70, Try.ntmps70
    go_wp2
    go_ret
    exact ⟨ret_int HX.out, rfl⟩
end Go.Proofs.Ytmjmlccdgdakdaa.C
