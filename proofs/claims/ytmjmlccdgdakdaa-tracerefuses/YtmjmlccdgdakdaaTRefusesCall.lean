-- PROVED: 'TraceRefuses' at whatever comes in.
import Derived.Test.YtmjmlccdgdakdaaTRefusesWalk
namespace Go.Proofs.Ytmjmlccdgdakdaa.T
open Go.RowKit
theorem trefuses_call (x n : Int) (w : World) (hx : 0 ≤ x ∧ x ≤ 255) (hn : -9223372036854775808 ≤ n ∧ n ≤ 9223372036854775807) :
    Calls Try.prog 5 #[.int .u8 x, .int .i64 n] w fun e w' => e = .returned (.bool true) ∧ Below w.heap.size w w' := by
  obtain ⟨x', rfl⟩ := Int.eq_ofNat_of_zero_le hx.1
  exact trefuses_walk x' n w (by omega) hn.1 hn.2
end Go.Proofs.Ytmjmlccdgdakdaa.T
