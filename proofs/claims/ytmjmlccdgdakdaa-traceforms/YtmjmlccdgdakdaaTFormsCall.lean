-- PROVED: 'TraceForms' at whatever comes in.
import Derived.Test.YtmjmlccdgdakdaaTFormsWalk
namespace Go.Proofs.Ytmjmlccdgdakdaa.T
open Go.RowKit
theorem tforms_call (x0 : Option Addr) (len0 cap0 : Nat) (z0 : List Int) (x : Int) (w : World) (h0 : IsB w x0 len0 cap0 z0) (hx : 0 ≤ x ∧ x ≤ 255) :
    Calls Try.prog 7 #[.slice x0 len0 cap0, .int .u8 x] w fun e w' => e = .returned (.bool true) ∧ Below w.heap.size w w' := by
  obtain ⟨Z, rfl, hl, hm, hN, hz⟩ := h0.ns
  obtain ⟨x', rfl⟩ := Int.eq_ofNat_of_zero_le hx.1
  exact tforms_walk Z x0 cap0 x' w (by omega) (Nat.le_trans hl hm) hz hN
end Go.Proofs.Ytmjmlccdgdakdaa.T
