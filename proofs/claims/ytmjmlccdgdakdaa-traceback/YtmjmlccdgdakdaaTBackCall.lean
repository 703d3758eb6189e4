-- PROVED: 'TraceBack' at whatever comes in.
import Derived.Test.YtmjmlccdgdakdaaTBackWalk
namespace Go.Proofs.Ytmjmlccdgdakdaa.T
open Go.RowKit
theorem u8_of {a : Int} (h0 : 0 ≤ a) (h1 : a ≤ 255) : ∃ x : UInt8, a = (x.toNat : Int) := ⟨UInt8.ofNat a.toNat, by rw [Cm.toNat_ofNat (by omega)]; omega⟩
theorem tback_call (x0 : Option Addr) (len0 cap0 : Nat) (z0 : List Int) (c a y : Int) (w : World) (h0 : IsB w x0 len0 cap0 z0) (hc : 0 ≤ c ∧ c ≤ 65535) (ha : 0 ≤ a ∧ a ≤ 65535) (hy : 0 ≤ y ∧ y ≤ 255) :
    Calls Try.prog 4 #[.slice x0 len0 cap0, .int .u16 c, .int .u16 a, .int .u8 y] w fun e w' => e = .returned (.bool true) ∧ Below w.heap.size w w' := by
  obtain ⟨Z, rfl, hl, hm, hN, hz⟩ := h0.ns
  obtain ⟨c', rfl⟩ := Int.eq_ofNat_of_zero_le hc.1
  obtain ⟨a', rfl⟩ := Int.eq_ofNat_of_zero_le ha.1
  obtain ⟨y', rfl⟩ := u8_of hy.1 hy.2
  exact tback_walk Z x0 cap0 c' a' y' w (by omega) (by omega) (Nat.le_trans hl hm) hz hN
end Go.Proofs.Ytmjmlccdgdakdaa.T
