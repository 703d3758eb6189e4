-- PROVED: 'TraceRecords' at whatever comes in.
import Derived.Test.YtmjmlccdgdakdaaTRecordsWalk
namespace Go.Proofs.Ytmjmlccdgdakdaa.T
open Go.RowKit
theorem trecords_call (a b : Int) (x0 : Option Addr) (len0 cap0 : Nat) (z0 : List Int) (x1 : Option Addr) (len1 cap1 : Nat) (z1 : List Int) (w : World) (ha : 0 ≤ a ∧ a ≤ 65535) (hb : 0 ≤ b ∧ b ≤ 65535) (h0 : IsB w x0 len0 cap0 z0) (h1 : IsB w x1 len1 cap1 z1) :
    Calls Try.prog 6 #[.int .u16 a, .int .u16 b, .slice x0 len0 cap0, .slice x1 len1 cap1] w fun e w' => e = .returned (.bool true) ∧ Below w.heap.size w w' := by
  obtain ⟨Z, rfl, hl, hm, hN, hz⟩ := h0.ns
  obtain ⟨Y, rfl, hl2, hm2, hN2, hz2⟩ := h1.ns
  obtain ⟨a', rfl⟩ := Int.eq_ofNat_of_zero_le ha.1
  obtain ⟨b', rfl⟩ := Int.eq_ofNat_of_zero_le hb.1
  exact trecords_walk a' b' Z Y x0 x1 cap0 cap1 w (by omega) (by omega) (Nat.le_trans hl hm) hz hN (Nat.le_trans hl2 hm2) hz2 hN2
end Go.Proofs.Ytmjmlccdgdakdaa.T
