-- PROVED: 'TraceAll' at whatever comes in.
import Derived.Test.YtmjmlccdgdakdaaTAllWalk
import Derived.Test.YtmjmlccdgdakdaaTOpen
namespace Go.Proofs.Ytmjmlccdgdakdaa.T
open Go.RowKit
theorem tall_call (a0 : Option Addr) (len0 cap0 : Nat) (z0 : List Tm.Rec) (s t : ByteArray) (w : World) (h0 : IsRecs w a0 len0 cap0 z0) (hs : s.size ≤ maxLen) (ht : t.size ≤ maxLen) :
    Calls Try.prog 3 #[.slice a0 len0 cap0, .string s, .string t] w fun e w' => e = .returned (.bool true) ∧ Below w.heap.size w w' := by
  obtain ⟨rfl, hl, hm, hR, hf, hss⟩ := h0
  exact tall_walk z0 a0 cap0 s t w (Nat.le_trans hl hm) hs ht hf hss hR
end Go.Proofs.Ytmjmlccdgdakdaa.T
