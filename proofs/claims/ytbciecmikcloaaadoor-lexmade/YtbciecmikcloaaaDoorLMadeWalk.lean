/- The law LexMade: its walk. -/
import Derived.Test.YtbciecmikcloaaaDoorLAllWalk
import Derived.Test.YtbciecmikcloaaaDoorLBits
namespace Go.Proofs.YtbciecmikcloaaaDoor.L
open Go.RowKit
set_option linter.unusedVariables false
set_option maxRecDepth 100000 in
set_option maxHeartbeats 4000000 in
theorem lexMade_core (ad0 : Option Addr) (len0 cap0 : Nat) (a : Int) (w : World) (ha0 : 0 ≤ a) (ha1 : a ≤ 255)
    (HM : Hid (Calls Tryd.prog 17 #[.slice ad0 len0 cap0] w fun e w' => ∃ s : ByteArray, e = .returned (.string s) ∧ s.size ≤ 720 ∧ Below w.heap.size w w'))
    (HN : Hid (∀ s : ByteArray, s.size ≤ 720 → ∀ W, Below w.heap.size w W → Calls Tryd.prog 10 #[.string s, .int .i64 a] W fun e w' => e = .returned (.agg (tkA (Lx.tok s.data.toList (plc a s.size)))) ∧ Below w.heap.size w w'))
    (HT : Hid (∀ s : ByteArray, s.size ≤ 720 → ∀ W, Below w.heap.size w W → Calls Tryd.prog 11 #[.string s, .int .i64 a] W fun e w' => FoundT (Lx.tok s.data.toList (plc a s.size)) e ∧ Below w.heap.size w w'))
    (HA : Hid (∀ s : ByteArray, s.size ≤ 720 → ∀ W, Below w.heap.size w W → Calls Tryd.prog 13 #[.string s] W fun e w' => ∃ ad cap, e = .returned (.slice ad (Lx.all s.data.toList).length cap) ∧ (Lx.all s.data.toList).length ≤ cap ∧ Toks w' ad (Lx.all s.data.toList) ∧ Below w.heap.size w w'))
    (HR : Hid (∀ s : ByteArray, s.size ≤ 720 → ∀ W, Below w.heap.size w W → Calls Tryd.prog 14 #[.string s] W fun e w' => ∃ ad cap, e = .returned (.slice ad (Lx.all s.data.toList).length cap) ∧ (Lx.all s.data.toList).length ≤ cap ∧ Toks w' ad (Lx.all s.data.toList) ∧ Below W.heap.size W w' ∧ Below w.heap.size w w'))
    (HK : Hid (∀ W, Below w.heap.size w W → Calls Tryd.prog 9 #[] W fun e w' => e = .returned (.bool true) ∧ Below w.heap.size w w')) :
    Calls Tryd.prog 4 #[.slice ad0 len0 cap0, .int .u8 a] w fun e w' => e = .returned (.bool true) ∧ Below w.heap.size w w' := by
  have hfld := run_fieldF
  go_enter Tryd.func4, Tryd.ntmps4
  go_wp2_with fail
  refine Calls.mono HM.out ?_
  rintro e w0 ⟨s, rfl, hs, hb0⟩
  have hL : (Lx.all s.data.toList).length ≤ 1000000 := all_len s (by omega)
  have HN1 : Hid (_) := HN.out s hs
  have HT1 : Hid (_) := HT.out s hs
  have HA1 : Hid (_) := HA.out s hs
  have HR1 : Hid (_) := HR.out s hs
  generalize Lx.all s.data.toList = L at *
  generalize Lx.tok s.data.toList (plc a s.size) = T at *
  obtain ⟨k, t, n, at', ln, e'⟩ := T
  simp only [tkA] at HN1
  clear HM HN HT HA HR
  go_wp2_with fail
  refine Calls.mono (HN1.out _ hb0) ?_
  rintro e w1 ⟨rfl, hb1⟩
  clear HN1 hb0
  go_wp2_with fail
  refine Calls.mono (HT1.out _ hb1) ?_
  rintro e w2 ⟨⟨E, rfl, _⟩, hb2⟩
  clear HT1 hb1
  go_wp2_with fail
  refine Calls.mono (HA1.out _ hb2) ?_
  rintro e w3 ⟨ad, cap, rfl, hc3, ht3, hb3⟩
  clear HA1 hb2
  go_wp2_with fail
  refine Calls.mono (HR1.out _ hb3) ?_
  rintro e w4 ⟨ad4, cap4, rfl, hc4, ht4, hb34, hb4⟩
  have HS : Hid (_) := same_any ad ad4 L.length cap cap4 L w4 rfl hL hc3 hc4 (ht3.below hb34) ht4
  clear HR1 hb3 hb34 ht3 ht4
  go_wp2_with fail
  refine Calls.mono HS.out ?_
  rintro e w5 ⟨rfl, hb5⟩
  have hB5 := hb4.trans (hb5.mono hb4.size)
  clear HS hb5 hb4
  go_wp2_with fail
  refine Calls.mono (HK.out _ hB5) ?_
  rintro e w7 ⟨rfl, hb7⟩
  go_wp2_with fail
  go_ret
  exact ⟨rfl, hb7⟩
theorem lexMade_walk (ad0 : Option Addr) (len0 cap0 : Nat) (z0 : List Int) (a : Int) (w : World) (h0 : IsB w ad0 len0 cap0 z0) (h1 : 0 ≤ a ∧ a ≤ 255) (hg : Sig w) :
    Calls Tryd.prog 4 #[.slice ad0 len0 cap0, .int .u8 a] w fun e w' => e = .returned (.bool true) ∧ Below w.heap.size w w' :=
  lexMade_core ad0 len0 cap0 a w h1.1 h1.2 (made_any _ _ _ _ w h0) (fun s hs => kit_next hg s a (by omega)) (fun s hs => kit_token s a (by omega)) (fun s hs => kit_all hg s (by omega)) (fun s hs => kit_rall s (by omega)) (kit_awake hg)
end Go.Proofs.YtbciecmikcloaaaDoor.L
