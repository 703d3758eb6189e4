-- PROVED: 'SameRecords' of the reference at equal lists.
import Derived.Test.YtmjmlccdgdakdaaTAwake
import Derived.BigRegion
namespace Go.Proofs.Ytmjmlccdgdakdaa.T
open Go.RowKit
set_option maxRecDepth 100000 in
set_option maxHeartbeats 2000000 in
theorem same_any (L : List Tm.Rec) (ao bo : Option Addr) (ca cb : Nat) (w : World) (hL : L.length ≤ 1000000) (ha : Recs w ao L) (hb : Recs w bo L) :
    Calls Try.prog 20 #[.slice ao L.length ca, .slice bo L.length cb] w fun e w' => e = .returned (.bool true) ∧ Below w.heap.size w w' := by
  have HA : Hid (_) := ha
  have HB : Hid (_) := hb
  clear ha hb
  generalize hn : L.length = n at hL ⊢
  have HN : Hid (_) := hn
  clear hn
  go_enter Try.func20, Try.ntmps20
  go_wp2_with fail
  go_loopw [5] (fun c wr => ∃ i : Nat, i ≤ n ∧ c = .int .i64 (i : Int) ∧ Below w.heap.size w wr) (fun c _ => n - (intOf c).toNat)
  case atStart => exact ⟨0, by omega, rfl, Below.refl _ _⟩
  case round =>
    obtain ⟨i, hi, rfl, hbel⟩ := hrel
    by_cases hlt : i < n
    · have hlt' : (i : Int) < n := by omega
      have hiL : i < L.length := by rw [HN.out]; exact hlt
      obtain ⟨b1, o1, rfl, l1, c1⟩ := HA.out.resolve_left (by omega)
      obtain ⟨b2, o2, rfl, l2, c2⟩ := HB.out.resolve_left (by omega)
      obtain ⟨d0, d1, d2, d3⟩ := c1 i hiL
      obtain ⟨e0, e1, e2, e3⟩ := c2 i hiL
      replace d0 := (hbel.cell (p := ⟨b1, o1 + i * 4, none⟩) l1).trans d0
      replace d1 := (hbel.cell (p := ⟨b1, o1 + i * 4 + 1, none⟩) l1).trans d1
      replace d2 := (hbel.cell (p := ⟨b1, o1 + i * 4 + 2, none⟩) l1).trans d2
      replace d3 := (hbel.cell (p := ⟨b1, o1 + i * 4 + 3, none⟩) l1).trans d3
      replace e0 := (hbel.cell (p := ⟨b2, o2 + i * 4, none⟩) l2).trans e0
      replace e1 := (hbel.cell (p := ⟨b2, o2 + i * 4 + 1, none⟩) l2).trans e1
      replace e2 := (hbel.cell (p := ⟨b2, o2 + i * 4 + 2, none⟩) l2).trans e2
      replace e3 := (hbel.cell (p := ⟨b2, o2 + i * 4 + 3, none⟩) l2).trans e3
      clear c1 c2 HA HB
      generalize (⟨L[i].s.toArray⟩ : ByteArray) = Y at *
      generalize L[i].step = st at *
      generalize L[i].kind = kd at *
      generalize L[i].n = nn at *
      clear hiL HN
      go_wp2_with fail
      go_region
      go_wp2_with fail
      go_roundw
      case rel => exact ⟨i + 1, by omega, by go_num, hbel.drew⟩
      case measure => simp [intOf]; omega
    · have hlt' : ¬ ((i : Int) < n) := by omega
      clear HA HB HN
      go_wp2_with fail
      go_ret
      exact ⟨rfl, hbel⟩
end Go.Proofs.Ytmjmlccdgdakdaa.T
