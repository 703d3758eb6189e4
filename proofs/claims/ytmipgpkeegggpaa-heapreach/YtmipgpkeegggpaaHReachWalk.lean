-- PROVED: HeapReach, walked.
import Derived.Test.YtmipgpkeegggpaaHRef2
namespace Go.Proofs.Ytmipgpkeegggpaa.P
open Go.RowKit Hq
set_option linter.unusedVariables false
theorem VB.wide {base : Nat} {w : World} {v : Value} {L : List Vl} (h : VB base w v L) : VB w.heap.size w v L := by
  obtain ⟨a, cap, h1, h2⟩ := h
  refine ⟨a, cap, h1, h2.imp id ?_⟩
  rintro ⟨b, off, h3, h4, h5, h6⟩
  exact ⟨b, off, h3, h5, h5, h6⟩
theorem CB.wide {base : Nat} {w : World} {v : Value} {L : List Cl} (h : CB base w v L) : CB w.heap.size w v L := by
  obtain ⟨a, cap, h1, h2⟩ := h
  refine ⟨a, cap, h1, h2.imp id ?_⟩
  rintro ⟨b, off, h3, h4, h5, h6⟩
  refine ⟨b, off, h3, h5, h5, fun j hj => ?_⟩
  obtain ⟨aK, nK, kK, vV, c0, c1, c2, c3, c4, c5⟩ := h6 j hj
  exact ⟨aK, nK, kK, vV, c0, c1, c2, c3, c4, c5.wide⟩
set_option maxRecDepth 100000 in
set_option maxHeartbeats 4000000 in
theorem hreach_walk (al : Option Addr) (ll cl : Nat) (L : List Cl) (ar : Option Addr) (lr cr : Nat) (R : List Vl) (w : World) (hl : IsCells w al ll cl L) (hr : IsVals w ar lr cr R) :
    Calls Try.prog 4 #[.slice al ll cl, .slice ar lr cr] w fun e w' => e = .returned (.bool true) ∧ Below w.heap.size w w' := by
  obtain ⟨rfl, hrm, hr⟩ := hr
  have HL : Hid (Cs w.heap.size w (.slice al ll cl) L) := hl.cs
  have HR : Hid (Vals w.heap.size w (.slice ar R.length cr) R) := hr
  obtain ⟨hll, h2, h3, -⟩ := hl
  have hcr : R.length ≤ maxLen := hrm
  subst hll
  unfold maxLen at h3 hcr
  clear hr
  by_cases hA : L.length > 60
  · have hA' : (L.length : Int) > 60 := by omega
    go_enter Try.func4, Try.ntmps4
    go_wp2_with (first | (go_at_call 10; refine Calls.mono (hawake_any _) ?_; rintro e w12 ⟨rfl, HB12⟩))
    go_ret
    exact ⟨rfl, HB12⟩
  · have hA' : ¬ (L.length : Int) > 60 := by omega
    by_cases hB : R.length > 20
    · have hB' : (R.length : Int) > 20 := by omega
      go_enter Try.func4, Try.ntmps4
      go_wp2_with (first | (go_at_call 10; refine Calls.mono (hawake_any _) ?_; rintro e w12 ⟨rfl, HB12⟩))
      go_ret
      exact ⟨rfl, HB12⟩
    · have hB' : ¬ (R.length : Int) > 20 := by omega
      go_enter Try.func4, Try.ntmps4
      go_wp2_with fail
      go_loop [5] (fun i => ∃ t : Nat, i = .int .i64 (t : Int) ∧ t ≤ L.length ∧ Hid (∀ j (h : j < L.length), j < t → L[j].vals.length ≤ 20)) (fun i => L.length - (intOf i).toNat)
      case atStart => exact ⟨0, rfl, by omega, fun j _ h => by omega⟩
      case round =>
        obtain ⟨t, rfl, ht, HT⟩ := hrel
        by_cases hlt : t < L.length
        · have hlt' : (t : Int) < (L.length : Int) := by omega
          obtain ⟨a', cap', e, hx⟩ := HL.out
          injection e with e1 _ e2
          subst e1 e2
          obtain ⟨b, off, rfl, hb0, hb1, hc⟩ := hx.resolve_left (by omega)
          obtain ⟨aK, nK, kK, vV, c0, c1, c2, c3, c4, c5⟩ := hc t hlt
          obtain ⟨aV, kV, rfl, -⟩ := id c5
          have HN : Hid (L[t].vals.length ≤ 20 → ∀ j (h : j < L.length), j < t + 1 → L[j].vals.length ≤ 20) := fun h j hj hjt => by
            by_cases e : j = t
            · subst e; exact h
            · exact HT.out j hj (by omega)
          clear c5 hc hx HT
          generalize L[t].vals.length = nV at *
          by_cases hv : nV > 20
          · have hv' : (nV : Int) > 20 := by omega
            go_wp2_with (first | (go_at_call 10; refine Calls.mono (hawake_any _) ?_; rintro e w12 ⟨rfl, HB12⟩))
            go_ret
            exact ⟨rfl, HB12⟩
          · have hv' : ¬ (nV : Int) > 20 := by omega
            go_wp2_with fail
            go_round
            case rel => exact ⟨t + 1, by go_num, by omega, HN.out (by omega)⟩
            case measure => simp [intOf]; omega
        · have hall : ∀ c, c ∈ L → c.vals.length ≤ 20 := fun c hc => by
            obtain ⟨j, hj, rfl⟩ := List.getElem_of_mem hc
            exact HT.out j hj (by omega)
          have hlt' : ¬ (t : Int) < (L.length : Int) := by omega
          have H1 : Hid (_) := reach_any (base := w.heap.size) rfl HL.out (by omega) (fun c hc => by have := hall c hc; omega) HR.out (by omega)
          have HALL : Hid (∀ c, c ∈ L → c.vals.length ≤ 20) := hall
          clear hall HT
          go_wp2_with fail
          refine Calls.mono H1.out ?_
          rintro e w5 ⟨r5, A5, rfl, HN5, HA5, HB5⟩
          have H2 : Hid (_) := rreach_any (base := w5.heap.size) rfl (HL.out.cb.below HB5.out).wide (by omega) HALL.out (HR.out.vb.below HB5.out).wide (by omega)
          obtain ⟨a5, c5, rfl⟩ := nums_form HN5.out
          go_wp2_with fail
          refine Calls.mono H2.out ?_
          rintro e w7 ⟨r7, A7, rfl, HN7, HA7, HB7⟩
          have hN5 : w7.ownsRow w.heap.size 3 1 (.slice a5 A5.length c5) A5.length (nums A5) := own_same HN5.out fun g cur _ hg => HB7.out.block _ (heap_lt hg)
          have hAA : A7 = A5 := by
            obtain ⟨S5, e5, l5, o5⟩ := HA5.out
            obtain ⟨S7, e7, l7, o7⟩ := HA7.out
            rw [e5, e7, ← addT_all, ← addT_all, l5, l7]
            exact addT_congr fun x _ _ => (o7 x).trans (o5 x).symm
          have hlen : A5.length ≤ 60 := by
            obtain ⟨S5, e5, l5, o5⟩ := HA5.out
            rw [e5, ← addT_all]
            have := addT_le S5 S5.length
            omega
          subst hAA
          obtain ⟨a7, c7, rfl⟩ := nums_form HN7.out
          have H3 : Hid (_) := sameInts hN5 HN7.out (by omega)
          have HB7' : Hid (Below w.heap.size w w7) := Below.chain HB5.out HB7.out HB5.out.size
          clear H1 H2 HN5 HN7 hN5 HA5 HA7 HB5 HB7
          go_wp2_with fail
          refine Calls.mono H3.out ?_
          rintro e w8 ⟨rfl, hb8⟩
          have HB8 : Hid (Below w.heap.size w w8) := Below.chain HB7'.out hb8 HB7'.out.size
          clear hb8 HB7' H3
          go_wp2_with (first | (go_at_call 10; refine Calls.mono (hawake_any _) ?_; rintro e w12 ⟨rfl, HB12⟩))
          go_ret
          exact ⟨rfl, Below.chain HB8.out HB12 HB8.out.size⟩
end Go.Proofs.Ytmipgpkeegggpaa.P
