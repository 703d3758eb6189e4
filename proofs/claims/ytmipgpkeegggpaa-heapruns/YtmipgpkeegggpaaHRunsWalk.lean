-- PROVED: HeapRuns, walked.
import Derived.Test.YtmipgpkeegggpaaHRun
import Derived.Lib.BufferMore
namespace Go.Proofs.Ytmipgpkeegggpaa.P
open Go.RowKit Hq
set_option linter.unusedVariables false
theorem nil_eq (W : World) : (binOp BinOp.eql 22 (.slice none 0 0) (.slice none 0 0)).run Try.prog W = .ok (.bool true) W := Lib.run_eql_slice_nil_nil W _ _ Try.underlying22
section
variable {base H A : Nat} {w w' : World} {vW m vS : Value} {W : List Cl} {mk : Bool}
set_option maxRecDepth 100000 in
set_option maxHeartbeats 2000000 in
theorem hcells_none (w : World) : Calls Try.prog 18 #[.pointer none] w fun e w' => ∃ a, e = .returned (.slice a 0 0) ∧ Hid (Below w.heap.size w w') := by
  obtain ⟨arr, hmk, -⟩ := makeC (base := w.heap.size) w 0 (by omega) (Nat.le_refl _)
  rw [show ((0 : Nat) : Int) = 0 from rfl] at hmk
  have HB1 : Hid (Below w.heap.size w (w.alloc (.cells arr 30))) := (Below.refl _ _).alloc (Nat.le_refl _) _
  go_enter Try.func18, Try.ntmps18
  go_wp2_with fail
  refine Calls.mono (bookOf_none _) ?_
  rintro e w1 ⟨rfl, rfl⟩
  go_wp2_with fail
  refine Calls.mono (len_none _) ?_
  rintro e w1 ⟨rfl, rfl⟩
  go_wp2_with fail
  go_loop [13] (fun i => i = .int .i64 0) (fun _ => 0)
  case atStart => rfl
  case round =>
    subst hrel
    go_wp2_with fail
    go_ret
    exact ⟨⟨_, rfl⟩, HB1⟩
theorem run_cells (h : RunS base w H A vW W m vS mk) (hl : W.length ≤ 4000) : Calls Try.prog 18 #[.pointer (some ⟨H, 0, none⟩)] w fun e w' => ∃ a cap, e = .returned (.slice a W.length cap) ∧ Hid (Calls Try.prog 17 #[.slice a W.length cap, vW] w' fun e w'' => e = .returned (.bool true) ∧ Below w'.heap.size w' w'') ∧ Hid (Below w.heap.size w w') := by
  obtain ⟨b, bs, h1, h2, h3, h4, h5, h6⟩ := h.sys
  refine (hcells h1 h2 h3 h.hp h5.1.symm (fun k hk => h5.2 k (by rw [← h5.1]; exact hk))).mono ?_
  rintro e w' ⟨r, rfl, ho, hb⟩
  obtain ⟨a, cap, rfl⟩ := ho.out.form
  exact ⟨a, cap, rfl, sameCells (Nat.le_trans h.size hb.out.size) ho.out (h.oc.keep (S := []) (keepB h.size hb.out) (by simp) (by simp)) (by omega), hb⟩
theorem run_none (h : RunS base w H A vW W m vS false) : m = .pointer none ∧ vS = .slice none 0 0 := by
  obtain ⟨b, bs, h1, h2, h3, h4, h5, m1, m2, _⟩ := h.sys
  exact ⟨m1, m2⟩
/-- The mark's cells are those that were. -/
theorem run_was (h : RunS base w H A vW W m vS true) : ∃ Hm n cap a, m = .pointer (some ⟨Hm, 0, none⟩) ∧ vS = .slice a n cap ∧ (n ≤ 4096 → Calls Try.prog 18 #[.pointer (some ⟨Hm, 0, none⟩)] w fun e w' => ∃ a' cap', e = .returned (.slice a' n cap') ∧ Hid (Calls Try.prog 17 #[.slice a' n cap', .slice a n cap] w' fun e w'' => e = .returned (.bool true) ∧ Below w'.heap.size w' w'') ∧ Hid (Below w.heap.size w w')) ∧ n ≤ 4096 := by
  obtain ⟨b, bs, h1, h2, h3, h4, h5, Hm, A', M, Was, rfl, m2, m3, m4, m5, m6, m7, m8⟩ := h.sys
  obtain ⟨a, cap, rfl⟩ := m7.form
  refine ⟨Hm, Was.length, cap, a, rfl, rfl, fun hn => ?_, by rw [← m6.1]; exact (h1.ok 1 M m2).1⟩
  refine (hcells h1 m2 m4 m5 m6.1.symm (fun k hk => m6.2 k (by rw [← m6.1]; exact hk))).mono ?_
  rintro e w' ⟨r, rfl, ho, hb⟩
  obtain ⟨a', cap', rfl⟩ := ho.out.form
  exact ⟨a', cap', rfl, sameCells (Nat.le_trans h.size hb.out.size) ho.out (m7.keep (S := []) (keepB h.size hb.out) (by simp) (by simp)) (by omega), hb⟩
end
theorem IsCells.at_ {w : World} {ad : Option Addr} {cap : Nat} {L : List Cl} (h : IsCells w ad L.length cap L) {t : Nat} (ht : t < L.length) : ∃ b off aK kK aV kV, ad = some ⟨b, off, none⟩ ∧ b < w.heap.size ∧ ∀ wr, Below w.heap.size w wr →
    wr.cell? ⟨b, off + t * 5, none⟩ = some (.int .i64 L[t].kind) ∧ wr.cell? ⟨b, off + t * 5 + 1, none⟩ = some (.int .i64 L[t].a) ∧ wr.cell? ⟨b, off + t * 5 + 2, none⟩ = some (.int .i64 L[t].b) ∧ wr.cell? ⟨b, off + t * 5 + 3, none⟩ = some (.slice aK L[t].keys.length kK) ∧ wr.cell? ⟨b, off + t * 5 + 4, none⟩ = some (.slice aV L[t].vals.length kV) ∧
    (L[t].keys.length ≤ 1000 → L[t].vals.length ≤ 1000 → Parts w.heap.size wr (.slice aK L[t].keys.length kK) (.slice aV L[t].vals.length kV) L[t]) := by
  obtain ⟨_, _, _, h4⟩ := h
  obtain ⟨b, off, rfl, h5, h6⟩ := h4.resolve_left (by omega)
  obtain ⟨vK, vV, c0, c1, c2, c3, c4, c5, c6⟩ := h6 t ht
  obtain ⟨aK, kK, rfl, -⟩ := id c5
  obtain ⟨aV, kV, rfl, -⟩ := id c6
  refine ⟨b, off, aK, kK, aV, kV, rfl, h5, fun wr hb => ?_⟩
  have e : ∀ i, wr.cell? ⟨b, i, none⟩ = w.cell? ⟨b, i, none⟩ := fun i => hb.cell h5
  have kk : Keep [] w.heap.size w wr := keepB (Nat.le_refl _) hb
  exact ⟨by rw [e, c0], by rw [e, c1], by rw [e, c2], by rw [e, c3], by rw [e, c4], fun h1 h2 => ⟨c5.keep kk (by simp), c6.keep kk (by simp), h1, h2⟩⟩
theorem IsNums.at_ {w : World} {ad : Option Addr} {cap : Nat} {Z : List Int} (h : IsNums w ad Z.length cap Z) {t : Nat} (ht : t < Z.length) : ∃ b off, ad = some ⟨b, off, none⟩ ∧ b < w.heap.size ∧ Fit Z[t] ∧ ∀ wr, Below w.heap.size w wr → wr.cell? ⟨b, off + t, none⟩ = some (.int .i64 Z[t]) := by
  obtain ⟨_, _, _, h4⟩ := h
  obtain ⟨b, off, rfl, h5, h6⟩ := h4.resolve_left (by omega)
  obtain ⟨c0, c1⟩ := h6 t ht
  exact ⟨b, off, rfl, h5, c1, fun wr hb => (hb.cell (p := ⟨b, off + t, none⟩) h5).trans c0⟩
set_option maxRecDepth 100000 in
set_option maxHeartbeats 8000000 in
theorem hruns_walk (al : Option Addr) (ll cl : Nat) (L : List Cl) (aa : Option Addr) (la ca : Nat) (Z : List Int) (q : Int) (w : World) (hl : IsCells w al ll cl L) (hz : IsNums w aa la ca Z) (hq : 0 ≤ q ∧ q ≤ 255) :
    Calls Try.prog 3 #[.slice al ll cl, .slice aa la ca, .int .u8 q] w fun e w' => e = .returned (.bool true) ∧ Below w.heap.size w w' := by
  obtain rfl := hl.1
  obtain rfl := hz.1
  have hlm : L.length ≤ maxLen := Nat.le_trans hl.2.1 hl.2.2.1
  have hzm : Z.length ≤ maxLen := Nat.le_trans hz.2.1 hz.2.2.1
  unfold maxLen at hlm hzm
  have HL : Hid (IsCells w al L.length cl L) := hl
  have HZ : Hid (IsNums w aa Z.length ca Z) := hz
  obtain ⟨hq0, hq1⟩ := hq
  obtain ⟨k0, hk0⟩ := Int.eq_ofNat_of_zero_le (show 0 ≤ q % 60 by omega)
  have HQ : Hid (q % 60 = (k0 : Int)) := hk0
  clear hl hz hk0
  go_enter Try.func3, Try.ntmps3
  go_wp2_with fail
  refine Calls.mono (hnew (sys_nil w) (by simp)) ?_
  rintro e w1 ⟨H, A, rfl, b, HS1, HF1, HH1, HQ1, HB1⟩
  have HRS : Hid (RunS w.heap.size w1 H A (.slice none 0 0) [] (.pointer none) (.slice none 0 0) false) := (show RunS _ _ _ _ _ _ _ _ _ from
    ⟨⟨b, [b], HS1.out, rfl, HF1.out.at_, HF1.out.opn, ⟨HF1.out.len, fun k hk => by simp at hk⟩, rfl, rfl, rfl⟩, HH1.out, OC.nil _ _, HB1.out.size⟩)
  clear HS1 HF1 HH1 HQ1
  by_cases hA : L.length > 60 ∨ Z.length > 60
  · rcases hA with hA | hA
    · have hA' : (L.length : Int) > 60 := by omega
      go_wp2_with (first | (go_at_call 10; refine Calls.mono (hawake_any _) ?_; rintro e w12 ⟨rfl, HB12⟩))
      go_ret
      exact ⟨rfl, Below.chain HB1.out HB12 HB1.out.size⟩
    · have hA' : (Z.length : Int) > 60 := by omega
      by_cases hA2 : L.length > 60
      all_goals
        have hA3 : (L.length : Int) > 60 ∨ ¬ (L.length : Int) > 60 := Classical.em _
        rcases hA3 with hA3 | hA3
        all_goals first
          | omega
          | (go_wp2_with (first | (go_at_call 10; refine Calls.mono (hawake_any _) ?_; rintro e w12 ⟨rfl, HB12⟩))
             go_ret
             exact ⟨rfl, Below.chain HB1.out HB12 HB1.out.size⟩)
  · obtain ⟨hA1, hA2⟩ := not_or.mp hA
    have hA1' : ¬ (L.length : Int) > 60 := by omega
    have hA2' : ¬ (Z.length : Int) > 60 := by omega
    clear hA
    go_wp2_with fail
    go_loop [8] (fun i => ∃ t : Nat, i = .int .i64 (t : Int) ∧ t ≤ L.length ∧ Hid (∀ j (h : j < L.length), j < t → L[j].keys.length ≤ 5 ∧ L[j].vals.length ≤ 9)) (fun i => L.length - (intOf i).toNat)
    case atStart => exact ⟨0, rfl, by omega, fun j _ h => by omega⟩
    case round =>
      obtain ⟨t, rfl, ht, HT⟩ := hrel
      by_cases hlt : t < L.length
      · have hlt' : (t : Int) < (L.length : Int) := by omega
        obtain ⟨b, off, aK, kK, aV, kV, rfl, hb0, hc⟩ := HL.out.at_ hlt
        obtain ⟨c0, c1, c2, c3, c4, -⟩ := hc w1 HB1.out
        have lb := Nat.lt_of_lt_of_le hb0 HB1.out.size
        have HN : Hid (L[t].keys.length ≤ 5 → L[t].vals.length ≤ 9 → ∀ j (h : j < L.length), j < t + 1 → L[j].keys.length ≤ 5 ∧ L[j].vals.length ≤ 9) := fun h h' j hj hjt => by
          by_cases e : j = t
          · subst e; exact ⟨h, h'⟩
          · exact HT.out j hj (by omega)
        clear hc HT
        generalize L[t].vals.length = nV at *
        generalize L[t].keys.length = nK at *
        by_cases hv : nK > 5
        · have hv' : (nK : Int) > 5 := by omega
          go_wp2_with (first | (go_at_call 10; refine Calls.mono (hawake_any _) ?_; rintro e w12 ⟨rfl, HB12⟩))
          go_ret
          exact ⟨rfl, Below.chain HB1.out HB12 HB1.out.size⟩
        · have hv' : ¬ (nK : Int) > 5 := by omega
          by_cases hv2 : nV > 9
          · have hv2' : (nV : Int) > 9 := by omega
            go_wp2_with (first | (go_at_call 10; refine Calls.mono (hawake_any _) ?_; rintro e w12 ⟨rfl, HB12⟩))
            go_ret
            exact ⟨rfl, Below.chain HB1.out HB12 HB1.out.size⟩
          · have hv2' : ¬ (nV : Int) > 9 := by omega
            go_wp2_with fail
            go_round
            case rel => exact ⟨t + 1, by go_num, by omega, HN.out (by omega) (by omega)⟩
            case measure => simp [intOf]; omega
      · have HALL : Hid (∀ j (h : j < L.length), L[j].keys.length ≤ 5 ∧ L[j].vals.length ≤ 9) := fun j hj => HT.out j hj (by omega)
        have hlt' : ¬ (t : Int) < (L.length : Int) := by omega
        clear HT
        go_wp2_with fail
        go_loopw [9, 10, 11, 12] (fun vW vS m i wr => ∃ (t : Nat) (W : List Cl) (mk : Bool), i = .int .i64 (t : Int) ∧ t ≤ L.length ∧ W.length ≤ t ∧ Hid (mk = true → k0 < t) ∧ Hid (RunS w.heap.size wr H A vW W m vS mk) ∧ Hid (Below w.heap.size w wr)) (fun _ _ _ i _ => L.length - (intOf i).toNat)
        case atStart => exact ⟨0, [], false, rfl, by omega, by simp, (fun h => by cases h), HRS, HB1⟩
        case round =>
          clear HRS HB1 hlt' hlt ht
          obtain ⟨t, W, mk, rfl, ht, hW, HMK, HRS, HB⟩ := hrel
          by_cases hlt : t < L.length
          · have hlt' : (t : Int) < (L.length : Int) := by omega
            obtain ⟨lb, off, aK, kK, aV, kV, rfl, hb0, hcs⟩ := HL.out.at_ hlt
            have HCS : Hid (∀ wr, Below w.heap.size w wr → (wr.cell? ⟨lb, off + t * 5, none⟩ = some (.int .i64 L[t].kind) ∧ wr.cell? ⟨lb, off + t * 5 + 1, none⟩ = some (.int .i64 L[t].a) ∧ wr.cell? ⟨lb, off + t * 5 + 2, none⟩ = some (.int .i64 L[t].b) ∧ wr.cell? ⟨lb, off + t * 5 + 3, none⟩ = some (.slice aK L[t].keys.length kK) ∧ wr.cell? ⟨lb, off + t * 5 + 4, none⟩ = some (.slice aV L[t].vals.length kV)) ∧ lb < wr.heap.size ∧ Parts w.heap.size wr (.slice aK L[t].keys.length kK) (.slice aV L[t].vals.length kV) L[t]) := fun wr hb => by
              obtain ⟨c0, c1, c2, c3, c4, c5⟩ := hcs wr hb
              have := HALL.out t hlt
              exact ⟨⟨c0, c1, c2, c3, c4⟩, Nat.lt_of_lt_of_le hb0 hb.size, c5 (by omega) (by omega)⟩
            have HLB : Hid (lb < w.heap.size) := hb0
            clear hcs hb0
            obtain ⟨aw, cw, rfl⟩ := HRS.out.oc.form
            generalize hcL : L[t] = c at HCS
            clear hcL
            by_cases hcut : t = k0
            case' pos =>
              have hqe : q % 60 = (t : Int) := by rw [HQ.out, hcut]
              have hmk : mk = false := by
                cases mk
                · rfl
                · have := HMK.out rfl; omega
              subst hmk
              have HM : Hid (_) := run_mark HRS.out (by omega)
              have HMq : Hid (true = true → k0 < t + 1) := (fun _ => by omega)
              clear hcut
              go_wp2_with fail
              refine Calls.mono HM.out ?_
              rintro e w2 ⟨Hm, rfl, HX⟩
              obtain ⟨a3, cap3, wq, hr, hrs, hb⟩ := HX.out
              have HR : Hid (_) := hr
              have HRq : Hid (RunS w.heap.size wq H A (.slice aw W.length cw) W (.pointer (some ⟨Hm, 0, none⟩)) (.slice a3 W.length cap3) true) := hrs
              have HBq : Hid (Below w.heap.size w wq) := HB.out.trans hb
              clear hr hrs hb HX HM HRS HB HMK
              go_upto_region 17 with (at_builtin; refine wpList_append_run _ _ 22 rfl rfl _ _ _ _ rfl rfl HR.out ?_)
              clear HR hqe
            case' neg =>
              have hqe : q % 60 = (k0 : Int) := HQ.out
              have hne : ¬ (t : Int) = (k0 : Int) := by omega
              have hne2 : ((t : Int) == (k0 : Int)) = false := by simpa using hne
              have HMq : Hid (mk = true → k0 < t + 1) := (fun h => by have := HMK.out h; omega)
              obtain ⟨wq, hwq⟩ : ∃ wq, wq = wr := ⟨_, rfl⟩
              subst hwq
              have HRq : Hid (RunS w.heap.size wq H A (.slice aw W.length cw) W _ _ mk) := HRS.out
              have HBq : Hid (Below w.heap.size w wq) := HB.out
              clear HRS HB HMK hcut
              go_upto_region 17 with fail
              clear hqe hne hne2
            all_goals
              clear HQ
              obtain ⟨⟨c0, c1, c2, c3, c4⟩, lc, hP⟩ := HCS.out wq HBq.out
              have HP : Hid (Parts w.heap.size wq (.slice aK c.keys.length kK) (.slice aV c.vals.length kV) c) := hP
              clear hP
              by_cases hz : t < Z.length
              · have hz' : (t : Int) < (Z.length : Int) := by omega
                obtain ⟨zb, zo, rfl, hzb, hfit, hzc⟩ := HZ.out.at_ hz
                have z0 := hzc wq HBq.out
                have lz := Nat.lt_of_lt_of_le hzb HBq.out.size
                obtain ⟨hf1, hf2⟩ := hfit
                clear hzc hzb
                generalize Z[t] = x at *
                have ht1 : -3 < x.tmod 3 := by have := Int.tmod_lt_of_pos (-x) (show (0 : Int) < 3 by omega); rw [Int.neg_tmod] at this; omega
                have ht2 : x.tmod 3 < 3 := Int.tmod_lt_of_pos x (by omega)
                by_cases h3 : x.tmod 3 = 0
                · by_cases hin : 1 ≤ x ∧ x ≤ (W.length : Int)
                  · obtain ⟨hin1, hin2⟩ := hin
                    obtain ⟨k, rfl⟩ : ∃ k : Nat, x = (k : Int) + 1 := ⟨x.toNat - 1, by omega⟩
                    have hk : k < W.length := by omega
                    have HSt : Hid (_) := run_store HRq.out hk (K := (k : Int) + 1) (by rw [IntKind.wrap_i64]; omega) HP.out
                    have hk1 : (k : Int) + 1 - 1 = (k : Int) := by omega
                    have hk2 : (k : Int) + 1 ≥ 1 := by omega
                    have hk3 : (k : Int) < (W.length : Int) := by omega
                    go_wp2_with fail
                    refine Calls.mono HSt.out ?_
                    rintro e w2 ⟨rfl, HX, HBX⟩
                    obtain ⟨g, cap, e, lg, fz, cells, hrs, hb⟩ := HX.out
                    injection e with e1 e3 e2
                    subst e1 e2
                    clear e3 c0 c1 c2 c3 c4 lc
                    obtain ⟨⟨c0, c1, c2, c3, c4⟩, lc, -⟩ := HCS.out w2 (HBq.out.trans HBX.out)
                    obtain ⟨u0', d0⟩ := cells 0 (by omega)
                    obtain ⟨u1', d1⟩ := cells 1 (by omega)
                    obtain ⟨u2', d2⟩ := cells 2 (by omega)
                    obtain ⟨u3', d3⟩ := cells 3 (by omega)
                    obtain ⟨u4', d4⟩ := cells 4 (by omega)
                    rw [Nat.add_zero] at d0
                    have q0 := fz (k * 5)
                    have q1 := fz (k * 5 + 1)
                    have q2 := fz (k * 5 + 2)
                    have q3 := fz (k * 5 + 3)
                    have q4 := fz (k * 5 + 4)
                    have HRz : Hid (RunS _ _ _ _ _ _ _ _ _) := hrs
                    have HBz : Hid (Below w.heap.size w _) := HBq.out.trans hb
                    have HWz : Hid ((W.set k c).length ≤ t + 1) := (show _ ≤ _ from by rw [List.length_set]; omega)
                    clear cells fz hrs hb HX HBX HSt HP z0 lz HRq
                    go_upto_region 28 with (first | (go_at_call 12; refine Calls.mono (err_any _ _) ?_; rintro e w9 ⟨rfl, rfl⟩))
                    generalize (((((w9.setCell ⟨g, k * 5, none⟩ (.int .i64 c.kind)).setCell ⟨g, k * 5 + 1, none⟩ (.int .i64 c.a)).setCell ⟨g, k * 5 + 2, none⟩ (.int .i64 c.b)).setCell ⟨g, k * 5 + 3, none⟩ (.slice aK c.keys.length kK)).setCell ⟨g, k * 5 + 4, none⟩ (.slice aV c.vals.length kV)) = wz at *
                    go_wp2_with fail
                    refine Calls.mono (run_load HRz.out _ (by rw [IntKind.wrap_i64]; simp; omega)) ?_
                    rintro e w5 ⟨rfl, HR5, HB5⟩
                    have HB5' : Hid (Below w.heap.size w _) := Below.chain HBz.out HB5.out HBz.out.size
                    clear HB5 HRz HBz
                    go_wp2_with fail
                    generalize (w5.alloc (.cells #[.int .i64 0, .int .i64 0, .int .i64 0, .slice none 0 0, .slice none 0 0] 30)) = v5 at *
                    refine Calls.mono (run_load HR5.out _ (by rw [IntKind.wrap_i64]; simp)) ?_
                    rintro e w6 ⟨rfl, HR6, HB6⟩
                    have HB6' : Hid (Below w.heap.size w _) := Below.chain HB5'.out HB6.out HB5'.out.size
                    clear HB6 HR5 HB5'
                    have HLN : Hid (_) := run_len HR6.out
                    simp only [List.length_set] at HLN
                    try rw [Int.natCast_add, Int.natCast_one] at HLN
                    go_wp2_with (first | (go_at_call 12; refine Calls.mono (err_any _ _) ?_; rintro e w9 ⟨rfl, rfl⟩) | (go_at_call 16; refine Calls.mono HLN.out ?_; rintro e w9 ⟨rfl, rfl⟩))
                    go_roundw
                    case rel => exact ⟨t + 1, _, _, by go_num, by omega, HWz.out, (fun hmk => HMq.out (by first | exact trivial | exact hmk)), HR6, HB6'⟩
                    case measure => simp [intOf]; omega
                  · have HSt : Hid (_) := run_store_no HRq.out x (by rw [IntKind.wrap_i64]; omega) HP.out
                    have hxx : (¬ x ≥ 1) ∨ (x ≥ 1 ∧ ¬ x ≤ (W.length : Int)) := by omega
                    clear hin
                    rcases hxx with hx1 | ⟨hx1, hx2⟩
                    all_goals
                      go_wp2_with fail
                      refine Calls.mono HSt.out ?_
                      rintro e wz ⟨rfl, HRz, HBX⟩
                      have HBz : Hid (Below w.heap.size w wz) := Below.chain HBq.out HBX.out HBq.out.size
                      have HWz : Hid (W.length ≤ t + 1) := (show _ ≤ _ from by omega)
                      clear HBX HSt HP z0 lz HRq c0 c1 c2 c3 c4 lc
                      go_upto_region 28 with (first | (go_at_call 12; refine Calls.mono (err_any _ _) ?_; rintro e w9 ⟨rfl, rfl⟩))
                      go_wp2_with fail
                      refine Calls.mono (run_load HRz.out _ (by rw [IntKind.wrap_i64]; simp; omega)) ?_
                      rintro e w5 ⟨rfl, HR5, HB5⟩
                      have HB5' : Hid (Below w.heap.size w _) := Below.chain HBz.out HB5.out HBz.out.size
                      clear HB5 HRz HBz
                      go_wp2_with fail
                      generalize (w5.alloc (.cells #[.int .i64 0, .int .i64 0, .int .i64 0, .slice none 0 0, .slice none 0 0] 30)) = v5 at *
                      refine Calls.mono (run_load HR5.out _ (by rw [IntKind.wrap_i64]; simp)) ?_
                      rintro e w6 ⟨rfl, HR6, HB6⟩
                      have HB6' : Hid (Below w.heap.size w _) := Below.chain HB5'.out HB6.out HB5'.out.size
                      clear HB6 HR5 HB5'
                      have HLN : Hid (_) := run_len HR6.out
                      skip
                      try rw [Int.natCast_add, Int.natCast_one] at HLN
                      go_wp2_with (first | (go_at_call 12; refine Calls.mono (err_any _ _) ?_; rintro e w9 ⟨rfl, rfl⟩) | (go_at_call 16; refine Calls.mono HLN.out ?_; rintro e w9 ⟨rfl, rfl⟩))
                      go_roundw
                      case rel => exact ⟨t + 1, _, _, by go_num, by omega, HWz.out, (fun hmk => HMq.out (by first | exact trivial | exact hmk)), HR6, HB6'⟩
                      case measure => simp [intOf]; omega
                · have h3' : (x.tmod 3 == 0) = false := by simp [h3]
                  have HAl : Hid (_) := run_alloc HRq.out (by omega) HP.out
                  go_wp2_with fail
                  refine Calls.mono HAl.out ?_
                  rintro e w2 ⟨rfl, HX, HBX⟩
                  obtain ⟨a5, cap5, wz, hr, hrs, hb⟩ := HX.out
                  have HR : Hid (_) := hr
                  have HRz : Hid (RunS _ _ _ _ _ _ _ _ _) := hrs
                  have HBz : Hid (Below w.heap.size w wz) := HBq.out.trans hb
                  have HWz : Hid ((W ++ [c]).length ≤ t + 1) := (show _ ≤ _ from by rw [List.length_append, List.length_singleton]; omega)
                  clear c0 c1 c2 c3 c4 lc hr hrs hb z0 lz
                  obtain ⟨⟨c0, c1, c2, c3, c4⟩, lc, -⟩ := HCS.out w2 (HBq.out.trans HBX.out)
                  clear HX HBX HAl HP HRq
                  go_upto_region 28 with (first | (at_builtin; refine wpList_append_run _ _ 22 rfl rfl _ _ _ _ rfl rfl HR.out ?_) | (go_at_call 12; refine Calls.mono (err_any _ _) ?_; rintro e w9 ⟨rfl, rfl⟩))
                  clear HR c0 c1 c2 c3 c4 lc
                  go_wp2_with fail
                  refine Calls.mono (run_load HRz.out _ (by rw [IntKind.wrap_i64]; simp; omega)) ?_
                  rintro e w5 ⟨rfl, HR5, HB5⟩
                  have HB5' : Hid (Below w.heap.size w _) := Below.chain HBz.out HB5.out HBz.out.size
                  clear HB5 HRz HBz
                  go_wp2_with fail
                  generalize (w5.alloc (.cells #[.int .i64 0, .int .i64 0, .int .i64 0, .slice none 0 0, .slice none 0 0] 30)) = v5 at *
                  refine Calls.mono (run_load HR5.out _ (by rw [IntKind.wrap_i64]; simp)) ?_
                  rintro e w6 ⟨rfl, HR6, HB6⟩
                  have HB6' : Hid (Below w.heap.size w _) := Below.chain HB5'.out HB6.out HB5'.out.size
                  clear HB6 HR5 HB5'
                  have HLN : Hid (_) := run_len HR6.out
                  simp only [List.length_append, List.length_singleton] at HLN
                  try rw [Int.natCast_add, Int.natCast_one] at HLN
                  go_wp2_with (first | (go_at_call 12; refine Calls.mono (err_any _ _) ?_; rintro e w9 ⟨rfl, rfl⟩) | (go_at_call 16; refine Calls.mono HLN.out ?_; rintro e w9 ⟨rfl, rfl⟩))
                  go_roundw
                  case rel => exact ⟨t + 1, _, _, by go_num, by omega, HWz.out, (fun hmk => HMq.out (by first | exact trivial | exact hmk)), HR6, HB6'⟩
                  case measure => simp [intOf]; omega
              · have hz' : ¬ (t : Int) < (Z.length : Int) := by omega
                have HAl : Hid (_) := run_alloc HRq.out (by omega) HP.out
                go_wp2_with fail
                refine Calls.mono HAl.out ?_
                rintro e w2 ⟨rfl, HX, HBX⟩
                obtain ⟨a5, cap5, wz, hr, hrs, hb⟩ := HX.out
                have HR : Hid (_) := hr
                have HRz : Hid (RunS _ _ _ _ _ _ _ _ _) := hrs
                have HBz : Hid (Below w.heap.size w wz) := HBq.out.trans hb
                have HWz : Hid ((W ++ [c]).length ≤ t + 1) := (show _ ≤ _ from by rw [List.length_append, List.length_singleton]; omega)
                clear c0 c1 c2 c3 c4 lc hr hrs hb 
                obtain ⟨⟨c0, c1, c2, c3, c4⟩, lc, -⟩ := HCS.out w2 (HBq.out.trans HBX.out)
                clear HX HBX HAl HP HRq
                go_upto_region 28 with (first | (at_builtin; refine wpList_append_run _ _ 22 rfl rfl _ _ _ _ rfl rfl HR.out ?_) | (go_at_call 12; refine Calls.mono (err_any _ _) ?_; rintro e w9 ⟨rfl, rfl⟩))
                clear HR c0 c1 c2 c3 c4 lc
                go_wp2_with fail
                refine Calls.mono (run_load HRz.out _ (by rw [IntKind.wrap_i64]; simp; omega)) ?_
                rintro e w5 ⟨rfl, HR5, HB5⟩
                have HB5' : Hid (Below w.heap.size w _) := Below.chain HBz.out HB5.out HBz.out.size
                clear HB5 HRz HBz
                go_wp2_with fail
                generalize (w5.alloc (.cells #[.int .i64 0, .int .i64 0, .int .i64 0, .slice none 0 0, .slice none 0 0] 30)) = v5 at *
                refine Calls.mono (run_load HR5.out _ (by rw [IntKind.wrap_i64]; simp)) ?_
                rintro e w6 ⟨rfl, HR6, HB6⟩
                have HB6' : Hid (Below w.heap.size w _) := Below.chain HB5'.out HB6.out HB5'.out.size
                clear HB6 HR5 HB5'
                have HLN : Hid (_) := run_len HR6.out
                simp only [List.length_append, List.length_singleton] at HLN
                try rw [Int.natCast_add, Int.natCast_one] at HLN
                go_wp2_with (first | (go_at_call 12; refine Calls.mono (err_any _ _) ?_; rintro e w9 ⟨rfl, rfl⟩) | (go_at_call 16; refine Calls.mono HLN.out ?_; rintro e w9 ⟨rfl, rfl⟩))
                go_roundw
                case rel => exact ⟨t + 1, _, _, by go_num, by omega, HWz.out, (fun hmk => HMq.out (by first | exact trivial | exact hmk)), HR6, HB6'⟩
                case measure => simp [intOf]; omega
          · have hlt' : ¬ (t : Int) < (L.length : Int) := by omega
            obtain ⟨aw, cw, rfl⟩ := HRS.out.oc.form
            have HC : Hid (_) := run_cells HRS.out (by omega)
            clear HL HZ HALL HQ HMK
            have hWl : W.length ≤ 60 := by omega
            cases mk with
            | false =>
              obtain ⟨rfl, rfl⟩ : _ ∧ _ := run_none HRS.out
              go_wp2_with fail
              refine Calls.mono HC.out ?_
              rintro e w2 ⟨a2, cap2, rfl, HSC, HB2⟩
              go_wp2_with fail
              refine Calls.mono HSC.out ?_
              rintro e w3 ⟨rfl, hb3⟩
              have HB3 : Hid (Below w.heap.size w w3) := Below.chain (Below.chain HB.out HB2.out HB.out.size) hb3 (Nat.le_trans HB.out.size HB2.out.size)
              clear hb3 HSC HB2 HC HB HRS
              have hne := nil_eq
              go_wp2_with fail
              refine Calls.mono (hlen_none _) ?_
              rintro e w9 ⟨rfl, rfl⟩
              go_wp2_with fail
              refine Calls.mono (hcells_none _) ?_
              rintro e w4 ⟨a4, rfl, hb4⟩
              have HB4 : Hid (Below w.heap.size w w4) := Below.chain HB3.out hb4.out HB3.out.size
              clear hb4 HB3
              go_wp2_with fail
              refine Calls.mono (hmark_none _) ?_
              rintro e w9 ⟨rfl, rfl⟩
              go_wp2_with fail
              refine Calls.mono (hawake_any _) ?_
              rintro e w12 ⟨rfl, hb12⟩
              have HB12 : Hid (Below w.heap.size w w12) := Below.chain HB4.out hb12 HB4.out.size
              clear hb12
              go_wp2_with fail
              go_ret
              exact ⟨rfl, HB12.out⟩
            | true =>
              have HRB : Hid (∀ W', Below wr.heap.size wr W' → RunS w.heap.size W' H A (.slice aw W.length cw) W _ _ true) := fun W' hb => HRS.out.below hb
              obtain ⟨Hm, nS, capS, aS, rfl, rfl, -, hnS⟩ := run_was HRS.out
              go_wp2_with fail
              refine Calls.mono HC.out ?_
              rintro e w2 ⟨a2, cap2, rfl, HSC, HB2⟩
              go_wp2_with fail
              refine Calls.mono HSC.out ?_
              rintro e w3 ⟨rfl, hb3⟩
              have hB23 : Below wr.heap.size wr w3 := Below.chain HB2.out hb3 HB2.out.size
              obtain ⟨Hm', nS', capS', aS', e1, e2, hcl, -⟩ := run_was (HRB.out w3 hB23)
              injection e1 with e1
              injection e1 with e1
              injection e1 with e1 e1b e1c
              injection e2 with e2 e3 e4
              subst e1 e2 e3 e4
              have HCL : Hid (_) := hcl hnS
              have HB3 : Hid (Below w.heap.size w w3) := Below.chain HB.out hB23 HB.out.size
              clear hb3 HSC HB2 HC HB HRS HRB hB23 hcl
              try clear e1b
              try clear e1c
              go_wp2_with fail
              refine Calls.mono HCL.out ?_
              rintro e w5 ⟨a5, cap5, rfl, HSC5, HB5⟩
              go_wp2_with fail
              refine Calls.mono HSC5.out ?_
              rintro e w6 ⟨rfl, hb6⟩
              have HB6 : Hid (Below w.heap.size w w6) := Below.chain (Below.chain HB3.out HB5.out HB3.out.size) hb6 (Nat.le_trans HB3.out.size HB5.out.size)
              clear hb6 HSC5 HB5 HCL HB3
              go_wp2_with fail
              refine Calls.mono (hlen_none _) ?_
              rintro e w9 ⟨rfl, rfl⟩
              go_wp2_with fail
              refine Calls.mono (hcells_none _) ?_
              rintro e w4 ⟨a4, rfl, hb4⟩
              have HB4 : Hid (Below w.heap.size w w4) := Below.chain HB6.out hb4.out HB6.out.size
              clear hb4 HB6
              go_wp2_with fail
              refine Calls.mono (hmark_none _) ?_
              rintro e w9 ⟨rfl, rfl⟩
              go_wp2_with fail
              refine Calls.mono (hawake_any _) ?_
              rintro e w12 ⟨rfl, hb12⟩
              have HB12 : Hid (Below w.heap.size w w12) := Below.chain HB4.out hb12 HB4.out.size
              clear hb12
              go_wp2_with fail
              go_ret
              exact ⟨rfl, HB12.out⟩
end Go.Proofs.Ytmipgpkeegggpaa.P
