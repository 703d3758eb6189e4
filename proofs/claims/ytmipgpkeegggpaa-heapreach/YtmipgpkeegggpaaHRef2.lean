-- PROVED: the reference's Reach (6.2), walked.
import Derived.Test.YtmipgpkeegggpaaHRef
namespace Go.Proofs.Ytmipgpkeegggpaa.P
open Go.RowKit Hq
set_option linter.unusedVariables false
section
variable {base : Nat} {w w' : World}
theorem OV.at_ {v : Value} {L : List Vl} (h : OV base w v L) {j : Nat} (hj : j < L.length) : ∃ g cap, v = .slice (some ⟨g, 0, none⟩) L.length cap ∧ base ≤ g ∧ g < w.heap.size ∧ w.cell? ⟨g, j * 3, none⟩ = some (.int .i64 L[j].kind) ∧ w.cell? ⟨g, j * 3 + 1, none⟩ = some (.int .i64 L[j].n) ∧ w.cell? ⟨g, j * 3 + 2, none⟩ = some (.string L[j].s) := by
  rcases h.2 with ⟨_, e⟩ | ⟨g, cap, cur, e, e1, e2, _⟩
  · omega
  · have hc : ∀ i u, (vcells L)[i]? = some u → w.cell? ⟨g, i, none⟩ = some u := fun i u hu => by
      have := h.cells (g := g) (by rw [e]; rfl) i u hu
      rw [Go.WideShapes.add_plain, Nat.zero_add] at this
      exact this
    obtain ⟨c0, c1, c2⟩ := vcells_get hj
    exact ⟨g, cap, e, e1, heap_lt e2, hc _ _ c0, hc _ _ c1, hc _ _ c2⟩
theorem CB.at_ {v : Value} {L : List Cl} (h : CB base w v L) {j : Nat} (hj : j < L.length) : ∃ b off cap aK nK kK vV, v = .slice (some ⟨b, off, none⟩) L.length cap ∧ b < w.heap.size ∧
    w.cell? ⟨b, off + j * 5, none⟩ = some (.int .i64 L[j].kind) ∧ w.cell? ⟨b, off + j * 5 + 1, none⟩ = some (.int .i64 L[j].a) ∧ w.cell? ⟨b, off + j * 5 + 2, none⟩ = some (.int .i64 L[j].b) ∧ w.cell? ⟨b, off + j * 5 + 3, none⟩ = some (.slice aK nK kK) ∧ w.cell? ⟨b, off + j * 5 + 4, none⟩ = some vV ∧ VB base w vV L[j].vals := by
  obtain ⟨a, cap, h1, h2⟩ := h
  rcases h2 with h2 | ⟨b, off, h3, h4, h5, h6⟩
  · omega
  · obtain ⟨aK, nK, kK, vV, c⟩ := h6 j hj
    exact ⟨b, off, cap, aK, nK, kK, vV, by rw [h1, h3], h5, c⟩
set_option maxRecDepth 100000 in
set_option maxHeartbeats 4000000 in
theorem rreach_any {v u : Value} {L : List Cl} {R : List Vl} (hB : base = w.heap.size) (hv : CB base w v L) (hl : L.length ≤ 60) (hL : ∀ c, c ∈ L → c.vals.length ≤ 20) (hu : VB base w u R) (hR : R.length ≤ 20) :
    Calls Try.prog 21 #[v, u] w fun e w' => ∃ r A, e = .returned r ∧ Hid (w'.ownsRow base 3 1 r A.length (nums A)) ∧ Hid (∃ S : List Bool, A = addrs S ∧ S.length = L.length ∧ ∀ x, On S x ↔ Rch L.length (tv R) (outL L) x) ∧ Hid (Below base w w') := by
  obtain ⟨al, cl, rfl, -⟩ := id hv
  obtain ⟨au, cu, rfl, -⟩ := id hu
  have hmk := makeF w (L.length + 1) (by omega)
  rw [show ((L.length + 1 : Nat) : Int) = (L.length : Int) + 1 by push_cast; rfl] at hmk
  have b1 : Below base w (w.alloc (.cells (Array.replicate (L.length + 1) (.bool false)) 4)) := (Below.refl _ _).alloc (by rw [hB]; exact Nat.le_refl _) _
  have b2 : Below base w ((w.alloc (.cells (Array.replicate (L.length + 1) (.bool false)) 4)).alloc (.cells #[] 46)) := b1.alloc (by rw [hB]; exact b1.size) _
  have e1 := heap_alloc_new w (.cells (Array.replicate (L.length + 1) (.bool false)) 4)
  have e2 := Below.heap_alloc (w.alloc (.cells (Array.replicate (L.length + 1) (.bool false)) 4)) (.cells #[] 46) w.heap.size (by simp)
  obtain ⟨a3, cap3, w3, hr, ho, hk⟩ := (OV.new (base := base) (w := w.alloc (.cells (Array.replicate (L.length + 1) (.bool false)) 4)) (by rw [hB]; exact b1.size)).app (hu.below b2) (by rw [hB]; exact b2.size) (by simp; omega) 28
  have HF3 : Hid (Fl w3 base (false :: List.replicate L.length false)) := (show Fl _ _ _ from by
    have : Fl ((w.alloc (.cells (Array.replicate (L.length + 1) (.bool false)) 4)).alloc (.cells #[] 46)) base (false :: List.replicate L.length false) := by
      unfold Fl
      rw [hB, e2, e1]
      congr 2
      apply Array.ext'
      simp [List.replicate_succ]
    exact this.keep hk (by simp))
  have HO3 : Hid (OV base w3 (.slice a3 R.length cap3) R) := (show OV _ _ _ _ from by simpa using ho)
  have HB3 : Hid (Below base w w3) := b2.trans hk.bel
  have HSZ : Hid (base ≤ w.heap.size) := (show _ ≤ _ from by rw [hB]; exact Nat.le_refl _)
  have HV : Hid (CB base w (.slice al L.length cl) L) := hv
  have HL : Hid (∀ c, c ∈ L → c.vals.length ≤ 20) := hL
  simp at hr
  have HR : Hid (_) := hr
  clear hr ho hk b1 b2 e1 e2 hv hu hL
  go_enter Try.func21, Try.ntmps21
  go_upto_region 3 with (at_builtin; refine wpList_append_run _ _ 28 rfl rfl _ _ _ _ rfl rfl HR.out ?_)
  clear hmk HR
  rw [← hB]
  have HBE : Hid (base = w.heap.size) := hB
  clear hB
  go_wp2_with fail
  go_loopw [6, 7] (fun v i wr => ∃ (t : Nat) (S : List Bool) (Q : List Vl), i = .int .i64 (t : Int) ∧ Hid (RInv L.length R (outL L) 22 S Q t) ∧ Hid (OV base wr v Q) ∧ Hid (Fl wr base (false :: S)) ∧ Hid (Below base w wr)) (fun _ i _ => R.length + 22 * L.length + 1 - (intOf i).toNat)
  case atStart => exact ⟨0, _, R, rfl, RInv.start _ _ _ _, HO3, HF3, HB3⟩
  case round =>
    clear HO3 HF3 HB3
    obtain ⟨t, S, Q, rfl, HI, HO, HF, HB⟩ := hrel
    have hfew := HI.out.few
    have hle := HI.out.le
    have hlen := HI.out.len
    obtain ⟨a6, cap6, rfl⟩ := HO.out.form
    by_cases hlt : t < Q.length
    · have hlt' : (t : Int) < (Q.length : Int) := by omega
      obtain ⟨g, cap7, e, hg0, hg1, q0, q1, q2⟩ := HO.out.at_ hlt
      injection e with e1 _ e2
      subst e1 e2
      have HQ : Hid (Q[t]? = some Q[t]) := List.getElem?_eq_getElem hlt
      have HBs : Hid (base ≤ wr.heap.size) := (show base ≤ _ from by rw [HBE.out]; exact HB.out.size)
      have k1 : Keep [] base wr (wr.alloc (.cells #[.int .i64 Q[t].kind, .int .i64 Q[t].n, .string Q[t].s] 46)) := keepB HBs.out ((Below.refl _ _).alloc (Nat.le_refl _) _)
      have HO1 : Hid (OV base (wr.alloc (.cells #[.int .i64 Q[t].kind, .int .i64 Q[t].n, .string Q[t].s] 46)) (.slice (some ⟨g, 0, none⟩) Q.length cap6) Q) := HO.out.keep k1 (by simp)
      have HF1 : Hid (Fl (wr.alloc (.cells #[.int .i64 Q[t].kind, .int .i64 Q[t].n, .string Q[t].s] 46)) base (false :: S)) := HF.out.keep k1 (by simp)
      have HB1 : Hid (Below base w (wr.alloc (.cells #[.int .i64 Q[t].kind, .int .i64 Q[t].n, .string Q[t].s] 46))) := HB.out.trans k1.bel
      clear k1
      generalize hx : Q[t] = x at *
      clear hx
      obtain ⟨k, n, s⟩ := x
      simp only at q0 q1 q2 HO1 HF1 HB1
      by_cases h5 : k = 5 ∨ k = 6
      · have HT : Hid (to1 ⟨k, n, s⟩ = [n]) := (show _ = _ from by simp [to1, h5])
        by_cases hin : 1 ≤ n ∧ n ≤ (L.length : Int)
        · obtain ⟨hin1, hin2⟩ := hin
          obtain ⟨N, rfl⟩ := Int.eq_ofNat_of_zero_le (show 0 ≤ n by omega)
          have hN1 : 1 ≤ N := by omega
          have hm : N - 1 < S.length := by omega
          have hmL : N - 1 < L.length := by omega
          have hfl := HF.out.at_ (j := N) (x := S[N - 1]) (by
            rw [List.getElem?_cons, if_neg (by omega), List.getElem?_eq_getElem hm])
          obtain ⟨f1, f2, f3⟩ := hfl
          have e1 : ¬ ((N : Int) < 1) := by omega
          have e2 : ¬ ((N : Int) > (L.length : Int)) := by omega
          have e3 : (N : Int) - 1 = ((N - 1 : Nat) : Int) := by omega
          have e4 : (N : Int) < (L.length : Int) + 1 := by omega
          have e5 : ((N - 1 : Nat) : Int) < (L.length : Int) := by omega
          cases hb : S[N - 1] with
          | true =>
            rw [hb] at f1
            have HS : Hid (RInv L.length R (outL L) 22 S Q (t + 1)) := HI.out.skip HQ.out fun y hy _ _ => by
              rw [HT.out, List.mem_singleton] at hy
              have : y = N := by omega
              subst this
              exact ⟨by omega, by rw [List.getElem?_eq_getElem hm, hb]⟩
            clear HI hb hm
            rcases h5 with rfl | rfl
            all_goals
              go_wp2_with fail
              go_roundw
              case rel => exact ⟨t + 1, S, Q, by go_num, HS, HO1, HF1, HB1⟩
              case measure => simp [intOf]; omega
          | false =>
            rw [hb] at f1
            obtain ⟨b, off, capl, aK, nK, kK, vV, el, lb, c0, c1, c2, c3, c4, c5⟩ := (HV.out.below HB.out).at_ hmL
            injection el with el1 _ el2
            subst el1 el2
            obtain ⟨aV, kV, rfl, -⟩ := id c5
            have hbl : b < base := by
              obtain ⟨a', cap', e, h2⟩ := HV.out
              injection e with e _ _
              rcases h2 with h2 | ⟨b', off', h3, h4, _⟩
              · omega
              · rw [h3] at e; injection e with e; injection e with e _ _; omega
            have hbne : b ≠ base := by omega
            have HLD : Hid (∀ W, Below base w W → Calls Try.prog 43 #[.agg #[.int .i64 L[N - 1].kind, .int .i64 L[N - 1].a, .int .i64 L[N - 1].b, .slice aK nK kK, .slice aV L[N - 1].vals.length kV]] W fun e w' => ∃ r, e = .returned r ∧ Hid (OV W.heap.size w' r (leadsL L[N - 1])) ∧ Hid (Below W.heap.size W w')) := fun W hW =>
              leads_any (base := base) (by rw [HBE.out]; exact hW.size) (by
                obtain ⟨_, _, _, aK', nK', kK', vV', el', _, _, _, _, _, c4', c5'⟩ := (HV.out.below hW).at_ hmL
                injection el' with el1' _ el2'
                injection el1' with el1'
                injection el1' with e1' e2' _
                subst e1' e2'
                have := (HB.out.cell (p := ⟨b, off + (N - 1) * 5 + 4, none⟩) hbl).symm.trans c4
                have h2 := (hW.cell (p := ⟨b, off + (N - 1) * 5 + 4, none⟩) hbl).symm.trans c4'
                rw [this] at h2
                injection h2 with h2
                rw [h2]; exact c5') (by have := HL.out _ (List.getElem_mem hmL); omega)
            have HLN : Hid ((leadsL L[N - 1]).length ≤ 22) := (show _ ≤ _ from by have := HL.out _ (List.getElem_mem hmL); have := leads_len L[N - 1]; omega)
            have HAD : Hid (RInv L.length R (outL L) 22 (S.set (N - 1) true) (Q ++ leadsL L[N - 1]) (t + 1)) := HI.out.add HQ.out (k := N - 1) (by rw [HT.out, Nat.sub_add_cancel hN1]) (by rw [List.getElem?_eq_getElem hm, hb]) (by rw [leads_out, Nat.sub_add_cancel hN1, outL_at (List.getElem?_eq_getElem hmL)]) HLN.out
            have HFS : Hid (∀ W, Fl W base (false :: S) → Fl (W.setCell ⟨base, N, none⟩ (.bool true)) base (false :: S.set (N - 1) true)) := fun W hW => by
              have := hW.set N
              obtain ⟨M, rfl⟩ : ∃ M, N = M + 1 := ⟨N - 1, by omega⟩
              simpa using this
            have kW : Keep [4] base wr (wr.setCell ⟨base, N, none⟩ (.bool true)) := (Keep.refl _ _ _).set (p := ⟨base, N, none⟩) HF.out (by simp) (Nat.le_refl _) _
            have HWB : Hid (∀ o, Below base w ((wr.setCell ⟨base, N, none⟩ (.bool true)).alloc o)) := fun o => HB.out.trans (kW.alloc (by rw [size_set]; exact HBs.out) o).bel
            have hQM : Q.length + (leadsL L[N - 1]).length ≤ 1000000 := by have := HLN.out; omega
            have HCONT : Hid (∀ o w5 ar nr cr, OV ((wr.setCell ⟨base, N, none⟩ (.bool true)).alloc o).heap.size w5 (.slice ar nr cr) (leadsL L[N - 1]) → Below ((wr.setCell ⟨base, N, none⟩ (.bool true)).alloc o).heap.size ((wr.setCell ⟨base, N, none⟩ (.bool true)).alloc o) w5 →
                ∃ a cap w7, (Builtin.append_ #[28, 28] 28 #[.slice (some ⟨g, 0, none⟩) Q.length cap6, .slice ar nr cr]).run Try.prog w5 = .ok (.slice a (Q.length + (leadsL L[N - 1]).length) cap) w7 ∧ OV base w7 (.slice a (Q.length + (leadsL L[N - 1]).length) cap) (Q ++ leadsL L[N - 1]) ∧ Fl w7 base (false :: S.set (N - 1) true) ∧ Below base w w7) := fun o w5 ar nr cr h1 h2 => by
              have k2 : Keep [4] base wr w5 := (kW.alloc (by rw [size_set]; exact HBs.out) o).below (by simp; have := HBs.out; omega) h2
              have hf : Fl w5 base (false :: S.set (N - 1) true) := by
                have h3 := HFS.out wr HF.out
                have h4 : Fl ((wr.setCell ⟨base, N, none⟩ (.bool true)).alloc o) base (false :: S.set (N - 1) true) := (Below.heap_alloc _ _ _ (heap_lt h3)).trans h3
                exact (h2.block _ (heap_lt h4)).trans h4
              obtain ⟨a, cap, w7, g1, g2, g3⟩ := (HO.out.keep k2 (by simp)).app h1.vb (Nat.le_trans HBs.out k2.size) hQM 28
              exact ⟨a, cap, w7, g1, g2, hf.keep g3 (by simp), (HB.out.trans k2.bel).trans g3.bel⟩
            have hql : (Q ++ leadsL L[N - 1]).length = Q.length + (leadsL L[N - 1]).length := List.length_append
            clear c5 HI hb hm kW HFS
            generalize L[N - 1] = c at *
            generalize leadsL c = M at *
            have HVL : Hid (c.vals.length = c.vals.length) := rfl
            generalize c.vals.length = nV at *
            rcases h5 with rfl | rfl
            all_goals
              go_wp2_with fail
              refine Calls.mono (HLD.out _ (HWB.out _)) ?_
              rintro e w5 ⟨r, rfl, HO5, HB5⟩
              obtain ⟨ar, cr, rfl⟩ := HO5.out.form
              obtain ⟨a7, cap7, w7, hr7, ho7, hf7, hb7⟩ := HCONT.out _ _ _ _ _ HO5.out HB5.out
              have HR7 : Hid (_) := hr7
              have HO7 : Hid (OV base w7 (.slice a7 (Q.length + M.length) cap7) (Q ++ M)) := ho7
              have HF7 : Hid (Fl w7 base (false :: S.set (N - 1) true)) := hf7
              have HB7 : Hid (Below base w w7) := hb7
              clear hr7 ho7 hf7 hb7 HCONT HLD HWB HO5 HB5 HO HO1 HF HF1 HB HB1 q0 q1 q2 c0 c1 c2 c3 c4 f1 f2 f3
              go_wp2_with (at_builtin; refine wpList_append_run _ _ 28 rfl rfl _ _ _ _ rfl rfl HR7.out ?_)
              go_roundw
              case rel => exact ⟨t + 1, _, _, by go_num, HAD, HO7, HF7, HB7⟩
              case measure => simp [intOf]; omega
        · have HS : Hid (RInv L.length R (outL L) 22 S Q (t + 1)) := HI.out.skip HQ.out fun y hy h1 h2 => by
            rw [HT.out, List.mem_singleton] at hy
            omega
          by_cases e1 : n < 1
          · rcases h5 with rfl | rfl
            all_goals
              go_wp2_with fail
              go_roundw
              case rel => exact ⟨t + 1, S, Q, by go_num, HS, HO1, HF1, HB1⟩
              case measure => simp [intOf]; omega
          · have e2 : n > (L.length : Int) := by omega
            rcases h5 with rfl | rfl
            all_goals
              go_wp2_with fail
              go_roundw
              case rel => exact ⟨t + 1, S, Q, by go_num, HS, HO1, HF1, HB1⟩
              case measure => simp [intOf]; omega
      · have HS : Hid (RInv L.length R (outL L) 22 S Q (t + 1)) := HI.out.skip HQ.out fun y hy => by simp [to1, h5] at hy
        obtain ⟨h5, h6⟩ := not_or.mp h5
        have h5' : (k == 5) = false := by simp [h5]
        have h6' : (k == 6) = false := by simp [h6]
        go_wp2_with fail
        go_roundw
        case rel => exact ⟨t + 1, S, Q, by go_num, HS, HO1, HF1, HB1⟩
        case measure => simp [intOf]; omega
    · have ht : t = Q.length := by omega
      subst ht
      have HD : Hid (∀ x, On S x ↔ Rch L.length (tv R) (outL L) x) := HI.out.all
      have HAL : Hid (addT S S.length = addrs S) := rfl
      have HFe : Hid (∃ S' : List Bool, addrs S = addrs S' ∧ S'.length = L.length ∧ ∀ x, On S' x ↔ Rch L.length (tv R) (outL L) x) := (show Exists _ from ⟨S, rfl, hlen, HD.out⟩)
      have HBs : Hid (base ≤ wr.heap.size) := (show base ≤ _ from by rw [HBE.out]; exact HB.out.size)
      clear HI HD hfew hle HO
      generalize addrs S = A at *
      go_wp2_with fail
      go_loopw [9, 10] (fun o i wx => ∃ j : Nat, i = .int .i64 ((j : Int) + 1) ∧ j ≤ L.length ∧ Hid (wx.ownsRow base 3 1 o (addT S j).length (nums (addT S j))) ∧ Hid (Fl wx base (false :: S)) ∧ Hid (Below base w wx) ∧ Hid (base ≤ wx.heap.size)) (fun _ i _ => L.length + 1 - (intOf i).toNat)
      case atStart => exact ⟨0, rfl, by omega, World.ownsRow_nil _ _ _ _, HF, HB, HBs⟩
      case round =>
        clear HF HB HBs
        obtain ⟨j, rfl, hj, HO, HFL, HB, HSZ'⟩ := hrel
        by_cases hlt2 : j < L.length
        · have hlt' : (j : Int) + 1 < (L.length : Int) + 1 := by omega
          have hx := List.getElem?_eq_getElem (show j < S.length by omega)
          obtain ⟨d1, d2, d3⟩ := HFL.out.at_ (j := j + 1) (x := S[j]) (by simp)
          have hS := addT_succ S j
          rw [hx] at hS
          have hle := addT_le S j
          generalize S[j] = x at *
          have hj1 : (j : Int) + 1 = ((j + 1 : Nat) : Int) := by push_cast; rfl
          rw [hj1]
          have hlt3 : ((j + 1 : Nat) : Int) < (L.length : Int) + 1 := by omega
          clear hj1 hlt'
          cases x
          · have HS : Hid (addT S (j + 1) = addT S j) := (show _ = _ from by rw [hS]; simp)
            clear hS hx
            generalize hJ : j + 1 = J at *
            go_wp2_with fail
            go_roundw
            case rel => exact ⟨J, by go_num, by omega, by rw [HS.out]; exact HO, HFL, HB, HSZ'⟩
            case measure => simp [intOf]; omega
          · have HS : Hid (addT S (j + 1) = addT S j ++ [j + 1]) := (show _ = _ from by rw [hS]; simp)
            clear hS hx
            obtain ⟨a, cap, w3, hr, ho, hk⟩ := nums_push2 HO.out HSZ'.out (by omega) (j + 1) 23
            have HR : Hid (_) := hr
            have HO3 : Hid (w3.ownsRow base 3 1 (.slice a ((addT S j).length + 1) cap) (addT S (j + 1)).length (nums (addT S (j + 1)))) := (show World.ownsRow _ _ _ _ _ _ _ from by rw [HS.out, List.length_append]; exact ho)
            have HF3 : Hid (Fl w3 base (false :: S)) := HFL.out.keep hk (by simp)
            have HB3 : Hid (Below base w w3) := HB.out.trans hk.bel
            have HZ3 : Hid (base ≤ w3.heap.size) := Nat.le_trans HSZ'.out hk.size
            clear hr ho hk HO HFL HB HSZ' HS
            generalize (addT S j).length = m at *
            generalize hJ : j + 1 = J at *
            go_wp2_with (at_builtin; refine wpList_append_run _ _ 23 rfl rfl _ _ _ _ rfl rfl HR.out ?_)
            go_roundw
            case rel => exact ⟨J, by go_num, by omega, HO3, HF3, HB3, HZ3⟩
            case measure => simp [intOf]; omega
        · have hj2 : j = L.length := by omega
          subst hj2
          rw [← hlen, HAL.out] at HO
          go_wp2_with fail
          go_ret
          exact ⟨_, A, rfl, HO, HFe, HB⟩
end
end Go.Proofs.Ytmipgpkeegggpaa.P
