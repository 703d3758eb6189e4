-- PROVED: the statement's own 'like'.
import Derived.Test.YtmipgpkeegggpaaPRAdd
import Derived.Deep.RegionHeld3
namespace Go.Proofs.Ytmipgpkeegggpaa.P
open Go.RowKit
set_option linter.unusedVariables false
/-- Books and the reference's say the same. -/
structure Alike (bs : List Bk) (rs : List Rb) : Prop where
  len : bs.length = rs.length
  book : ∀ (i : Nat) (b : Bk) (r : Rb), bs[i]? = some b → rs[i]? = some r → r.cells.length = b.len ∧ (∀ k, k < b.len → b.slots[k]? = r.cells[k]?) ∧ live bs b.fam = rlive rs
section
variable {base fB nx : Nat} {w : World} {rs : List Rb} {bs : List Bk}
theorem Cells.at_ {v : Value} {L : List Cl} (h : Cells base w v L) {j : Nat} {c : Cl} (hj : L[j]? = some c) : ∃ b off cap vK vV, v = .slice (some ⟨b, off, none⟩) L.length cap ∧ j < L.length ∧ b < w.heap.size ∧ w.cell? ⟨b, off + j * 5, none⟩ = some (.int .i64 c.kind) ∧ w.cell? ⟨b, off + j * 5 + 1, none⟩ = some (.int .i64 c.a) ∧ w.cell? ⟨b, off + j * 5 + 2, none⟩ = some (.int .i64 c.b) ∧ w.cell? ⟨b, off + j * 5 + 3, none⟩ = some vK ∧ w.cell? ⟨b, off + j * 5 + 4, none⟩ = some vV ∧ Parts base w vK vV c := by
  obtain ⟨a, cap, h1, h2, h3⟩ := h
  obtain ⟨hl, rfl⟩ := List.getElem?_eq_some_iff.1 hj
  obtain ⟨b, off, arr, fz, rfl, h5, h6⟩ := h3.resolve_left (by omega)
  obtain ⟨vK, vV, c0, c1, c2, c3, c4, c5⟩ := h6 j hl
  exact ⟨b, off, cap, vK, vV, h1, hl, heap_lt h5, c0, c1, c2, c3, c4, c5⟩
set_option maxRecDepth 100000 in
set_option maxHeartbeats 8000000 in
theorem like_any (hs : Sys base w bs) (hf : Fam base w fB rs nx) {v : Value} (hv : Bks base w v (bs.map (·.at_))) (ha : Alike bs rs) :
    Calls Try.prog 34 #[v, .pointer (some ⟨fB, 0, none⟩)] w fun e w' => e = .returned (.bool true) ∧ Below w.heap.size w w' := by
  obtain ⟨va, vc, rfl⟩ := hv.form
  have hml : (bs.map (·.at_)).length = bs.length := List.length_map _
  rw [hml] at hv ⊢
  have hfew := hs.few
  have HS : Hid (Sys base w bs) := hs
  have HF : Hid (Fam base w fB rs nx) := hf
  have HV : Hid (Bks base w (.slice va bs.length vc) (bs.map (·.at_))) := hv
  have HA : Hid (Alike bs rs) := ha
  have HML : Hid (_) := hml
  clear hs hf hv ha hml
  go_enter Try.func34, Try.ntmps34
  go_wp2_with fail
  go_loopw [5] (fun i wr => ∃ i' : Nat, i = .int .i64 (i' : Int) ∧ i' ≤ bs.length ∧ Hid (Below w.heap.size w wr)) (fun i _ => bs.length - (intOf i).toNat)
  case atStart => exact ⟨0, rfl, by omega, Below.refl _ _⟩
  case round =>
    obtain ⟨i, rfl, hi, HB⟩ := hrel
    by_cases hlt : i < bs.length
    · have hlt' : (i : Int) < (bs.length : Int) := by omega
      obtain ⟨b, hb⟩ : ∃ b, bs[i]? = some b := ⟨_, List.getElem?_eq_getElem hlt⟩
      obtain ⟨r, hr⟩ : ∃ r, rs[i]? = some r := ⟨_, List.getElem?_eq_getElem (by rw [← HA.out.len]; exact hlt)⟩
      obtain ⟨a1, a2, a3⟩ := HA.out.book i b r hb hr
      have hs := HS.out.below HB.out
      have hk := keepB HS.out.size HB.out
      have hf := HF.out.keep hk (by simp)
      have hv := HV.out.keep hk (by simp)
      have hB1 : base ≤ wr.heap.size := hs.size
      obtain ⟨g, cap, f0, -, lf, -, -, hrl, hcap, -, hgl, g0, -, -, -, -, -⟩ := hf.at_ hr
      obtain ⟨ca, cc, e1, -⟩ := (hf.book i r hr).1
      have hcl := (hf.book i r hr).2.2.1
      rw [e1] at g0
      obtain ⟨vg, vcap, e2, -, -, -, hvl, hvc⟩ := hv.at_ (j := i) (a := b.at_) (by simp [hb])
      injection e2 with e2 y1 y2
      subst e2
      clear y1 y2
      have hrl' : (i : Int) < (rs.length : Int) := by omega
      have H1 : Hid (_) := len_is hs hb (A := b.at_) rfl (n := (r.cells.length : Int)) (by rw [a1])
      have H2 : Hid (_) := live_is hs hb (A := b.at_) rfl (n := (rlive rs : Int)) (by rw [a3])
      have H3 : Hid (_) := rlive_any hf hB1
      have HR : Hid (rs[i]? = some r) := hr
      have HBb : Hid (bs[i]? = some b) := hb
      have HE : Hid (r.vC = .slice ca r.cells.length cc) := e1
      have HA1 : Hid (r.cells.length = b.len) := a1
      have HA2 : Hid (∀ k, k < b.len → b.slots[k]? = r.cells[k]?) := a2
      have hflen : rs.length ≤ 1000 := by rw [← HA.out.len]; exact hfew
      clear hs hk hf hv a1 a2 a3 e1 hb hr
      generalize hAA : b.at_ = A at *
      have HAA : Hid (b.at_ = A) := hAA
      clear hAA
      go_wp2_with fail
      refine Calls.mono H1.out ?_
      rintro e w2 ⟨rfl, rfl⟩
      go_wp2_with fail
      refine Calls.mono H2.out ?_
      rintro e w3 ⟨rfl, rfl⟩
      go_wp2_with fail
      refine Calls.mono H3.out ?_
      rintro e w4 ⟨rfl, hb4⟩
      have HB4 : Hid (Below w.heap.size w w4) := Below.chain HB.out hb4 HB.out.size
      clear hb4 f0 lf hgl g0 hvl hvc H1 H2 H3
      go_wp2_with fail
      generalize hn : r.cells.length = n at *
      have HN : Hid (r.cells.length = n) := hn
      clear hn
      go_loopw [7] (fun k wr => ∃ kk : Int, k = .int .i64 kk ∧ -1 ≤ kk ∧ kk ≤ (n : Int) + 1 ∧ Hid (Below w.heap.size w wr)) (fun k _ => ((n : Int) + 1 - intOf k).toNat)
      case atStart => exact ⟨-1, rfl, by omega, by omega, HB4⟩
      case round =>
        clear HB4 HB
        obtain ⟨kk, rfl, hk1, hk2, HB⟩ := hrel
        by_cases hin : kk ≤ (n : Int)
        · have hs := HS.out.below HB.out
          have hk := keepB HS.out.size HB.out
          have hv := HV.out.keep hk (by simp)
          obtain ⟨vg', vcap', e2, -, -, -, hvl, hvc⟩ := hv.at_ (j := i) (a := b.at_) (by simp [HBb.out])
          injection e2 with e2 y1 y2
          injection e2 with e2
          injection e2 with e2 y3 y4
          subst e2
          clear y1 y2
          rw [HAA.out] at hvc
          by_cases hout : kk < 0 ∨ kk = (n : Int)
          · have HG : Hid (_) := get_no hs HBb.out kk (by rw [← HA1.out]; omega)
            rw [HAA.out] at HG
            clear hs hk hv
            go_wp2_with fail
            refine Calls.mono HG.out ?_
            rintro e w5 ⟨rfl, hb5⟩
            have HB5 : Hid (Below w.heap.size w (w5.alloc (.cells #[.int .i64 0, .int .i64 0, .int .i64 0, .slice none 0 0, .slice none 0 0] 30))) := Below.chain (Below.chain HB.out hb5 HB.out.size) ((Below.refl _ _).alloc (Nat.le_refl _) _) (Nat.le_trans HB.out.size hb5.size)
            clear hb5 HG hvl hvc HS HF HV HA HA1 HA2 HBb HR HE
            rcases hout with hout | hout
            · go_wp2_with fail
              refine Calls.mono (err_any _ _) ?_
              rintro e w9 ⟨rfl, rfl⟩
              go_wp2_with fail
              go_roundw
              case rel => exact ⟨kk + 1, rfl, by omega, by omega, HB5⟩
              case measure => simp [intOf]; omega
            · subst hout
              go_wp2_with fail
              refine Calls.mono (err_any _ _) ?_
              rintro e w9 ⟨rfl, rfl⟩
              go_wp2_with fail
              go_roundw
              case rel => exact ⟨(n : Int) + 1, rfl, by omega, by omega, HB5⟩
              case measure => simp [intOf]
          · obtain ⟨m, rfl⟩ := Int.eq_ofNat_of_zero_le (show 0 ≤ kk by omega)
            have hmn : m < n := by omega
            obtain ⟨c, hc⟩ : ∃ c, r.cells[m]? = some c := ⟨_, List.getElem?_eq_getElem (by rw [HN.out]; exact hmn)⟩
            have hf := HF.out.keep hk (by simp)
            have hcs := (hf.book i r HR.out).1
            have HG : Hid (_) := get_at hs HBb.out m (by rw [← HA1.out]; exact hmn) (c := c) (by rw [HA2.out m (by rw [← HA1.out]; exact hmn)]; exact hc)
            rw [HAA.out] at HG
            have hB1 : base ≤ wr.heap.size := hs.size
            have HCS : Hid (Cells base wr r.vC r.cells) := hcs
            have HC : Hid (r.cells[m]? = some c) := hc
            clear hs hk hv hf hcs hc
            go_wp2_with fail
            refine Calls.mono HG.out ?_
            rintro e w5 ⟨aK, kK, aV, kV, rfl, HP5, hb5⟩
            have hb6 : Below wr.heap.size wr (w5.alloc (.cells #[.int .i64 c.kind, .int .i64 c.a, .int .i64 c.b, .slice aK c.keys.length kK, .slice aV c.vals.length kV] 30)) := Below.chain hb5 ((Below.refl _ _).alloc (Nat.le_refl _) _) hb5.size
            have h56 : Below w5.heap.size w5 (w5.alloc (.cells #[.int .i64 c.kind, .int .i64 c.a, .int .i64 c.b, .slice aK c.keys.length kK, .slice aV c.vals.length kV] 30)) := (Below.refl _ _).alloc (Nat.le_refl _) _
            have hnew := heap_alloc_new w5 (.cells #[.int .i64 c.kind, .int .i64 c.a, .int .i64 c.b, .slice aK c.keys.length kK, .slice aV c.vals.length kV] 30)
            have HP6 : Hid (Parts base _ (.slice aK c.keys.length kK) (.slice aV c.vals.length kV) c) := HP5.out.keep (keepB (Nat.le_trans hB1 hb5.size) h56) (by simp)
            have HB6 : Hid (Below w.heap.size w (w5.alloc (.cells #[.int .i64 c.kind, .int .i64 c.a, .int .i64 c.b, .slice aK c.keys.length kK, .slice aV c.vals.length kV] 30))) := Below.chain HB.out hb6 HB.out.size
            have hB6 : base ≤ (w5.alloc (.cells #[.int .i64 c.kind, .int .i64 c.a, .int .i64 c.b, .slice aK c.keys.length kK, .slice aV c.vals.length kV] 30)).heap.size := Nat.le_trans hB1 hb6.size
            have hcs6 := HCS.out.keep (keepB hB1 hb6) (by simp) (by simp)
            rw [HE.out] at hcs6
            obtain ⟨cb, co, ccap, vK2, vV2, e3, -, hcb, q0, q1, q2, q3, q4, hq⟩ := hcs6.at_ HC.out
            injection e3 with e3 z1 z2
            subst e3
            clear z1 z2
            obtain ⟨aK2, kK2, rfl, -⟩ := hq.1
            obtain ⟨aV2, kV2, rfl, -⟩ := hq.2.1
            have HSC : Hid (∀ W, Below (w5.alloc (.cells #[.int .i64 c.kind, .int .i64 c.a, .int .i64 c.b, .slice aK c.keys.length kK, .slice aV c.vals.length kV] 30)).heap.size (w5.alloc (.cells #[.int .i64 c.kind, .int .i64 c.a, .int .i64 c.b, .slice aK c.keys.length kK, .slice aV c.vals.length kV] 30)) W → Calls Try.prog 38 #[.agg #[.int .i64 c.kind, .int .i64 c.a, .int .i64 c.b, .slice aK c.keys.length kK, .slice aV c.vals.length kV], .agg #[.int .i64 c.kind, .int .i64 c.a, .int .i64 c.b, .slice aK2 c.keys.length kK2, .slice aV2 c.vals.length kV2]] W fun e w' => e = .returned (.bool true) ∧ Below W.heap.size W w') := fun W hW => cell_same (Nat.le_trans hB6 hW.size) (HP6.out.keep (keepB hB6 hW) (by simp)) (hq.keep (keepB hB6 hW) (by simp))
            obtain ⟨x0, x1, x2, x3, x4, -, -, -, -, -, lx⟩ := blk5 hnew
            have hnc : n ≤ 4096 := hcl
            have hm0 : (0 : Int) ≤ (m : Int) := by omega
            have hmn' : (m : Int) < (n : Int) := by omega
            have hme : ¬ (m : Int) = (n : Int) := by omega
            have hme2 : ((m : Int) == (n : Int)) = false := by simpa using hme
            clear hb6 h56 hnew hcs6 hq HP6 HP5 HCS hb5 HG hvl hvc HS HF HV HA HA1 HA2 HBb HR HE HC hout
            go_upto_region 14 with fail
            generalize (w5.alloc (.cells #[.int .i64 c.kind, .int .i64 c.a, .int .i64 c.b, .slice aK c.keys.length kK, .slice aV c.vals.length kV] 30)) = W6 at *
            generalize w5.heap.size = cB at *
            generalize c.keys.length = nk at *
            generalize c.vals.length = nv at *
            generalize c.kind = ckd at *
            generalize c.a = cca at *
            generalize c.b = ccb at *
            go_region_with (first | (go_at_call 12; refine Calls.mono (err_any _ _) ?_; rintro e w9 ⟨rfl, rfl⟩) | (go_at_call 38; refine Calls.mono (HSC.out _ (by first | exact Below.refl _ _ | exact (Below.refl _ _).drew | exact (Below.refl _ _).drew.drew)) ?_; rintro e w7 ⟨rfl, hb7⟩))
            all_goals
              have HB7 : Hid (Below w.heap.size w w7) := Below.chain HB6.out.drew hb7 HB6.out.size
              clear hb7
              go_wp2_with fail
              go_roundw
              case rel => exact ⟨(m : Int) + 1, rfl, by omega, by omega, HB7⟩
              case measure => simp [intOf]; omega
        · have hlt2 : ¬ kk ≤ (n : Int) := hin
          go_wp2_with fail
          go_roundw
          case rel => exact ⟨i + 1, by go_num, by omega, HB⟩
          case measure => simp [intOf]; omega
    · have hlt' : ¬ (i : Int) < (bs.length : Int) := by omega
      go_wp2_with fail
      go_ret
      exact ⟨rfl, HB.out⟩
end
end Go.Proofs.Ytmipgpkeegggpaa.P
