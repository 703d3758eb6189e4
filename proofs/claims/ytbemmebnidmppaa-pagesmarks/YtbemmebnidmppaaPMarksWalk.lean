-- PROVED: PagesMarks, walked.
import Derived.Test.YtbemmebnidmppaaPUpd
namespace Go.Proofs.Ytbemmebnidmppaa.P
open Go.RowKit
set_option linter.unusedVariables false
/-- The row of what was written on. -/
def Flags (w : World) (B : Nat) (D : List Bool) : Prop := w.heap[B]? = some (.cells (D.map Value.bool).toArray 4 (0, 0))
theorem Flags.keep {S : List TypeId} {base : Nat} {w w' : World} {B : Nat} {D : List Bool} (h : Flags w B D) (k : Keep S base w w') (hS : 4 ∉ S) : Flags w' B D := (k.same B _ _ _ h hS).trans h
theorem Flags.at_ {w : World} {B : Nat} {D : List Bool} (h : Flags w B D) {j : Nat} {x : Bool} (hj : D[j]? = some x) : w.cell? ⟨B, j, none⟩ = some (.bool x) ∧ w.frozen? ⟨B, j, none⟩ = false ∧ B < w.heap.size :=
  ⟨by rw [cellsOf h]; simp [hj], by simp [World.frozen?, show w.heap[B]? = _ from h], heap_lt h⟩
theorem Flags.set {w : World} {B : Nat} {D : List Bool} (h : Flags w B D) (j : Nat) : Flags (w.setCell ⟨B, j, none⟩ (.bool true)) B (D.set j true) := by
  unfold Flags
  rw [Lib.heap_setCell_same h]
  congr 2
  apply Array.ext'
  simp [List.map_set]
theorem info4 : (Try.prog.info? 4).map (fun i => (i.zero, i.size, i.bytes)) = some (some (.bool false), 1, 1) := by kernel_rfl
theorem made8 : madeCells #[Value.bool false] 8 = ((List.replicate 8 false).map Value.bool).toArray := by kernel_rfl
theorem make8 (W : World) : (Instr.makeSlice 53 (.int .i64 8) (.int .i64 8)).run Try.prog W = .ok (.slice (some ⟨W.heap.size, 0, none⟩) 8 8) (W.alloc (.cells ((List.replicate 8 false).map Value.bool).toArray 4)) := by
  obtain ⟨i0, hi, hz0, hz1, hz2⟩ := info_parts info4
  have := run_make (P := Try.prog) W 53 4 i0 (.bool false) Try.underlying53 hi hz0 .i64 .i64 8 8 (by omega) (by omega) (by rw [hz2]; omega) (by omega)
  rw [this, hz1, Nat.mul_one, ← made8]
  rfl
set_option maxRecDepth 100000 in
set_option maxHeartbeats 4000000 in
theorem marks_walk (n : Int) (Z : List Nat) (ad : Option Addr) (cap : Nat) (w : World) (hn : 0 ≤ n ∧ n ≤ 255) (hL : Z.length ≤ maxLen) (hz : ∀ z ∈ Z, z < 256) (hr : Ns w ad Z) :
    Calls Try.prog 4 #[.int .u8 n, .slice ad Z.length cap] w fun e w' => e = .returned (.bool true) ∧ Below w.heap.size w w' := by
  obtain ⟨hn0, hn1⟩ := hn
  unfold maxLen at hL
  have hm0 : 0 ≤ n % 60 := by omega
  obtain ⟨k, hm⟩ := Int.eq_ofNat_of_zero_le hm0
  have hm1 : k < 60 := by omega
  have HM : Hid (n % 60 = (k : Int)) := hm
  clear hm hm0
  have HZ : Hid (∀ z ∈ Z, z < 256) := hz
  have HNS : Hid (Ns w ad Z) := hr
  clear hz hr
  go_enter Try.func4, Try.ntmps4
  go_wp2_with fail
  refine Calls.mono (new_p (sys_nil w) (by simp)) ?_
  rintro e w1 ⟨rfl, b, HS1, HF1, HB1⟩
  generalize w.heap.size + 1 = A at *
  go_wp2_with fail
  rw [HM.out]
  go_loopw [7] (fun i wr => ∃ (j : Nat) (b : Bk), i = .int .i64 (j : Int) ∧ j ≤ k ∧ Hid (Sys w.heap.size wr [b]) ∧ Hid (Row (fun j => pc 1 j) A w.heap.size j b) ∧ Hid (Below w.heap.size w wr)) (fun i _ => k - (intOf i).toNat)
  case atStart => exact ⟨0, b, rfl, by omega, HS1, Row.new HF1.out, HB1⟩
  case round =>
    clear HS1 HF1 HB1
    obtain ⟨j, b, rfl, hk, HS, HR, HB⟩ := hrel
    by_cases hlt : j < k
    · have hlt' : (j : Int) < (k : Int) := by omega
      have HA : Hid (_) := add_p HS.out (i := 0) rfl HR.out.at_ HR.out.opn (by rw [HR.out.len]; omega) rfl 1 (j : Int)
      go_wp2_with fail
      refine Calls.mono HA.out ?_
      rintro e w3 ⟨rfl, a2, HS3, HD3, HK3⟩
      go_wp2_with fail
      go_roundw
      case rel => exact ⟨j + 1, a2, by go_num, by omega, HS3, HR.out.add HD3.out rfl, HB.out.trans HK3.out.bel⟩
      case measure => simp [intOf]; omega
    · have hk2 : j = k := by omega
      subst hk2
      have hlt' : ¬ ((j : Int) < (j : Int)) := by omega
      have HMk : Hid (_) := mark_yes HS.out (by simp) (i := 0) (b := b) rfl HR.out.at_ HR.out.opn
      go_wp2_with fail
      refine Calls.mono HMk.out ?_
      rintro e w3 ⟨q, v, rfl, hq, hs3, hk3⟩
      obtain ⟨M, hM0, hM1, hM2, hM3, hM4, hM5, hM6⟩ : ∃ M : Bk, Sys w.heap.size w3 [b, M] ∧ M.at_ = q ∧ M.fam = b.fam ∧ M.len = j ∧ M.pgs = b.pgs ∧ M.slots = b.slots ∧ M.opn = true := ⟨_, hs3, rfl, rfl, HR.out.len, rfl, rfl, HR.out.opn⟩
      have hnp : b.pgs.length = (j + 7) / 8 := by rw [(hM0.ok 0 b rfl).2.1, HR.out.len]
      have HDY : Hid (Dirty ((j + 7) / 8) (List.replicate 8 false) b M) := Dirty.start hM0 hM4 hM2 hnp (by omega)
      have HS3 : Hid (Sys w.heap.size w3 [b, M]) := hM0
      have HB3 : Hid (Below w.heap.size w w3) := HB.out.trans hk3.bel
      have HRM : Hid (Row (fun j => pc 1 j) q w.heap.size j M) := ⟨hM1, hM6, hM2.trans HR.out.fam, hM3, fun i hi => by rw [hM5]; exact HR.out.cell i hi⟩
      have H1 : Hid (_) := live_is HS3.out (i := 0) (b := b) (n := (((j + 7) / 8 : Nat) : Int)) rfl HR.out.at_ (by rw [HDY.out.lv]; rfl)
      clear hM0 hM1 hM2 hM3 hM4 hM5 hM6 hs3 hk3 HMk HS HB
      go_wp2_with fail
      refine Calls.mono H1.out ?_
      rintro e w9 ⟨rfl, rfl⟩
      go_wp2_with fail
      rw [make8]
      simp only [Result.andThen_ok]
      have hal := heap_alloc_new w9 (.cells ((List.replicate 8 false).map Value.bool).toArray 4)
      have hkl : Keep [] w.heap.size w9 (w9.alloc (.cells ((List.replicate 8 false).map Value.bool).toArray 4)) := keepB HS3.out.size ((Below.refl _ _).alloc (Nat.le_refl _) _)
      have HFL : Hid (Flags (w9.alloc (.cells ((List.replicate 8 false).map Value.bool).toArray 4)) w9.heap.size (List.replicate 8 false)) := hal
      have HS4 : Hid (Sys w.heap.size (w9.alloc (.cells ((List.replicate 8 false).map Value.bool).toArray 4)) [b, M]) := HS3.out.other hkl (by simp)
      have HB4 : Hid (Below w.heap.size w (w9.alloc (.cells ((List.replicate 8 false).map Value.bool).toArray 4))) := HB3.out.trans hkl.bel
      have HDB : Hid (w.heap.size ≤ w9.heap.size) := HS3.out.size
      clear hal hkl HS3 HB3 H1
      generalize w9.alloc (.cells ((List.replicate 8 false).map Value.bool).toArray 4) = w4 at *
      generalize w9.heap.size = dB at *
      go_wp2_with fail
      go_loopw [11] (fun i wr => ∃ (t : Nat) (D : List Bool) (b : Bk), i = .int .i64 (t : Int) ∧ t ≤ Z.length ∧ Hid (Sys w.heap.size wr [b, M]) ∧ Hid (Sh A w.heap.size j b) ∧ Hid (Dirty ((j + 7) / 8) D b M) ∧ Hid (Flags wr dB D) ∧ Hid (Below w.heap.size w wr)) (fun i _ => Z.length - (intOf i).toNat)
      case atStart => exact ⟨0, _, b, rfl, by omega, HS4, HR.out.sh, HDY, HFL, HB4⟩
      case round =>
        clear HS4 HDY HFL HB4 HR
        obtain ⟨t, D, b, rfl, ht, HS, HSh, HDY, HFL, HB⟩ := hrel
        by_cases hlt2 : t < Z.length ∧ 0 < j
        · obtain ⟨htl, hj0⟩ := hlt2
          obtain ⟨bb, off, z, rfl, hbb, hcell, hz256, -⟩ := (HNS.out.below HB.out).at_ HZ.out htl
          have htl' : (t : Int) < (Z.length : Int) := by omega
          have hj0' : (0 : Int) < (j : Int) := by omega
          have hmod : z % j < j := Nat.mod_lt _ (by omega)
          have HT : Hid (_) := set_p HS.out (i := 0) (b := b) rfl HSh.out.at_ (z % j) (K := (z : Int) % (j : Int)) (by push_cast; rfl) (by rw [HSh.out.len]; exact hmod) 2 (t : Int)
          have hmi : 0 ≤ (z : Int) % (j : Int) ∧ (z : Int) % (j : Int) < 60 := by
            have : ((z % j : Nat) : Int) = (z : Int) % (j : Int) := by push_cast; rfl
            omega
          have hjj : (j : Int) ≠ 0 := by omega
          go_wp2_with fail
          refine Calls.mono HT.out ?_
          rintro e w5 ⟨rfl, q5, HQ5, HS5, HK5⟩
          have hJ : z % j / 8 < D.length := by rw [HDY.out.len]; omega
          have HFL5 : Hid (Flags w5 dB D) := HFL.out.keep HK5.out (by simp [Four])
          obtain ⟨d1, d2, d3⟩ := HFL5.out.at_ (List.getElem?_eq_getElem hJ)
          have hq8 : (z : Int) % (j : Int) / 8 = ((z % j / 8 : Nat) : Int) := by push_cast; rfl
          have hJ8 : z % j / 8 < 8 := by omega
          have HS6 : Hid (Sys w.heap.size (w5.setCell ⟨dB, z % j / 8, none⟩ (.bool true)) [upd [b, M] b (z % j) (pc 2 t) q5, M]) := (show Sys w.heap.size w5 [upd [b, M] b (z % j) (pc 2 t) q5, M] from HS5.out).other (S := [4]) ((Keep.refl _ _ _).set (p := ⟨dB, z % j / 8, none⟩) HFL5.out (by simp) HDB.out _) (by simp [Mine])
          have HFL6 : Hid (Flags (w5.setCell ⟨dB, z % j / 8, none⟩ (.bool true)) dB (D.set (z % j / 8) true)) := HFL5.out.set _
          have HB6 : Hid (Below w.heap.size w (w5.setCell ⟨dB, z % j / 8, none⟩ (.bool true))) := (HB.out.trans HK5.out.bel).setCell HDB.out _
          have HDY6 : Hid (Dirty ((j + 7) / 8) (D.set (z % j / 8) true) (upd [b, M] b (z % j) (pc 2 t) q5) M) := HDY.out.step HS.out (by rw [HSh.out.len]; exact hmod) _ HQ5.out
          clear HS HS5 HFL HFL5 HDY HB HT
          generalize z % j / 8 = J at *
          generalize D[J] = dJ at *
          go_wp2_with fail
          go_roundw
          case rel => exact ⟨t + 1, _, _, by go_num, by omega, HS6, HSh.out.upd _ _ _ _, HDY6, HFL6, HB6⟩
          case measure => simp [intOf]; omega
        · by_cases htl : t < Z.length
          all_goals
            have HJ : Hid (t < Z.length → ¬ (0 : Int) < (j : Int)) := fun h => by have : ¬ 0 < j := fun h2 => hlt2 ⟨h, h2⟩; omega
            try (have hj0 := HJ.out htl; have htz : (t : Int) < (Z.length : Int) := by omega)
            try (have htz : ¬ (t : Int) < (Z.length : Int) := by omega)
            clear hlt2
            go_wp2_with fail
            try clear hj0
            clear htz htl HJ
            have hDl := HDY.out.len
            go_loop [13, 14] (fun o i => ∃ t : Nat, t ≤ 8 ∧ i = .int .i64 (t : Int) ∧ o = .int .i64 ((yes (D.take t) : Nat) : Int)) (fun _ i => 8 - (intOf i).toNat)
            case atStart => exact ⟨0, by omega, rfl, rfl⟩
            case round =>
              obtain ⟨t, ht8, rfl, rfl⟩ := hrel
              have hyl := yes_le (D.take t)
              have hyl2 : (yes (D.take t) : Int) ≤ 8 := by
                have : (D.take t).length ≤ t := List.length_take_le _ _
                omega
              by_cases hlt3 : t < 8
              · have hlt' : (t : Int) < 8 := by omega
                have hx : D[t]? = some D[t] := List.getElem?_eq_getElem (by omega)
                obtain ⟨d1, d2, d3⟩ := HFL.out.at_ hx
                have hy := yes_take D t hx
                have HY : Hid (yes (D.take (t + 1)) = yes (D.take t) + if D[t] then 1 else 0) := hy
                clear hy hx hyl
                generalize yes (D.take t) = Y at *
                generalize D[t] = x at *
                cases x
                all_goals
                  go_wp2_with fail
                  go_round
                  case rel => exact ⟨t + 1, by omega, by go_num, by rw [HY.out]; first | rfl | (simp; done) | go_num⟩
                  case measure => simp [intOf]; omega
              · have ht2 : t = 8 := by omega
                subst ht2
                rw [List.take_of_length_le (by omega)]
                rw [List.take_of_length_le (by omega)] at hyl hyl2
                go_wp2_with fail
                go_loopw [15] (fun i wr => ∃ (t : Nat), i = .int .i64 (t : Int) ∧ t ≤ j ∧ Hid (Sys w.heap.size wr [b, M]) ∧ Hid (Below w.heap.size w wr)) (fun i _ => j - (intOf i).toNat)
                case atStart => exact ⟨0, rfl, by omega, HS, HB⟩
                case round =>
                  clear HS HB HFL hDl hyl ht8 hlt3 hlt hnp hk ht hq
                  obtain ⟨k, rfl, hk3, HS, HB⟩ := hrel
                  by_cases hlt3 : k < j
                  · have hlt' : (k : Int) < (j : Int) := by omega
                    have HG : Hid (_) := get_p HS.out (i := 1) (b := M) rfl HRM.out.at_ k (K := (k : Int)) rfl (by rw [HRM.out.len]; exact hlt3) (HRM.out.cell k hlt3)
                    go_wp2_with fail
                    refine Calls.mono HG.out ?_
                    rintro e w3 ⟨aK, kK, aV, kV, rfl, hb3⟩
                    have hB4 : Below wr.heap.size wr (w3.alloc (.cells #[.int .i64 1, .int .i64 (k : Int), .int .i64 0, .slice aK 0 kK, .slice aV 0 kV] 38)) := Below.chain hb3 ((Below.refl w3.heap.size w3).alloc (Nat.le_refl _) _) hb3.size
                    have HS4 : Hid (Sys w.heap.size (w3.alloc (.cells #[.int .i64 1, .int .i64 (k : Int), .int .i64 0, .slice aK 0 kK, .slice aV 0 kV] 38)) [b, M]) := HS.out.below hB4
                    have HB4 : Hid (Below w.heap.size w (w3.alloc (.cells #[.int .i64 1, .int .i64 (k : Int), .int .i64 0, .slice aK 0 kK, .slice aV 0 kV] 38))) := Below.chain HB.out hB4 HB.out.size
                    clear hb3 hB4 HRM HDY HSh HNS HZ HM HB HS HG
                    have HLT : Hid (k < j) := hlt3
                    clear hlt3 hlt'
                    go_wp2_with fail
                    refine Calls.mono (err_any _ _) ?_
                    rintro e w9 ⟨rfl, rfl⟩
                    go_wp2_with fail
                    go_roundw
                    case rel => exact ⟨k + 1, by go_num, HLT.out, HS4, HB4⟩
                    case measure => have := HLT.out; simp [intOf]; omega
                  · have hk2 : k = j := by omega
                    subst hk2
                    have hlt' : ¬ ((k : Int) < (k : Int)) := by omega
                    have H1 : Hid (_) := live_is HS.out (i := 0) (b := b) (n := ((k : Int) + 7) / 8 + (yes D : Int)) rfl HSh.out.at_ (by rw [HDY.out.lv]; omega)
                    have HD1 : Hid (_) := drop_yes HS.out (i := 1) (b := M) rfl HRM.out.at_
                    have HBF : Hid (b.fam = w.heap.size) := HSh.out.fam
                    have HBA : Hid (b.at_ = A) := HSh.out.at_
                    have HBL : Hid (b.len = k) := HSh.out.len
                    clear HSh HRM HDY HNS HZ HM HS hlt3
                    go_wp2_with fail
                    refine Calls.mono H1.out ?_
                    rintro e w9 ⟨rfl, rfl⟩
                    go_wp2_with fail
                    refine Calls.mono HD1.out ?_
                    rintro e w5 ⟨rfl, hs5, hk5⟩
                    have HS5 : Hid (Sys w.heap.size w5 [b, gone M]) := hs5
                    have HB5 : Hid (Below w.heap.size w w5) := HB.out.trans hk5.bel
                    clear hs5 hk5 HB H1 HD1
                    have l1 := HS5.out.only (i := 0) (b := b) (f := b.fam) rfl rfl fun j c hc hf => by
                      match j, hc with
                      | 0, hc => exact .inl rfl
                      | 1, hc => simp at hc; subst hc; exact .inr rfl
                    rw [HBL.out] at l1
                    have H2 : Hid (_) := live_is HS5.out (i := 0) (b := b) (n := ((k : Int) + 7) / 8) rfl HBA.out (by rw [l1]; omega)
                    have HD2 : Hid (_) := drop_yes HS5.out (i := 0) (b := b) rfl HBA.out
                    clear l1 HS5
                    go_wp2_with fail
                    refine Calls.mono H2.out ?_
                    rintro e w9 ⟨rfl, rfl⟩
                    go_wp2_with fail
                    refine Calls.mono HD2.out ?_
                    rintro e w6 ⟨rfl, hs6, hk6⟩
                    have HS6 : Hid (Sys w.heap.size w6 [gone b, gone M]) := hs6
                    have HB6 : Hid (Below w.heap.size w w6) := HB5.out.trans hk6.bel
                    clear hs6 hk6 HB5 H2 HD2
                    have HG1 : Hid (_) := get_no HS6.out (i := 0) (b := gone b) rfl 0 (by simp [gone])
                    have HBA' : (gone b).at_ = A := HBA.out
                    rw [HBA'] at HG1
                    clear HBA'
                    go_wp2_with fail
                    refine Calls.mono HG1.out ?_
                    rintro e w7 ⟨rfl, hb7⟩
                    have hb7' : Below w6.heap.size w6 (w7.alloc (.cells #[.int .i64 0, .int .i64 0, .int .i64 0, .slice none 0 0, .slice none 0 0] 38)) := Below.chain hb7 ((Below.refl _ _).alloc (Nat.le_refl _) _) hb7.size
                    have HB7 : Hid (Below w6.heap.size w6 (w7.alloc (.cells #[.int .i64 0, .int .i64 0, .int .i64 0, .slice none 0 0, .slice none 0 0] 38))) := hb7'
                    clear hb7 hb7' HG1
                    go_wp2_with fail
                    refine Calls.mono (get_none _ _) ?_
                    rintro e w8 ⟨rfl, hb8⟩
                    have HB8 : Hid (Below w6.heap.size w6 (w8.alloc (.cells #[.int .i64 0, .int .i64 0, .int .i64 0, .slice none 0 0, .slice none 0 0] 38))) := Below.chain (Below.chain HB7.out hb8 HB7.out.size) ((Below.refl _ _).alloc (Nat.le_refl _) _) (Nat.le_trans HB7.out.size hb8.size)
                    clear hb8 HB7
                    go_wp2_with fail
                    refine Calls.mono (add_none (base := 0) (c := pc 0 0) (Parts.nil _ _ _ _ _)) ?_
                    rintro e w10 ⟨rfl, hb10⟩
                    have HB10 : Hid (Below w6.heap.size w6 w10) := Below.chain HB8.out hb10 HB8.out.size
                    clear hb10 HB8
                    have HS10 : Hid (Sys w.heap.size w10 [gone b, gone M]) := HS6.out.below HB10.out
                    have HE10 : Hid (Below w.heap.size w w10) := Below.chain HB6.out HB10.out HB6.out.size
                    have l1 := HS10.out.only (i := 0) (b := gone b) (f := b.fam) rfl rfl fun j c hc hf => by
                      match j, hc with
                      | 0, hc => exact .inl rfl
                      | 1, hc => simp at hc; subst hc; exact .inr rfl
                    have H3 : Hid (_) := live_is HS10.out (i := 0) (b := gone b) (n := 0) rfl HBA.out (by rw [l1]; simp [gone])
                    have H4 : Hid (_) := mark_closed HS10.out (i := 0) (b := gone b) rfl HBA.out rfl
                    clear l1 HS10 HS6 HB6 HB10
                    go_wp2_with fail
                    refine Calls.mono (drop_none _) ?_
                    rintro e w9 ⟨rfl, rfl⟩
                    go_wp2_with fail
                    refine Calls.mono H3.out ?_
                    rintro e w9 ⟨rfl, rfl⟩
                    go_wp2_with fail
                    refine Calls.mono (err_any _ _) ?_
                    rintro e w9 ⟨rfl, rfl⟩
                    go_wp2_with fail
                    refine Calls.mono H4.out ?_
                    rintro e w9 ⟨rfl, rfl⟩
                    go_wp2_with fail
                    refine Calls.mono (err_any _ _) ?_
                    rintro e w9 ⟨rfl, rfl⟩
                    go_wp2_with fail
                    refine Calls.mono (err_any _ _) ?_
                    rintro e w9 ⟨rfl, rfl⟩
                    go_wp2_with fail
                    refine Calls.mono (mark_none _) ?_
                    rintro e w9 ⟨rfl, rfl⟩
                    go_wp2_with fail
                    refine Calls.mono (len_none _) ?_
                    rintro e w9 ⟨rfl, rfl⟩
                    go_wp2_with fail
                    refine Calls.mono (live_none _) ?_
                    rintro e w9 ⟨rfl, rfl⟩
                    go_wp2_with fail
                    refine Calls.mono (awake_any _) ?_
                    rintro e w11 ⟨rfl, hb11⟩
                    have HB11 : Hid (_) := hb11
                    clear hb11
                    go_wp2_with fail
                    go_ret
                    exact ⟨rfl, Below.chain HE10.out HB11.out HE10.out.size⟩
theorem marks_call (a0 : Int) (x0 : Option Addr) (len0 cap0 : Nat) (z0 : List Int) (w : World) (ha : 0 ≤ a0 ∧ a0 ≤ 255) (h0 : IsB w x0 len0 cap0 z0) :
    Calls Try.prog 4 #[.int .u8 a0, .slice x0 len0 cap0] w fun e w' => e = .returned (.bool true) ∧ Below w.heap.size w w' := by
  obtain ⟨Z, rfl, hl, hm, hN, hz⟩ := h0.ns
  exact marks_walk a0 Z x0 cap0 w ha (Nat.le_trans hl hm) hz hN
end Go.Proofs.Ytbemmebnidmppaa.P
