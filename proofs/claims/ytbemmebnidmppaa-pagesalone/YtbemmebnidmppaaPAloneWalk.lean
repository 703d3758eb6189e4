-- PROVED: PagesAlone, walked.
import Derived.Test.YtbemmebnidmppaaPBytes
namespace Go.Proofs.Ytbemmebnidmppaa.P
open Go.RowKit
set_option linter.unusedVariables false
set_option maxRecDepth 100000 in
set_option maxHeartbeats 4000000 in
theorem alone_walk (n : Int) (Z : List Nat) (ad : Option Addr) (cap : Nat) (w : World) (hn : 0 ≤ n ∧ n ≤ 255) (hL : Z.length ≤ maxLen) (hz : ∀ z ∈ Z, z < 256) (hr : Ns w ad Z) :
    Calls Try.prog 7 #[.int .u8 n, .slice ad Z.length cap] w fun e w' => e = .returned (.bool true) ∧ Below w.heap.size w w' := by
  obtain ⟨hn0, hn1⟩ := hn
  unfold maxLen at hL
  have hm0 : 0 ≤ n % 50 := by omega
  obtain ⟨m, hm⟩ := Int.eq_ofNat_of_zero_le hm0
  have hm1 : m < 50 := by omega
  have HM : Hid (n % 50 = (m : Int)) := hm
  clear hm hm0
  have HZ : Hid (∀ z ∈ Z, z < 256) := hz
  have HNS : Hid (Ns w ad Z) := hr
  clear hz hr
  go_enter Try.func7, Try.ntmps7
  go_wp2_with fail
  refine Calls.mono (new_p (sys_nil w) (by simp)) ?_
  rintro e w1 ⟨rfl, a, HS1, HF1, HB1⟩
  go_wp2_with fail
  refine Calls.mono (new_p HS1.out (by simp)) ?_
  rintro e w2 ⟨rfl, b, HS2, HF2, HB2⟩
  have hFG : w.heap.size < w1.heap.size := by
    have := heap_lt ((HS1.out.pm.fam 0 a rfl).2)
    rwa [HF1.out.fam] at this
  have HB : Hid (Below w.heap.size w w2) := Below.chain HB1.out HB2.out HB1.out.size
  clear HB1 HB2 HS1
  generalize w.heap.size + 1 = A at *
  generalize hF : w1.heap.size = F at *
  generalize F + 1 = B at *
  have HFG : Hid (w.heap.size ≠ F) := by intro e; omega
  clear hFG hF
  go_wp2_with fail
  rw [HM.out]
  go_loopw [8] (fun i wr => ∃ (k : Nat) (a b : Bk), i = .int .i64 (k : Int) ∧ k ≤ 1 + m ∧ Hid (Sys w.heap.size wr [a, b]) ∧ Hid (Row (fun j => pc 1 j) A w.heap.size k a) ∧ Hid (Row (fun j => pc 3 j) B F k b) ∧ Hid (Below w.heap.size w wr)) (fun i _ => 1 + m - (intOf i).toNat)
  case atStart => exact ⟨0, a, b, rfl, by omega, HS2, Row.new HF1.out, Row.new HF2.out, HB⟩
  case round =>
    clear HS2 HF1 HF2 HB
    obtain ⟨k, a, b, rfl, hk, HS, HR1, HR2, HB⟩ := hrel
    by_cases hlt : k < 1 + m
    · have hlt' : (k : Int) < 1 + (m : Int) := by omega
      have HA : Hid (_) := add_p HS.out (i := 0) rfl HR1.out.at_ HR1.out.opn (by rw [HR1.out.len]; omega) rfl 1 (k : Int)
      go_wp2_with fail
      refine Calls.mono HA.out ?_
      rintro e w3 ⟨rfl, a2, HS3, HD3, HK3⟩
      have HA2 : Hid (_) := add_p HS3.out (i := 1) (b := b) rfl HR2.out.at_ HR2.out.opn (by rw [HR2.out.len]; omega) rfl 3 (k : Int)
      go_wp2_with fail
      refine Calls.mono HA2.out ?_
      rintro e w4 ⟨rfl, b2, HS4, HD4, HK4⟩
      go_wp2_with fail
      go_roundw
      case rel => exact ⟨k + 1, a2, b2, by go_num, by omega, HS4, HR1.out.add HD3.out rfl, HR2.out.add HD4.out rfl, (HB.out.trans HK3.out.bel).trans HK4.out.bel⟩
      case measure => simp [intOf]; omega
    · have hk2 : k = 1 + m := by omega
      subst hk2
      have HR1a : Hid (Row (fun j => pc 1 j) A w.heap.size (1 + m) a) := HR1
      have hlt' : ¬ (((1 + m : Nat) : Int) < 1 + (m : Int)) := by omega
      go_wp2_with fail
      clear HR1
      have HS1 : Hid (Sh A w.heap.size (1 + m) a) := ⟨HR1a.out.at_, HR1a.out.opn, HR1a.out.fam, HR1a.out.len⟩
      go_loopw [9] (fun i wr => ∃ (j : Nat) (a : Bk), i = .int .i64 (j : Int) ∧ j ≤ Z.length ∧ j ≤ 50 ∧ Hid (Sys w.heap.size wr [a, b]) ∧ Hid (Sh A w.heap.size (1 + m) a) ∧ Hid (Below w.heap.size w wr)) (fun i _ => 50 - (intOf i).toNat)
      case atStart => exact ⟨0, a, rfl, by omega, by omega, HS, HS1, HB⟩
      case round =>
        clear HS HS1 HB HR1a
        obtain ⟨j, a, rfl, hj1, hj2, HS, HS1, HB⟩ := hrel
        by_cases hlt2 : j < Z.length ∧ j < 50
        · obtain ⟨hjl, hj50⟩ := hlt2
          obtain ⟨bb, off, z, rfl, hbb, hcell, hz256, -⟩ := (HNS.out.below HB.out).at_ HZ.out hjl
          have hjl' : (j : Int) < (Z.length : Int) := by omega
          have hj50' : (j : Int) < 50 := by omega
          have hmod : z % (1 + m) < 1 + m := Nat.mod_lt _ (by omega)
          have HT : Hid (_) := set_p HS.out (i := 0) rfl HS1.out.at_ (z % (1 + m)) (K := (z : Int) % (1 + (m : Int))) (by push_cast; rfl) (by rw [HS1.out.len]; exact hmod) 2 0
          go_wp2_with fail
          refine Calls.mono HT.out ?_
          rintro e w3 ⟨rfl, q, HQ3, HS3, HK3⟩
          go_wp2_with fail
          go_roundw
          case rel => exact ⟨j + 1, _, by go_num, by omega, by omega, HS3, HS1.out.upd _ _ _ _, HB.out.trans HK3.out.bel⟩
          case measure => simp [intOf]; omega
        · by_cases hjl : j < Z.length
          all_goals
            have hjl' : ((j : Int) < (Z.length : Int)) = (j < Z.length) := by simp
            have hj50 : j < Z.length → ¬ (j : Int) < 50 := fun h => by have : ¬ j < 50 := fun h2 => hlt2 ⟨h, h2⟩; omega
            have HJ : Hid (j < Z.length → ¬ (j : Int) < 50) := hj50
            clear hj50 hjl'
            try (have hj5 := HJ.out hjl; have hjz : (j : Int) < (Z.length : Int) := by omega)
            try (have hjz : ¬ (j : Int) < (Z.length : Int) := by omega)
            clear hlt2
            go_wp2_with fail
            go_loopw [10] (fun i wr => ∃ (k : Nat), i = .int .i64 (k : Int) ∧ k ≤ 1 + m ∧ Hid (Sys w.heap.size wr [a, b]) ∧ Hid (Below w.heap.size w wr)) (fun i _ => 1 + m - (intOf i).toNat)
            case atStart => exact ⟨0, rfl, by omega, HS, HB⟩
            case round =>
              clear HS HB
              obtain ⟨k, rfl, hk3, HS, HB⟩ := hrel
              by_cases hlt3 : k < 1 + m
              · have hlt' : (k : Int) < 1 + (m : Int) := by omega
                have HG : Hid (_) := get_p HS.out (i := 1) (b := b) rfl HR2.out.at_ k (K := (k : Int)) rfl (by rw [HR2.out.len]; exact hlt3) (HR2.out.cell k hlt3)
                go_wp2_with fail
                refine Calls.mono HG.out ?_
                rintro e w3 ⟨aK, kK, aV, kV, rfl, hb3⟩
                have hB4 : Below wr.heap.size wr (w3.alloc (.cells #[.int .i64 3, .int .i64 (k : Int), .int .i64 0, .slice aK 0 kK, .slice aV 0 kV] 38)) := Below.chain hb3 ((Below.refl w3.heap.size w3).alloc (Nat.le_refl _) _) hb3.size
                have HS4 : Hid (Sys w.heap.size (w3.alloc (.cells #[.int .i64 3, .int .i64 (k : Int), .int .i64 0, .slice aK 0 kK, .slice aV 0 kV] 38)) [a, b]) := HS.out.below hB4
                have HB4 : Hid (Below w.heap.size w (w3.alloc (.cells #[.int .i64 3, .int .i64 (k : Int), .int .i64 0, .slice aK 0 kK, .slice aV 0 kV] 38))) := Below.chain HB.out hB4 HB.out.size
                clear hb3 hB4
                go_wp2_with fail
                go_roundw
                case rel => exact ⟨k + 1, by go_num, by omega, HS4, HB4⟩
                case measure => simp [intOf]; omega
              · have hk2 : k = 1 + m := by omega
                subst hk2
                have hlt' : ¬ (((1 + m : Nat) : Int) < 1 + (m : Int)) := by omega
                have HMk : Hid (_) := mark_yes HS.out (by simp) (i := 0) (b := a) rfl HS1.out.at_ HS1.out.opn
                go_wp2_with fail
                refine Calls.mono HMk.out ?_
                rintro e w3 ⟨q, v, rfl, hq, hs3, hk3⟩
                have HS3 : Hid (_) := hs3
                have HD : Hid (_) := drop_yes HS3.out (i := 0) (b := a) rfl HS1.out.at_
                have HB3 : Hid (Below w.heap.size w w3) := HB.out.trans hk3.bel
                clear hs3 hk3
                go_wp2_with fail
                refine Calls.mono HD.out ?_
                rintro e w4 ⟨rfl, hs4, hk4⟩
                have HS4 : Hid (_) := hs4
                have HB4 : Hid (Below w.heap.size w w4) := HB3.out.trans hk4.bel
                clear hs4 hk4
                have HT : Hid (_) := set_p HS4.out (i := 2) (b := { a with at_ := q, row := v }) rfl rfl 0 (K := 0) rfl (by simp only []; rw [HS1.out.len]; omega) 5 0
                go_wp2_with fail
                refine Calls.mono HT.out ?_
                rintro e w5 ⟨rfl, q5, HQ5, HS5, HK5⟩
                have HB5 : Hid (Below w.heap.size w w5) := HB4.out.trans HK5.out.bel
                obtain ⟨M, hM0, hM1, hM2, hM3⟩ : ∃ M : Bk, Sys w.heap.size w5 [gone a, b, M] ∧ M.at_ = q ∧ M.fam = w.heap.size ∧ M.len = 1 + m := ⟨_, HS5.out, rfl, HS1.out.fam, HS1.out.len⟩
                have hGa : (gone a).fam = w.heap.size := HS1.out.fam
                have hbf : b.fam = F := HR2.out.fam
                have l1 := hM0.only (i := 2) (b := M) rfl hM2 fun j c hc hf => by
                  match j, hc with
                  | 0, hc => simp at hc; subst hc; exact .inr rfl
                  | 1, hc => simp at hc; subst hc; exact absurd (hf.symm.trans hbf) HFG.out
                  | 2, _ => exact .inl rfl
                have l2 := hM0.only (i := 1) (b := b) rfl hbf fun j c hc hf => by
                  match j, hc with
                  | 0, hc => simp at hc; subst hc; exact absurd (hGa.symm.trans hf) HFG.out
                  | 1, _ => exact .inl rfl
                  | 2, hc => simp at hc; subst hc; exact absurd (hM2.symm.trans hf) HFG.out
                rw [hM3] at l1
                rw [HR2.out.len] at l2
                have H1 : Hid (_) := live_is hM0 (i := 2) (b := M) (n := (1 + (m : Int) + 7) / 8) rfl hM1 (by rw [l1]; omega)
                have H2 : Hid (_) := live_is hM0 (i := 1) (b := b) (n := (1 + (m : Int) + 7) / 8) rfl HR2.out.at_ (by rw [l2]; omega)
                have H3 : Hid (_) := len_is hM0 (i := 2) (b := M) (n := 1 + (m : Int)) rfl hM1 (by rw [hM3]; omega)
                have H4 : Hid (_) := len_is hM0 (i := 0) (b := gone a) (n := 0) (A := A) rfl HS1.out.at_ rfl
                clear hM0 hM1 hM2 hM3 l1 l2 hbf hGa HS5 HT HD HMk
                go_wp2_with fail
                refine Calls.mono H1.out ?_
                rintro e w9 ⟨rfl, rfl⟩
                go_wp2_with fail
                refine Calls.mono H2.out ?_
                rintro e w9 ⟨rfl, rfl⟩
                go_wp2_with fail
                refine Calls.mono H3.out ?_
                rintro e w9 ⟨rfl, rfl⟩
                go_wp2_with fail
                refine Calls.mono H4.out ?_
                rintro e w9 ⟨rfl, rfl⟩
                go_wp2_with fail
                refine Calls.mono (awake_any _) ?_
                rintro e w9 ⟨rfl, hb9⟩
                have HB9 : Hid (_) := hb9
                clear hb9
                go_wp2_with fail
                go_ret
                exact ⟨rfl, Below.chain HB5.out HB9.out HB5.out.size⟩
theorem alone_call (a0 : Int) (x0 : Option Addr) (len0 cap0 : Nat) (z0 : List Int) (w : World) (ha : 0 ≤ a0 ∧ a0 ≤ 255) (h0 : IsB w x0 len0 cap0 z0) :
    Calls Try.prog 7 #[.int .u8 a0, .slice x0 len0 cap0] w fun e w' => e = .returned (.bool true) ∧ Below w.heap.size w w' := by
  obtain ⟨Z, rfl, hl, hm, hN, hz⟩ := h0.ns
  exact alone_walk a0 Z x0 cap0 w ha (Nat.le_trans hl hm) hz hN
end Go.Proofs.Ytbemmebnidmppaa.P
