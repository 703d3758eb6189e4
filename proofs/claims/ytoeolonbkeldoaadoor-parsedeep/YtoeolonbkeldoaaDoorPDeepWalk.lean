/- The law ParseDeep: its walk. -/
import Derived.Test.YtoeolonbkeldoaaDoorPsPz
namespace Go.Proofs.YtoeolonbkeldoaaDoor.R
open Go.RowKit
open L (tkA)
set_option linter.unusedVariables false
/-- So many of a text. -/
def rep : Nat → List UInt8 → List UInt8
  | 0, _ => []
  | n + 1, s => rep n s ++ s
theorem rep_len (n : Nat) (s : List UInt8) : (rep n s).length = n * s.length := by
  induction n with
  | zero => simp [rep]
  | succ n ih => simp [rep, ih, Nat.add_mul]
/-- A text that lies so deep; how it ends. -/
def deepT (op sh mid : List UInt8) (k : Nat) : List UInt8 := rep k op ++ mid ++ rep k sh
def deepOk (op sh mid : List UInt8) (each base k : Nat) : Bool :=
  if base + each * k ≤ 40 then Ps.okP (deepT op sh mid k) (0, true) && decide (0 < (Ps.parse (deepT op sh mid k)).1.length)
  else decide ((Ps.parse (deepT op sh mid k)).2.1 ≤ k) && Ps.okP (deepT op sh mid k) ((Ps.parse (deepT op sh mid k)).2.1, false)
theorem Parse_ofB {b : ByteArray} {l : List UInt8} (e : b.data.toList = l) {r : Nat × Bool} (h : Ps.okP l r = true) (w : World) (hg : L.Sig w) :
    Calls Tryd.prog 7 #[.string b] w fun e w' => ∃ ad cap, e = .returned (.tuple #[.slice ad (Ps.parse l).1.length cap, .int .i64 (r.1 : Int), .bool r.2]) ∧ Told w' (.slice ad (Ps.parse l).1.length cap) (Ps.parse l).1 ∧ Below w.heap.size w w' := by
  have : b = ⟨l.toArray⟩ := by cases b; subst e; simp
  rw [this]
  exact Parse_of h w hg
set_option maxRecDepth 100000 in
theorem deep_ok0 : ∀ k, k < 60 → deepOk [40] [41] [97] 3 4 k = true := by decide +kernel
set_option maxRecDepth 100000 in
set_option maxHeartbeats 4000000 in
theorem deep0 (a0 a1 : Int) (k : Nat) (w : World) (ha0 : 0 ≤ a0 ∧ a0 ≤ 255) (ha1 : 0 ≤ a1 ∧ a1 ≤ 255) (hm0 : a0 % 60 = (k : Int)) (hm1 : a1 % 4 = 0) (hk : k < 60) (hg : L.Sig w) :
    Calls Tryd.prog 3 #[.int .u8 a0, .int .u8 a1] w fun e w' => e = .returned (.bool true) ∧ Below w.heap.size w w' := by
  have hok := deep_ok0 k hk
  unfold deepOk at hok
  have HG : Hid (L.Sig w) := hg
  have hk' : (k : Int) < 60 := by omega
  have hk0 : (0 : Int) ≤ k := by omega
  obtain ⟨h0, h1⟩ := ha0
  obtain ⟨h2, h3⟩ := ha1
  have HOK : Hid (_) := hok
  clear hok hg
  go_enter Tryd.func3, Tryd.ntmps3
  go_wp2_with fail
  go_loop [10, 11, 12] (fun s e i => ∃ (j : Nat) (S E : ByteArray), j ≤ k ∧ s = .string S ∧ e = .string E ∧ i = .int .i64 (j : Int) ∧ Hid (S.data.toList = rep j [40] ∧ E.data.toList = rep j [41])) (fun _ _ i => k - (L.intOf i).toNat)
  case atStart => exact ⟨0, ⟨#[]⟩, ⟨#[]⟩, by omega, rfl, rfl, rfl, rfl, rfl⟩
  case round =>
    obtain ⟨j, S, E, hj, rfl, rfl, rfl, HS⟩ := hrel
    have hS : S.size = j * 1 := by have := congrArg List.length HS.out.1; rw [rep_len] at this; simpa using this
    have hE : E.size = j * 1 := by have := congrArg List.length HS.out.2; rw [rep_len] at this; simpa using this
    have hS1 : S.size ≤ 60 := by omega
    have hE1 : E.size ≤ 60 := by omega
    clear hS hE
    by_cases hlt : j < k
    · have hlt' : (j : Int) < k := by omega
      have f1 : ¬ 9223372036854775807 < S.size + 1 := by omega
      have f2 : ¬ 9223372036854775807 < E.size + 1 := by omega
      go_wp2_with fail
      go_round
      case rel => exact ⟨j + 1, _, _, by omega, rfl, rfl, by go_num, (show _ ∧ _ from ⟨by simp [rep, HS.out.1], by simp [rep, HS.out.2]⟩)⟩
      case measure => simp [L.intOf]; omega
    · have hlt' : ¬ (j : Int) < k := by omega
      have hjk : j = k := by omega
      subst hjk
      have HSS : Hid (∀ b : ByteArray, b.data.toList = S.data.toList ++ [97] ++ E.data.toList → b.data.toList = deepT [40] [41] [97] j) := (fun b h => by rw [h, HS.out.1, HS.out.2]; rfl)
      have f1 : ¬ 9223372036854775807 < S.size + 1 := by omega
      have f3 : ¬ 9223372036854775807 < S.size + E.size := by omega
      have f4 : ¬ 9223372036854775807 < S.size + 1 + E.size := by omega
      clear HS
      by_cases hfit : 4 + 3 * j ≤ 40
      · have HO := HOK.out
        rw [if_pos hfit] at HO
        simp only [Bool.and_eq_true, decide_eq_true_eq] at HO
        have HP : Hid (∀ b : ByteArray, b.data.toList = S.data.toList ++ [97] ++ E.data.toList → _) := fun b h => Parse_ofB (HSS.out b h) HO.1 w HG.out
        have HO2 : Hid (_) := HO.2
        have hfi : (4 : Int) + 3 * j ≤ 40 := by omega
        have hfi2 : (4 : Int) + 3 * j ≤ 40 := by omega
        clear HO HOK HSS
        go_wp2_with fail
        refine Calls.mono (HP.out _ (by simp)) ?_
        rintro e w1 ⟨ad, cap, rfl, _, hb1⟩
        have hpos := HO2.out
        have hpos' : (0 : Int) < ((Ps.parse (deepT [40] [41] [97] j)).1.length : Int) := by omega
        generalize (Ps.parse (deepT [40] [41] [97] j)).1.length = nl at *
        have HB1 : Hid (Below w.heap.size w w1) := hb1
        clear hb1 HP
        go_wp2_with fail
        refine Calls.mono (awake_any _ (L.Sig.below HG.out HB1.out)) ?_
        rintro e w2 ⟨rfl, hb2⟩
        have HB2 : Hid (_) := HB1.out.trans (hb2.mono HB1.out.size)
        clear hb2
        go_wp2_with fail
        go_ret
        exact ⟨rfl, HB2.out⟩
      · have HO := HOK.out
        rw [if_neg hfit] at HO
        simp only [Bool.and_eq_true, decide_eq_true_eq] at HO
        have hz : (Ps.parse (deepT [40] [41] [97] j)).1.length = 0 := by
          have := HO.2
          unfold Ps.okP at this
          simp only [Bool.and_eq_true] at this
          simpa using this.2
        have HP : Hid (∀ b : ByteArray, b.data.toList = S.data.toList ++ [97] ++ E.data.toList → _) := fun b h => Parse_ofB (HSS.out b h) HO.2 w HG.out
        have hat : ((Ps.parse (deepT [40] [41] [97] j)).2.1 : Int) ≤ j := by have := HO.1; omega
        have hfi : ¬ (4 : Int) + 3 * j ≤ 40 := by omega
        have hfi2 : ¬ (4 : Int) + 3 * j ≤ 40 := by omega
        have hdec : decide ((4 : Int) + 3 * j ≤ 40) = false := by simpa using hfi2
        rw [hz] at HP
        clear HO HOK HSS hz
        generalize (Ps.parse (deepT [40] [41] [97] j)).2.1 = pa at *
        go_wp2_with fail
        refine Calls.mono (HP.out _ (by simp)) ?_
        rintro e w1 ⟨ad, cap, rfl, _, hb1⟩
        have HB1 : Hid (Below w.heap.size w w1) := hb1
        clear hb1 HP
        go_wp2_with fail
        refine Calls.mono (awake_any _ (L.Sig.below HG.out HB1.out)) ?_
        rintro e w2 ⟨rfl, hb2⟩
        have HB2 : Hid (_) := HB1.out.trans (hb2.mono HB1.out.size)
        clear hb2
        go_wp2_with fail
        go_ret
        exact ⟨rfl, HB2.out⟩
set_option maxRecDepth 100000 in
theorem deep_ok1 : ∀ k, k < 60 → deepOk [91] [93] [97] 3 4 k = true := by decide +kernel
set_option maxRecDepth 100000 in
set_option maxHeartbeats 4000000 in
theorem deep1 (a0 a1 : Int) (k : Nat) (w : World) (ha0 : 0 ≤ a0 ∧ a0 ≤ 255) (ha1 : 0 ≤ a1 ∧ a1 ≤ 255) (hm0 : a0 % 60 = (k : Int)) (hm1 : a1 % 4 = 1) (hk : k < 60) (hg : L.Sig w) :
    Calls Tryd.prog 3 #[.int .u8 a0, .int .u8 a1] w fun e w' => e = .returned (.bool true) ∧ Below w.heap.size w w' := by
  have hok := deep_ok1 k hk
  unfold deepOk at hok
  have HG : Hid (L.Sig w) := hg
  have hk' : (k : Int) < 60 := by omega
  have hk0 : (0 : Int) ≤ k := by omega
  obtain ⟨h0, h1⟩ := ha0
  obtain ⟨h2, h3⟩ := ha1
  have HOK : Hid (_) := hok
  clear hok hg
  go_enter Tryd.func3, Tryd.ntmps3
  go_wp2_with fail
  go_loop [10, 11, 12] (fun s e i => ∃ (j : Nat) (S E : ByteArray), j ≤ k ∧ s = .string S ∧ e = .string E ∧ i = .int .i64 (j : Int) ∧ Hid (S.data.toList = rep j [91] ∧ E.data.toList = rep j [93])) (fun _ _ i => k - (L.intOf i).toNat)
  case atStart => exact ⟨0, ⟨#[]⟩, ⟨#[]⟩, by omega, rfl, rfl, rfl, rfl, rfl⟩
  case round =>
    obtain ⟨j, S, E, hj, rfl, rfl, rfl, HS⟩ := hrel
    have hS : S.size = j * 1 := by have := congrArg List.length HS.out.1; rw [rep_len] at this; simpa using this
    have hE : E.size = j * 1 := by have := congrArg List.length HS.out.2; rw [rep_len] at this; simpa using this
    have hS1 : S.size ≤ 60 := by omega
    have hE1 : E.size ≤ 60 := by omega
    clear hS hE
    by_cases hlt : j < k
    · have hlt' : (j : Int) < k := by omega
      have f1 : ¬ 9223372036854775807 < S.size + 1 := by omega
      have f2 : ¬ 9223372036854775807 < E.size + 1 := by omega
      go_wp2_with fail
      go_round
      case rel => exact ⟨j + 1, _, _, by omega, rfl, rfl, by go_num, (show _ ∧ _ from ⟨by simp [rep, HS.out.1], by simp [rep, HS.out.2]⟩)⟩
      case measure => simp [L.intOf]; omega
    · have hlt' : ¬ (j : Int) < k := by omega
      have hjk : j = k := by omega
      subst hjk
      have HSS : Hid (∀ b : ByteArray, b.data.toList = S.data.toList ++ [97] ++ E.data.toList → b.data.toList = deepT [91] [93] [97] j) := (fun b h => by rw [h, HS.out.1, HS.out.2]; rfl)
      have f1 : ¬ 9223372036854775807 < S.size + 1 := by omega
      have f3 : ¬ 9223372036854775807 < S.size + E.size := by omega
      have f4 : ¬ 9223372036854775807 < S.size + 1 + E.size := by omega
      clear HS
      by_cases hfit : 4 + 3 * j ≤ 40
      · have HO := HOK.out
        rw [if_pos hfit] at HO
        simp only [Bool.and_eq_true, decide_eq_true_eq] at HO
        have HP : Hid (∀ b : ByteArray, b.data.toList = S.data.toList ++ [97] ++ E.data.toList → _) := fun b h => Parse_ofB (HSS.out b h) HO.1 w HG.out
        have HO2 : Hid (_) := HO.2
        have hfi : (4 : Int) + 3 * j ≤ 40 := by omega
        have hfi2 : (4 : Int) + 3 * j ≤ 40 := by omega
        clear HO HOK HSS
        go_wp2_with fail
        refine Calls.mono (HP.out _ (by simp)) ?_
        rintro e w1 ⟨ad, cap, rfl, _, hb1⟩
        have hpos := HO2.out
        have hpos' : (0 : Int) < ((Ps.parse (deepT [91] [93] [97] j)).1.length : Int) := by omega
        generalize (Ps.parse (deepT [91] [93] [97] j)).1.length = nl at *
        have HB1 : Hid (Below w.heap.size w w1) := hb1
        clear hb1 HP
        go_wp2_with fail
        refine Calls.mono (awake_any _ (L.Sig.below HG.out HB1.out)) ?_
        rintro e w2 ⟨rfl, hb2⟩
        have HB2 : Hid (_) := HB1.out.trans (hb2.mono HB1.out.size)
        clear hb2
        go_wp2_with fail
        go_ret
        exact ⟨rfl, HB2.out⟩
      · have HO := HOK.out
        rw [if_neg hfit] at HO
        simp only [Bool.and_eq_true, decide_eq_true_eq] at HO
        have hz : (Ps.parse (deepT [91] [93] [97] j)).1.length = 0 := by
          have := HO.2
          unfold Ps.okP at this
          simp only [Bool.and_eq_true] at this
          simpa using this.2
        have HP : Hid (∀ b : ByteArray, b.data.toList = S.data.toList ++ [97] ++ E.data.toList → _) := fun b h => Parse_ofB (HSS.out b h) HO.2 w HG.out
        have hat : ((Ps.parse (deepT [91] [93] [97] j)).2.1 : Int) ≤ j := by have := HO.1; omega
        have hfi : ¬ (4 : Int) + 3 * j ≤ 40 := by omega
        have hfi2 : ¬ (4 : Int) + 3 * j ≤ 40 := by omega
        have hdec : decide ((4 : Int) + 3 * j ≤ 40) = false := by simpa using hfi2
        rw [hz] at HP
        clear HO HOK HSS hz
        generalize (Ps.parse (deepT [91] [93] [97] j)).2.1 = pa at *
        go_wp2_with fail
        refine Calls.mono (HP.out _ (by simp)) ?_
        rintro e w1 ⟨ad, cap, rfl, _, hb1⟩
        have HB1 : Hid (Below w.heap.size w w1) := hb1
        clear hb1 HP
        go_wp2_with fail
        refine Calls.mono (awake_any _ (L.Sig.below HG.out HB1.out)) ?_
        rintro e w2 ⟨rfl, hb2⟩
        have HB2 : Hid (_) := HB1.out.trans (hb2.mono HB1.out.size)
        clear hb2
        go_wp2_with fail
        go_ret
        exact ⟨rfl, HB2.out⟩
set_option maxRecDepth 100000 in
theorem deep_ok2 : ∀ k, k < 60 → deepOk [33] [] [97] 1 4 k = true := by decide +kernel
set_option maxRecDepth 100000 in
set_option maxHeartbeats 4000000 in
theorem deep2 (a0 a1 : Int) (k : Nat) (w : World) (ha0 : 0 ≤ a0 ∧ a0 ≤ 255) (ha1 : 0 ≤ a1 ∧ a1 ≤ 255) (hm0 : a0 % 60 = (k : Int)) (hm1 : a1 % 4 = 2) (hk : k < 60) (hg : L.Sig w) :
    Calls Tryd.prog 3 #[.int .u8 a0, .int .u8 a1] w fun e w' => e = .returned (.bool true) ∧ Below w.heap.size w w' := by
  have hok := deep_ok2 k hk
  unfold deepOk at hok
  have HG : Hid (L.Sig w) := hg
  have hk' : (k : Int) < 60 := by omega
  have hk0 : (0 : Int) ≤ k := by omega
  obtain ⟨h0, h1⟩ := ha0
  obtain ⟨h2, h3⟩ := ha1
  have HOK : Hid (_) := hok
  clear hok hg
  go_enter Tryd.func3, Tryd.ntmps3
  go_wp2_with fail
  go_loop [10, 11, 12] (fun s e i => ∃ (j : Nat) (S E : ByteArray), j ≤ k ∧ s = .string S ∧ e = .string E ∧ i = .int .i64 (j : Int) ∧ Hid (S.data.toList = rep j [33] ∧ E.data.toList = rep j [])) (fun _ _ i => k - (L.intOf i).toNat)
  case atStart => exact ⟨0, ⟨#[]⟩, ⟨#[]⟩, by omega, rfl, rfl, rfl, rfl, rfl⟩
  case round =>
    obtain ⟨j, S, E, hj, rfl, rfl, rfl, HS⟩ := hrel
    have hS : S.size = j * 1 := by have := congrArg List.length HS.out.1; rw [rep_len] at this; simpa using this
    have hE : E.size = j * 0 := by have := congrArg List.length HS.out.2; rw [rep_len] at this; simpa using this
    have hS1 : S.size ≤ 60 := by omega
    have hE1 : E.size ≤ 60 := by omega
    clear hS hE
    by_cases hlt : j < k
    · have hlt' : (j : Int) < k := by omega
      have f1 : ¬ 9223372036854775807 < S.size + 1 := by omega
      have f2 : ¬ 9223372036854775807 < E.size + 1 := by omega
      go_wp2_with fail
      go_round
      case rel => exact ⟨j + 1, _, _, by omega, rfl, rfl, by go_num, (show _ ∧ _ from ⟨by simp [rep, HS.out.1], by simp [rep, HS.out.2]⟩)⟩
      case measure => simp [L.intOf]; omega
    · have hlt' : ¬ (j : Int) < k := by omega
      have hjk : j = k := by omega
      subst hjk
      have HSS : Hid (∀ b : ByteArray, b.data.toList = S.data.toList ++ [97] ++ E.data.toList → b.data.toList = deepT [33] [] [97] j) := (fun b h => by rw [h, HS.out.1, HS.out.2]; rfl)
      have f1 : ¬ 9223372036854775807 < S.size + 1 := by omega
      have f3 : ¬ 9223372036854775807 < S.size + E.size := by omega
      have f4 : ¬ 9223372036854775807 < S.size + 1 + E.size := by omega
      clear HS
      by_cases hfit : 4 + 1 * j ≤ 40
      · have HO := HOK.out
        rw [if_pos hfit] at HO
        simp only [Bool.and_eq_true, decide_eq_true_eq] at HO
        have HP : Hid (∀ b : ByteArray, b.data.toList = S.data.toList ++ [97] ++ E.data.toList → _) := fun b h => Parse_ofB (HSS.out b h) HO.1 w HG.out
        have HO2 : Hid (_) := HO.2
        have hfi : (4 : Int) + 1 * j ≤ 40 := by omega
        have hfi2 : (4 : Int) + j ≤ 40 := by omega
        clear HO HOK HSS
        go_wp2_with fail
        refine Calls.mono (HP.out _ (by simp)) ?_
        rintro e w1 ⟨ad, cap, rfl, _, hb1⟩
        have hpos := HO2.out
        have hpos' : (0 : Int) < ((Ps.parse (deepT [33] [] [97] j)).1.length : Int) := by omega
        generalize (Ps.parse (deepT [33] [] [97] j)).1.length = nl at *
        have HB1 : Hid (Below w.heap.size w w1) := hb1
        clear hb1 HP
        go_wp2_with fail
        refine Calls.mono (awake_any _ (L.Sig.below HG.out HB1.out)) ?_
        rintro e w2 ⟨rfl, hb2⟩
        have HB2 : Hid (_) := HB1.out.trans (hb2.mono HB1.out.size)
        clear hb2
        go_wp2_with fail
        go_ret
        exact ⟨rfl, HB2.out⟩
      · have HO := HOK.out
        rw [if_neg hfit] at HO
        simp only [Bool.and_eq_true, decide_eq_true_eq] at HO
        have hz : (Ps.parse (deepT [33] [] [97] j)).1.length = 0 := by
          have := HO.2
          unfold Ps.okP at this
          simp only [Bool.and_eq_true] at this
          simpa using this.2
        have HP : Hid (∀ b : ByteArray, b.data.toList = S.data.toList ++ [97] ++ E.data.toList → _) := fun b h => Parse_ofB (HSS.out b h) HO.2 w HG.out
        have hat : ((Ps.parse (deepT [33] [] [97] j)).2.1 : Int) ≤ j := by have := HO.1; omega
        have hfi : ¬ (4 : Int) + 1 * j ≤ 40 := by omega
        have hfi2 : ¬ (4 : Int) + j ≤ 40 := by omega
        have hdec : decide ((4 : Int) + j ≤ 40) = false := by simpa using hfi2
        rw [hz] at HP
        clear HO HOK HSS hz
        generalize (Ps.parse (deepT [33] [] [97] j)).2.1 = pa at *
        go_wp2_with fail
        refine Calls.mono (HP.out _ (by simp)) ?_
        rintro e w1 ⟨ad, cap, rfl, _, hb1⟩
        have HB1 : Hid (Below w.heap.size w w1) := hb1
        clear hb1 HP
        go_wp2_with fail
        refine Calls.mono (awake_any _ (L.Sig.below HG.out HB1.out)) ?_
        rintro e w2 ⟨rfl, hb2⟩
        have HB2 : Hid (_) := HB1.out.trans (hb2.mono HB1.out.size)
        clear hb2
        go_wp2_with fail
        go_ret
        exact ⟨rfl, HB2.out⟩
set_option maxRecDepth 100000 in
theorem deep_ok3 : ∀ k, k < 60 → deepOk [123] [125] [] 1 0 k = true := by decide +kernel
set_option maxRecDepth 100000 in
set_option maxHeartbeats 4000000 in
theorem deep3 (a0 a1 : Int) (k : Nat) (w : World) (ha0 : 0 ≤ a0 ∧ a0 ≤ 255) (ha1 : 0 ≤ a1 ∧ a1 ≤ 255) (hm0 : a0 % 60 = (k : Int)) (hm1 : a1 % 4 = 3) (hk : k < 60) (hg : L.Sig w) :
    Calls Tryd.prog 3 #[.int .u8 a0, .int .u8 a1] w fun e w' => e = .returned (.bool true) ∧ Below w.heap.size w w' := by
  have hok := deep_ok3 k hk
  unfold deepOk at hok
  have HG : Hid (L.Sig w) := hg
  have hk' : (k : Int) < 60 := by omega
  have hk0 : (0 : Int) ≤ k := by omega
  obtain ⟨h0, h1⟩ := ha0
  obtain ⟨h2, h3⟩ := ha1
  have HOK : Hid (_) := hok
  clear hok hg
  go_enter Tryd.func3, Tryd.ntmps3
  go_wp2_with fail
  go_loop [10, 11, 12] (fun s e i => ∃ (j : Nat) (S E : ByteArray), j ≤ k ∧ s = .string S ∧ e = .string E ∧ i = .int .i64 (j : Int) ∧ Hid (S.data.toList = rep j [123] ∧ E.data.toList = rep j [125])) (fun _ _ i => k - (L.intOf i).toNat)
  case atStart => exact ⟨0, ⟨#[]⟩, ⟨#[]⟩, by omega, rfl, rfl, rfl, rfl, rfl⟩
  case round =>
    obtain ⟨j, S, E, hj, rfl, rfl, rfl, HS⟩ := hrel
    have hS : S.size = j * 1 := by have := congrArg List.length HS.out.1; rw [rep_len] at this; simpa using this
    have hE : E.size = j * 1 := by have := congrArg List.length HS.out.2; rw [rep_len] at this; simpa using this
    have hS1 : S.size ≤ 60 := by omega
    have hE1 : E.size ≤ 60 := by omega
    clear hS hE
    by_cases hlt : j < k
    · have hlt' : (j : Int) < k := by omega
      have f1 : ¬ 9223372036854775807 < S.size + 1 := by omega
      have f2 : ¬ 9223372036854775807 < E.size + 1 := by omega
      go_wp2_with fail
      go_round
      case rel => exact ⟨j + 1, _, _, by omega, rfl, rfl, by go_num, (show _ ∧ _ from ⟨by simp [rep, HS.out.1], by simp [rep, HS.out.2]⟩)⟩
      case measure => simp [L.intOf]; omega
    · have hlt' : ¬ (j : Int) < k := by omega
      have hjk : j = k := by omega
      subst hjk
      have HSS : Hid (∀ b : ByteArray, b.data.toList = S.data.toList ++ [] ++ E.data.toList → b.data.toList = deepT [123] [125] [] j) := (fun b h => by rw [h, HS.out.1, HS.out.2]; rfl)
      have f1 : ¬ 9223372036854775807 < S.size + 1 := by omega
      have f3 : ¬ 9223372036854775807 < S.size + E.size := by omega
      have f4 : ¬ 9223372036854775807 < S.size + 1 + E.size := by omega
      clear HS
      by_cases hfit : 0 + 1 * j ≤ 40
      · have HO := HOK.out
        rw [if_pos hfit] at HO
        simp only [Bool.and_eq_true, decide_eq_true_eq] at HO
        have HP : Hid (∀ b : ByteArray, b.data.toList = S.data.toList ++ [] ++ E.data.toList → _) := fun b h => Parse_ofB (HSS.out b h) HO.1 w HG.out
        have HO2 : Hid (_) := HO.2
        have hfi : (0 : Int) + 1 * j ≤ 40 := by omega
        have hfi2 : (j : Int) ≤ 40 := by omega
        clear HO HOK HSS
        go_wp2_with fail
        refine Calls.mono (HP.out _ (by simp)) ?_
        rintro e w1 ⟨ad, cap, rfl, _, hb1⟩
        have hpos := HO2.out
        have hpos' : (0 : Int) < ((Ps.parse (deepT [123] [125] [] j)).1.length : Int) := by omega
        generalize (Ps.parse (deepT [123] [125] [] j)).1.length = nl at *
        have HB1 : Hid (Below w.heap.size w w1) := hb1
        clear hb1 HP
        go_wp2_with fail
        refine Calls.mono (awake_any _ (L.Sig.below HG.out HB1.out)) ?_
        rintro e w2 ⟨rfl, hb2⟩
        have HB2 : Hid (_) := HB1.out.trans (hb2.mono HB1.out.size)
        clear hb2
        go_wp2_with fail
        go_ret
        exact ⟨rfl, HB2.out⟩
      · have HO := HOK.out
        rw [if_neg hfit] at HO
        simp only [Bool.and_eq_true, decide_eq_true_eq] at HO
        have hz : (Ps.parse (deepT [123] [125] [] j)).1.length = 0 := by
          have := HO.2
          unfold Ps.okP at this
          simp only [Bool.and_eq_true] at this
          simpa using this.2
        have HP : Hid (∀ b : ByteArray, b.data.toList = S.data.toList ++ [] ++ E.data.toList → _) := fun b h => Parse_ofB (HSS.out b h) HO.2 w HG.out
        have hat : ((Ps.parse (deepT [123] [125] [] j)).2.1 : Int) ≤ j := by have := HO.1; omega
        have hfi : ¬ (0 : Int) + 1 * j ≤ 40 := by omega
        have hfi2 : ¬ (j : Int) ≤ 40 := by omega
        have hdec : decide ((j : Int) ≤ 40) = false := by simpa using hfi2
        rw [hz] at HP
        clear HO HOK HSS hz
        generalize (Ps.parse (deepT [123] [125] [] j)).2.1 = pa at *
        go_wp2_with fail
        refine Calls.mono (HP.out _ (by simp)) ?_
        rintro e w1 ⟨ad, cap, rfl, _, hb1⟩
        have HB1 : Hid (Below w.heap.size w w1) := hb1
        clear hb1 HP
        go_wp2_with fail
        refine Calls.mono (awake_any _ (L.Sig.below HG.out HB1.out)) ?_
        rintro e w2 ⟨rfl, hb2⟩
        have HB2 : Hid (_) := HB1.out.trans (hb2.mono HB1.out.size)
        clear hb2
        go_wp2_with fail
        go_ret
        exact ⟨rfl, HB2.out⟩
theorem parseDeep_walk (a0 a1 : Int) (w : World) (ha0 : 0 ≤ a0 ∧ a0 ≤ 255) (ha1 : 0 ≤ a1 ∧ a1 ≤ 255) (hg : L.Sig w) :
    Calls Tryd.prog 3 #[.int .u8 a0, .int .u8 a1] w fun e w' => e = .returned (.bool true) ∧ Below w.heap.size w w' := by
  obtain ⟨k, hm⟩ : ∃ k : Nat, a0 % 60 = (k : Int) := ⟨(a0 % 60).toNat, by omega⟩
  have hk : k < 60 := by omega
  have : a1 % 4 = 0 ∨ a1 % 4 = 1 ∨ a1 % 4 = 2 ∨ a1 % 4 = 3 := by omega
  rcases this with h | h | h | h
  · exact deep0 a0 a1 k w ha0 ha1 hm h hk hg
  · exact deep1 a0 a1 k w ha0 ha1 hm h hk hg
  · exact deep2 a0 a1 k w ha0 ha1 hm h hk hg
  · exact deep3 a0 a1 k w ha0 ha1 hm h hk hg
end Go.Proofs.YtoeolonbkeldoaaDoor.R
