/- Texts: SfM. -/
import Derived.Test.YtkaacmghgobhmaaBn23
import Derived.Test.YtkaacmghgobhmaaBn27
namespace Go.Proofs.Ytkaacmghgobhmaa.Rd
open Go.RowKit
set_option linter.unusedVariables false
theorem BelH.drew {b : Nat} {w W : World} (h : Hid (Below b w W)) : Hid (Below b w W.drew) := (show Below b w W.drew from h.out.drew)
set_option maxRecDepth 100000 in
set_option maxHeartbeats 400000000 in
theorem scopeMade_core (w : World) (a1 : Option Addr) (n1 c1 : Nat) (at' : Nat) (hat : at' < 65536) (a2 : Option Addr) (n2 c2 m2 : Nat) (zs : List Int) (h2 : L.IsB w a2 n2 c2 zs) (hm2 : m2 = min n2 4)
    (HP : Hid (Calls Try.prog 10 #[.slice a1 n1 c1] w fun e w' => ∃ s : ByteArray, e = .returned (.string s) ∧ 1 ≤ s.size ∧ s.size ≤ 200000 ∧ Below w.heap.size w w'))
    (HM : Hid (∀ W, Hid (Below w.heap.size w W) → Calls Try.prog 11 #[.slice a2 m2 c2] W fun e w' => ∃ s : ByteArray, e = .returned (.string s) ∧ s.size ≤ 720 ∧ Hid (Below w.heap.size w w')))
    (HI : Hid (∀ s W, Hid (Below w.heap.size w W) → Calls Try.prog 8 #[.string s] W fun e w' => e = .returned (.bool true) ∧ Hid (Below w.heap.size w w')))
    (HK : Hid (∀ W, Hid (Below w.heap.size w W) → Calls Try.prog 9 #[] W fun e w' => e = .returned (.bool true) ∧ Hid (Below w.heap.size w w'))) :
    Calls Try.prog 4 #[.slice a1 n1 c1, .int .u16 (at' : Int), .slice a2 n2 c2] w fun e w' => e = .returned (.bool true) ∧ Below w.heap.size w w' := by
  have hnil : a2 = none → n2 = 0 ∧ c2 = 0 := by
    rintro rfl
    rcases h2 with ⟨_, h1, h2, _⟩ | ⟨x, hx, _⟩
    · exact ⟨h1, h2⟩
    · cases hx
  obtain ⟨Z, hzl, hlc, hcm, _, _⟩ := h2.ns
  subst hzl
  unfold maxLen at hcm
  clear h2
  go_enter Try.func4, Try.ntmps4
  go_wp2_with fail
  refine Calls.mono HP.out ?_
  rintro e w1 ⟨s, rfl, hs1, hs2, hb1⟩
  have HB1 : Hid (_) := hb1
  clear hb1 HP
  by_cases hl : 2500 < s.size
  · have hl' : (2500 : Int) < s.size := by omega
    clear hm2 hnil
    go_wp2_with fail
    refine Calls.mono (HK.out _ HB1) ?_
    rintro e w2 ⟨rfl, hb2⟩
    clear HK HB1 HM HI
    go_wp2_with fail
    go_ret
    exact ⟨rfl, hb2.out⟩
  · have hl' : ¬ (2500 : Int) < s.size := by omega
    have hs0 : ¬ (s.size : Int) = 0 := by omega
    have hwr : IntKind.i64.wrap (at' : Int) = at' := by rw [IntKind.wrap_i64]; omega
    have hmod : (at' : Int) % s.size = ((at' % s.size : Nat) : Int) := by omega
    have hk : at' % s.size < s.size := Nat.mod_lt _ (by omega)
    generalize at' % s.size = k at *
    have hkn : k ≤ s.size := by omega
    have hsl : s.size ≤ 2500 := by omega
    have hx1 : (s.extract 0 k).size ≤ 2500 := by rw [ByteArray.size_extract]; omega
    have hx2 : (s.extract k s.size).size ≤ 2500 := by rw [ByteArray.size_extract]; omega
    have hk1 : (k : Int) ≤ s.size := by omega
    have hk0 : (0 : Int) ≤ k := by omega
    clear hat hs1 hs2 hk
    generalize Z.length = nz at *
    rcases a2 with _ | x
    · obtain ⟨rfl, rfl⟩ := hnil rfl
      obtain rfl : m2 = 0 := by omega
      have hmn : min ((0 : Nat) : Int) 4 = ((0 : Nat) : Int) := by omega
      have hmn' : min (0 : Int) 4 = 0 := by omega
      clear hm2 hnil hlc hcm
      go_upto_region 5 with fail
      go_region_held3 (fun W => Hid (Below w.heap.size w W)) (first | assumption | exact BelH.drew (by assumption)) (first | (go_at_call 11; refine Calls.mono (HM.out _ (by first | assumption | exact BelH.drew (by assumption))) ?_; rintro e wT ⟨t, rfl, ht, hTb⟩; have g1 : ¬ 9223372036854775807 < (s.extract 0 k).size + t.size := (by omega); have g2 : ¬ 9223372036854775807 < (s.extract 0 k).size + t.size + (s.extract k s.size).size := (by omega); have g3 : ¬ 9223372036854775807 < min k s.size + t.size := (by omega); have g4 : ¬ 9223372036854775807 < min k s.size + t.size + (s.size - k) := (by omega); have g5 : ¬ 9223372036854775807 < k + t.size := (by omega); have g6 : ¬ 9223372036854775807 < k + t.size + (s.size - k) := (by omega); have g7 : min k s.size = k := (by omega)) | (go_at_call 9; refine Calls.mono (HK.out _ (by first | assumption | exact BelH.drew (by assumption))) ?_; rintro e wK ⟨rfl, hKb⟩) | (go_at_call 8; refine Calls.mono (HI.out _ _ (by first | assumption | exact BelH.drew (by assumption))) ?_; rintro e wI ⟨rfl, hIb⟩))
      all_goals
        clear HM HI HK
        go_wp2_with fail
        go_ret
        exact ⟨rfl, Hid.out (by first | assumption | exact BelH.drew (by assumption))⟩
    · have hlz : (0 : Int) ≤ nz := by omega
      have hlc' : (nz : Int) ≤ c2 := by omega
      have hmc : (m2 : Int) ≤ c2 := by omega
      have hm0 : (0 : Int) ≤ m2 := by omega
      have hmn : min (nz : Int) 4 = m2 := by omega
      clear hm2 hnil
      go_upto_region 5 with fail
      go_region_held3 (fun W => Hid (Below w.heap.size w W)) (first | assumption | exact BelH.drew (by assumption)) (first | (go_at_call 11; refine Calls.mono (HM.out _ (by first | assumption | exact BelH.drew (by assumption))) ?_; rintro e wT ⟨t, rfl, ht, hTb⟩; have g1 : ¬ 9223372036854775807 < (s.extract 0 k).size + t.size := (by omega); have g2 : ¬ 9223372036854775807 < (s.extract 0 k).size + t.size + (s.extract k s.size).size := (by omega); have g3 : ¬ 9223372036854775807 < min k s.size + t.size := (by omega); have g4 : ¬ 9223372036854775807 < min k s.size + t.size + (s.size - k) := (by omega); have g5 : ¬ 9223372036854775807 < k + t.size := (by omega); have g6 : ¬ 9223372036854775807 < k + t.size + (s.size - k) := (by omega); have g7 : min k s.size = k := (by omega)) | (go_at_call 9; refine Calls.mono (HK.out _ (by first | assumption | exact BelH.drew (by assumption))) ?_; rintro e wK ⟨rfl, hKb⟩) | (go_at_call 8; refine Calls.mono (HI.out _ _ (by first | assumption | exact BelH.drew (by assumption))) ?_; rintro e wI ⟨rfl, hIb⟩))
      all_goals
        clear HM HI HK
        go_wp2_with fail
        go_ret
        exact ⟨rfl, Hid.out (by first | assumption | exact BelH.drew (by assumption))⟩
theorem addr_lt {w : World} {p : Addr} {v : Value} (h : w.cell? p = some v) : p.block < w.heap.size := by
  rcases Nat.lt_or_ge p.block w.heap.size with hg | hg
  · exact hg
  · simp [World.cell?, Array.getElem?_eq_none hg] at h
theorem isB_take {w W : World} {a : Option Addr} {n c : Nat} {zs : List Int} (h : L.IsB w a n c zs) (m : Nat) (hm : m ≤ n) (hb : Below w.heap.size w W) : L.IsB W a m c zs := by
  rcases h with ⟨rfl, rfl, rfl, rfl⟩ | ⟨x, rfl, h1, h2, h3, h4, h5⟩
  · exact .inl ⟨rfl, by omega, rfl, rfl⟩
  · exact .inr ⟨x, rfl, by omega, h2, h3, fun i hi => (hb.cell (addr_lt (h4 i hi))).trans (h4 i hi), h5⟩
theorem scopeMade_walk (w : World) (a1 : Option Addr) (n1 c1 : Nat) (z1 : List Int) (h1 : L.IsB w a1 n1 c1 z1) (k : Nat) (hk : k < 65536) (a2 : Option Addr) (n2 c2 : Nat) (z2 : List Int) (h2 : L.IsB w a2 n2 c2 z2) :
    Calls Try.prog 4 #[.slice a1 n1 c1, .int .u16 (k : Int), .slice a2 n2 c2] w fun e w' => e = .returned (.bool true) ∧ Below w.heap.size w w' :=
  scopeMade_core w a1 n1 c1 k hk a2 n2 c2 (min n2 4) z2 h2 rfl (show Calls _ _ _ _ _ from W8.program_any w a1 n1 c1 z1 h1)
    (show ∀ W, _ → _ from fun W hW => (L.made_any _ _ _ z2 W (isB_take h2 _ (Nat.min_le_left _ _) hW.out)).mono (by
      rintro e w' ⟨s, rfl, h, hb⟩
      exact ⟨s, rfl, h, (show Below _ _ _ from hW.out.trans (hb.mono hW.out.size))⟩))
    (show ∀ s W, _ → _ from fun s W hW => (scopeIs_any s W).mono (by
      rintro e w' ⟨rfl, hb⟩
      exact ⟨rfl, (show Below _ _ _ from hW.out.trans (hb.mono hW.out.size))⟩))
    (show ∀ W, _ → _ from fun W hW => (awake_any W).mono (by
      rintro e w' ⟨rfl, hb⟩
      exact ⟨rfl, (show Below _ _ _ from hW.out.trans (hb.mono hW.out.size))⟩))
end Go.Proofs.Ytkaacmghgobhmaa.Rd
