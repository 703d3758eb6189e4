/- Texts: SfH SfI LBits W8A. -/
import Derived.Test.YtkaacmghgobhmaaBn22
import Derived.Deep.RegionHeld3
import Derived.Test.YtkaacmghgobhmaaBn01
import Derived.OpenShut
import Derived.Deep.QuietTactic
import Derived.BigQuiet
section
namespace Go.Proofs.Ytkaacmghgobhmaa.Rd
open Go.RowKit
open L (tkA own_block own_below info_of wpList_append_run)
open Rp (Wf kindAt kidsAt)
set_option linter.unusedVariables false
/-- Spots, as they lie. -/
def SpotsIn (W : World) (v : Value) (n : Nat) (S : Nat → Int × Int) : Prop := ∃ ad cap, v = .slice ad n cap ∧ n ≤ cap ∧ (n = 0 ∨ ∃ g, ad = some ⟨g, 0, none⟩ ∧ g < W.heap.size ∧ ∀ j, j < n → W.cell? ⟨g, j * 2, none⟩ = some (.int .i64 (S j).1) ∧ W.cell? ⟨g, j * 2 + 1, none⟩ = some (.int .i64 (S j).2))
def NumsIn (W : World) (v : Value) (n : Nat) (S : Nat → Int) : Prop := ∃ ad cap, v = .slice ad n cap ∧ n ≤ cap ∧ (n = 0 ∨ ∃ g, ad = some ⟨g, 0, none⟩ ∧ g < W.heap.size ∧ ∀ j, j < n → W.cell? ⟨g, j, none⟩ = some (.int .i64 (S j)))
theorem SpotsIn.below {W W' : World} {v : Value} {n : Nat} {S : Nat → Int × Int} (h : SpotsIn W v n S) (hb : Below W.heap.size W W') : SpotsIn W' v n S := by
  obtain ⟨ad, cap, e, hc, hcell⟩ := h
  exact ⟨ad, cap, e, hc, hcell.imp id fun ⟨g, e, hg, hj⟩ => ⟨g, e, Nat.lt_of_lt_of_le hg hb.size, fun j hjn => ⟨(hb.cell (p := ⟨g, j * 2, none⟩) hg).trans (hj j hjn).1, (hb.cell (p := ⟨g, j * 2 + 1, none⟩) hg).trans (hj j hjn).2⟩⟩⟩
theorem NumsIn.below {W W' : World} {v : Value} {n : Nat} {S : Nat → Int} (h : NumsIn W v n S) (hb : Below W.heap.size W W') : NumsIn W' v n S := by
  obtain ⟨ad, cap, e, hc, hcell⟩ := h
  exact ⟨ad, cap, e, hc, hcell.imp id fun ⟨g, e, hg, hj⟩ => ⟨g, e, Nat.lt_of_lt_of_le hg hb.size, fun j hjn => (hb.cell (p := ⟨g, j, none⟩) hg).trans (hj j hjn)⟩⟩
theorem flat_at (F : Nat → Value × Value) : ∀ (n j : Nat), j < n → (((List.range n).map fun i => [(F i).1, (F i).2]).flatten)[j * 2]? = some (F j).1 ∧ (((List.range n).map fun i => [(F i).1, (F i).2]).flatten)[j * 2 + 1]? = some (F j).2
  | 0, j, h => by omega
  | n + 1, j, h => by
    have hl : (((List.range n).map fun i => [(F i).1, (F i).2]).flatten).length = n * 2 := by
      rw [List.length_flatten, List.map_map]
      have : (List.map (List.length ∘ fun i => [(F i).1, (F i).2]) (List.range n)) = List.replicate n 2 := by
        apply List.ext_getElem
        · simp
        · intro i h1 h2; simp
      rw [this, List.sum_replicate_nat]
    rw [List.range_succ, List.map_append, List.flatten_append]
    by_cases e : j < n
    · obtain ⟨h1, h2⟩ := flat_at F n j e
      refine ⟨?_, ?_⟩
      · rw [List.getElem?_append_left (by rw [hl]; omega)]; exact h1
      · rw [List.getElem?_append_left (by rw [hl]; omega)]; exact h2
    · have : j = n := by omega
      subst this
      refine ⟨?_, ?_⟩
      · rw [List.getElem?_append_right (by rw [hl]; omega), hl]; simp
      · rw [List.getElem?_append_right (by rw [hl]; omega), hl]; simp
theorem rspots_in {w1 W : World} {v : Value} {l : List Ps.Nd} {n : Nat} (h : OwnR 40 2 w1 W v n (spotsTo l n)) : SpotsIn W v n (Sr.spot l) := by
  obtain ⟨ad, cap, rfl, hc, hcell⟩ := h.cells
  refine ⟨ad, cap, rfl, hc, hcell.imp id ?_⟩
  rintro ⟨g, rfl, _, hg, hj⟩
  refine ⟨g, rfl, hg, fun j hjn => ?_⟩
  obtain ⟨h1, h2⟩ := flat_at (fun i => (Value.int .i64 (Sr.spot l i).1, Value.int .i64 (Sr.spot l i).2)) n j hjn
  exact ⟨(hj (j * 2) (by omega)).trans h1, (hj (j * 2 + 1) (by omega)).trans h2⟩
theorem rslots_in {w1 W : World} {v : Value} {l : List Ps.Nd} {n : Nat} (h : OwnR 3 1 w1 W v n (slotsTo l n)) : NumsIn W v n (Sr.slot l) := by
  obtain ⟨ad, cap, rfl, hc, hcell⟩ := h.cells
  refine ⟨ad, cap, rfl, hc, hcell.imp id ?_⟩
  rintro ⟨g, rfl, _, hg, hj⟩
  refine ⟨g, rfl, hg, fun j hjn => (hj j (by omega)).trans ?_⟩
  unfold slotsTo
  rw [List.getElem?_map, List.getElem?_range hjn]; rfl
set_option maxRecDepth 100000 in
set_option maxHeartbeats 1000000 in
theorem same_any {W : World} {va vb : Value} {n : Nat} {S : Nat → Int × Int} (ha : SpotsIn W va n S) (hb : SpotsIn W vb n S) (hn : n ≤ 1000000) :
    Calls Try.prog 15 #[va, vb] W fun e w' => e = .returned (.bool true) ∧ Below W.heap.size W w' := by
  obtain ⟨aa, ca, rfl, hca, hcella⟩ := ha
  obtain ⟨ab, cb, rfl, hcb, hcellb⟩ := hb
  have HA : Hid (_) := hcella
  have HB : Hid (_) := hcellb
  have H0 : Hid (Below W.heap.size W W) := (show Below _ _ _ from Below.refl _ _)
  clear hcella hcellb
  go_enter Try.func15, Try.ntmps15
  go_wp2_with fail
  go_loopw [5] (fun i w => ∃ k : Nat, k ≤ n ∧ i = .int .i64 (k : Int) ∧ Hid (Below W.heap.size W w)) (fun i _ => n - (L.intOf i).toNat)
  case atStart => exact ⟨0, by omega, rfl, H0⟩
  case round =>
    obtain ⟨k, hk, rfl, HW⟩ := hrel
    clear H0
    by_cases hkn : k < n
    · have hkn' : (k : Int) < n := by omega
      have hk0 : (0 : Int) ≤ k := by omega
      obtain ⟨ga, rfl, hga, qa⟩ := HA.out.resolve_left (by omega)
      obtain ⟨gb, rfl, hgb, qb⟩ := HB.out.resolve_left (by omega)
      have a1 := (HW.out.cell (p := ⟨ga, k * 2, none⟩) hga).trans (qa k hkn).1
      have a2 := (HW.out.cell (p := ⟨ga, k * 2 + 1, none⟩) hga).trans (qa k hkn).2
      have b1 := (HW.out.cell (p := ⟨gb, k * 2, none⟩) hgb).trans (qb k hkn).1
      have b2 := (HW.out.cell (p := ⟨gb, k * 2 + 1, none⟩) hgb).trans (qb k hkn).2
      have hga' := Nat.lt_of_lt_of_le hga HW.out.size
      have hgb' := Nat.lt_of_lt_of_le hgb HW.out.size
      have HW2 : Hid (∀ nq, Below W.heap.size W (wr.drewN nq)) := (show ∀ nq, Below W.heap.size W (wr.drewN nq) from fun nq => HW.out.trans (L.below_drewN _ _ nq))
      clear qa qb HA HB
      generalize (S k).1 = s1 at *
      generalize (S k).2 = s2 at *
      go_upto_region 6 with fail
      go_quiet (fail)
      go_wp2_with fail
      go_roundw
      case rel => exact ⟨k + 1, by omega, by go_num, HW2.out _⟩
      case measure => simp [L.intOf] <;> omega
    · have hkn' : ¬ (k : Int) < n := by omega
      clear HA HB
      go_wp2_with fail
      go_ret
      exact ⟨rfl, HW.out⟩
set_option maxRecDepth 100000 in
set_option maxHeartbeats 1000000 in
theorem sameInts_any {W : World} {va vb : Value} {n : Nat} {S : Nat → Int} (ha : NumsIn W va n S) (hb : NumsIn W vb n S) (hn : n ≤ 1000000) :
    Calls Try.prog 17 #[va, vb] W fun e w' => e = .returned (.bool true) ∧ Below W.heap.size W w' := by
  obtain ⟨aa, ca, rfl, hca, hcella⟩ := ha
  obtain ⟨ab, cb, rfl, hcb, hcellb⟩ := hb
  have HA : Hid (_) := hcella
  have HB : Hid (_) := hcellb
  have H0 : Hid (Below W.heap.size W W) := (show Below _ _ _ from Below.refl _ _)
  clear hcella hcellb
  go_enter Try.func17, Try.ntmps17
  go_wp2_with fail
  go_loopw [5] (fun i w => ∃ k : Nat, k ≤ n ∧ i = .int .i64 (k : Int) ∧ Hid (Below W.heap.size W w)) (fun i _ => n - (L.intOf i).toNat)
  case atStart => exact ⟨0, by omega, rfl, H0⟩
  case round =>
    obtain ⟨k, hk, rfl, HW⟩ := hrel
    clear H0
    by_cases hkn : k < n
    · have hkn' : (k : Int) < n := by omega
      have hk0 : (0 : Int) ≤ k := by omega
      obtain ⟨ga, rfl, hga, qa⟩ := HA.out.resolve_left (by omega)
      obtain ⟨gb, rfl, hgb, qb⟩ := HB.out.resolve_left (by omega)
      have a1 := (HW.out.cell (p := ⟨ga, k, none⟩) hga).trans (qa k hkn)
      have b1 := (HW.out.cell (p := ⟨gb, k, none⟩) hgb).trans (qb k hkn)
      have hga' := Nat.lt_of_lt_of_le hga HW.out.size
      have hgb' := Nat.lt_of_lt_of_le hgb HW.out.size
      have HW2 : Hid (∀ nq, Below W.heap.size W (wr.drewN nq)) := (show ∀ nq, Below W.heap.size W (wr.drewN nq) from fun nq => HW.out.trans (L.below_drewN _ _ nq))
      clear qa qb HA HB
      generalize S k = s1 at *
      go_upto_region 6 with fail
      go_quiet (fail)
      go_wp2_with fail
      go_roundw
      case rel => exact ⟨k + 1, by omega, by go_num, HW2.out _⟩
      case measure => simp [L.intOf] <;> omega
    · have hkn' : ¬ (k : Int) < n := by omega
      clear HA HB
      go_wp2_with fail
      go_ret
      exact ⟨rfl, HW.out⟩
end Go.Proofs.Ytkaacmghgobhmaa.Rd
end
section
namespace Go.Proofs.Ytkaacmghgobhmaa.Rd
open Go.RowKit
open L (tkA own_block own_below info_of wpList_append_run)
open Rp (Wf kindAt kidsAt)
set_option linter.unusedVariables false
/-- The box with the tree. -/
def BxT (B g n cap : Nat) (l : List Ps.Nd) (w W : World) : Prop := W.cell? ⟨B, 0, none⟩ = some (.slice (some ⟨g, 0, none⟩) n cap) ∧ W.cell? ⟨B, 2, none⟩ = some (.bool true) ∧ Hid (B < W.heap.size) ∧ Hid (Told W (.slice (some ⟨g, 0, none⟩) n cap) l ∧ Below w.heap.size w W)
theorem BxT.drew {B g n cap : Nat} {l : List Ps.Nd} {w W : World} (h : BxT B g n cap l w W) : BxT B g n cap l w W.drew := ⟨h.1, h.2.1, h.2.2.1, (show Told _ _ _ ∧ _ from ⟨h.2.2.2.out.1.below (L.below_drewN _ _ 1), h.2.2.2.out.2.trans (L.below_drewN _ _ 1)⟩)⟩
theorem BxT.below {B g n cap : Nat} {l : List Ps.Nd} {w W W' : World} (h : BxT B g n cap l w W) (hb : Below W.heap.size W W') : BxT B g n cap l w W' := by
  obtain ⟨h1, h2, h3, h4⟩ := h
  exact ⟨(hb.cell (p := ⟨B, 0, none⟩) h3.out).trans h1, (hb.cell (p := ⟨B, 2, none⟩) h3.out).trans h2, (show B < _ from Nat.lt_of_lt_of_le h3.out hb.size), h4.out.1.below hb, h4.out.2.trans (hb.mono h4.out.2.size)⟩
set_option maxRecDepth 100000 in
set_option maxHeartbeats 4000000 in
theorem scopeIs_core (s : ByteArray) (g0 n : Nat) (l : List Ps.Nd) (S : Nat → Int × Int) (Z : Nat → Int) (w : World)
    (HP : Hid (Calls Try.prog 12 #[.string s] w fun e w' => ∃ g cap, e = .returned (.agg #[.slice (some ⟨g, 0, none⟩) n cap, .int .i64 0, .bool true]) ∧ Hid (Told w' (.slice (some ⟨g, 0, none⟩) n cap) l) ∧ Hid (Below w.heap.size w w')))
    (HS : Hid (∀ B g cap w0 W, BxT B g n cap l w0 W → Calls Try.prog 13 #[.slice (some ⟨g, 0, none⟩) n cap] W fun e w' => ∃ v, e = .returned v ∧ BxT B g n cap l w0 w' ∧ Hid (Below W.heap.size W w' ∧ SpotsIn w' v n S)))
    (HR : Hid (∀ B g cap w0 W, BxT B g n cap l w0 W → Calls Try.prog 16 #[.slice (some ⟨g, 0, none⟩) n cap] W fun e w' => ∃ v, e = .returned v ∧ BxT B g n cap l w0 w' ∧ Hid (Below W.heap.size W w' ∧ SpotsIn w' v n S)))
    (HA : Hid (∀ B g cap w0 W va vb, BxT B g n cap l w0 W → SpotsIn W va n S → SpotsIn W vb n S → Calls Try.prog 15 #[va, vb] W fun e w' => e = .returned (.bool true) ∧ BxT B g n cap l w0 w'))
    (HZ : Hid (∀ B g cap w0 W, BxT B g n cap l w0 W → Calls Try.prog 14 #[.slice (some ⟨g, 0, none⟩) n cap] W fun e w' => ∃ v, e = .returned v ∧ BxT B g n cap l w0 w' ∧ Hid (Below W.heap.size W w' ∧ NumsIn w' v n Z)))
    (HY : Hid (∀ B g cap w0 W, BxT B g n cap l w0 W → Calls Try.prog 18 #[.slice (some ⟨g, 0, none⟩) n cap] W fun e w' => ∃ v, e = .returned v ∧ BxT B g n cap l w0 w' ∧ Hid (Below W.heap.size W w' ∧ NumsIn w' v n Z)))
    (HI : Hid (∀ B g cap w0 W va vb, BxT B g n cap l w0 W → NumsIn W va n Z → NumsIn W vb n Z → Calls Try.prog 17 #[va, vb] W fun e w' => e = .returned (.bool true) ∧ BxT B g n cap l w0 w')) :
    Calls Try.prog 8 #[.string s] w fun e w' => e = .returned (.bool true) ∧ Below w.heap.size w w' := by
  go_enter Try.func8, Try.ntmps8
  go_wp2_with fail
  refine Calls.mono HP.out ?_
  rintro e w3 ⟨g, cap, rfl, hT, hb3⟩
  have hb30 : Below w3.heap.size w3 (w3.alloc (.cells #[.slice (some ⟨g, 0, none⟩) n cap, .int .i64 0, .bool true] 31)) := (Below.refl _ _).alloc (Nat.le_refl _) _
  have hA := MapKept.heap_alloc w3 (.cells #[.slice (some ⟨g, 0, none⟩) n cap, .int .i64 0, .bool true] 31)
  have hX : BxT w3.heap.size g n cap l w (w3.alloc (.cells #[.slice (some ⟨g, 0, none⟩) n cap, .int .i64 0, .bool true] 31)) := ⟨by unfold World.cell?; rw [hA.1]; rfl, by unfold World.cell?; rw [hA.1]; rfl, (show w3.heap.size < _ from lt_of_some hA.1), (show Told _ _ _ ∧ _ from ⟨hT.out.below hb30, hb3.out.trans (hb30.mono hb3.out.size)⟩)⟩
  have HSB : Hid (_) := HS.out w3.heap.size g cap w
  have HRB : Hid (_) := HR.out w3.heap.size g cap w
  have HAB : Hid (_) := HA.out w3.heap.size g cap w
  have HZB : Hid (_) := HZ.out w3.heap.size g cap w
  have HYB : Hid (_) := HY.out w3.heap.size g cap w
  have HIB : Hid (_) := HI.out w3.heap.size g cap w
  clear hb3 hT hb30 hA HP HS HR HA HZ HY HI
  go_upto_region 2 with fail
  generalize w3.heap.size = B at *
  generalize w3.alloc (.cells #[.slice (some ⟨g, 0, none⟩) n cap, .int .i64 0, .bool true] 31) = w4 at *
  clear w3
  go_region_held3 (fun W => W.cell? ⟨B, 0, none⟩ = some (.slice (some ⟨g, 0, none⟩) n cap) ∧ W.cell? ⟨B, 2, none⟩ = some (.bool true) ∧ Hid (B < W.heap.size) ∧ Hid (Told W (.slice (some ⟨g, 0, none⟩) n cap) l ∧ Below w.heap.size w W)) (first | assumption | exact BxT.drew (by assumption)) (first | (go_at_call 13; refine Calls.mono (HSB.out _ (by first | assumption | exact BxT.drew (by assumption))) ?_; rintro e w5 ⟨v5, rfl, hS5, HQ5⟩) | (go_at_call 16; refine Calls.mono (HRB.out _ (by first | assumption | exact BxT.drew (by assumption))) ?_; rintro e w6 ⟨v6, rfl, hS6, HQ6⟩) | (go_at_call 15; refine Calls.mono (HAB.out _ _ _ (by first | assumption | exact BxT.drew (by assumption)) (HQ5.out.2.below HQ6.out.1) HQ6.out.2) ?_; rintro e w7 ⟨rfl, hS7⟩) | (go_at_call 14; refine Calls.mono (HZB.out _ (by first | assumption | exact BxT.drew (by assumption))) ?_; rintro e w8 ⟨v8, rfl, hS8, HQ8⟩) | (go_at_call 18; refine Calls.mono (HYB.out _ (by first | assumption | exact BxT.drew (by assumption))) ?_; rintro e w9 ⟨v9, rfl, hS9, HQ9⟩) | (go_at_call 17; refine Calls.mono (HIB.out _ _ _ (by first | assumption | exact BxT.drew (by assumption)) (HQ8.out.2.below HQ9.out.1) HQ9.out.2) ?_; rintro e w10 ⟨rfl, hS10⟩))
  clear HSB HRB HAB HZB HYB HIB hX hS5 HQ5 hS6 HQ6 hS7 hS8 HQ8 hS9 HQ9
  go_wp2_with fail
  go_ret
  exact ⟨rfl, hS10.2.2.2.out.2⟩
set_option maxRecDepth 100000 in
set_option maxHeartbeats 1000000 in
theorem scopeIs_bad (s : ByteArray) (w : World) (HP : Hid (Calls Try.prog 12 #[.string s] w fun e w' => ∃ (ad : Option Addr) (n cap a : Nat), e = .returned (.agg #[.slice ad n cap, .int .i64 (a : Int), .bool false]) ∧ Hid (Below w.heap.size w w'))) :
    Calls Try.prog 8 #[.string s] w fun e w' => e = .returned (.bool true) ∧ Below w.heap.size w w' := by
  go_enter Try.func8, Try.ntmps8
  go_wp2_with fail
  refine Calls.mono HP.out ?_
  rintro e w3 ⟨ad, n, cap, a, rfl, hb3⟩
  have HB : Hid (∀ o n, Below w.heap.size w ((w3.alloc o).drewN n)) := (show ∀ o n, Below w.heap.size w ((w3.alloc o).drewN n) from fun o n => (hb3.out.alloc hb3.out.size o).trans (L.below_drewN _ _ n))
  clear hb3 HP
  go_upto_region 2 with fail
  go_quiet (fail)
  go_wp2_with fail
  go_ret
  exact ⟨rfl, HB.out _ _⟩
theorem rparse_at0 (U : List UInt8) (h : (Rp.rparse U).2.2 = true) : Rp.rparse U = ((Rp.rparse U).1, 0, true) := by
  rw [rparse_fin] at h ⊢
  by_cases h1 : 4096 < U.length
  · rw [if_pos h1] at h; cases h
  · rw [if_neg h1] at h ⊢
    by_cases h2 : (fin U).2.bad = true
    · rw [if_pos h2] at h; cases h
    · rw [if_neg h2]
theorem scopeIs_any (s : ByteArray) (w : World) : Calls Try.prog 8 #[.string s] w fun e w' => e = .returned (.bool true) ∧ Below w.heap.size w w' := by
  have hp := rParse_any s.data.toList w (fun h => Nat.le_trans (Rp.fews _ h) (by omega))
  rw [L.mk_list] at hp
  cases hok : (Rp.rparse s.data.toList).2.2 with
  | false =>
    rw [hok] at hp
    refine scopeIs_bad s w (hp.mono ?_)
    rintro e w' ⟨v, rfl, ht, hb⟩
    obtain ⟨_, ad, cap, _, rfl, _⟩ := id ht
    exact ⟨ad, _, cap, _, rfl, hb⟩
  | true =>
    have hf := fit_rparse _ hok
    have hw := Rp.rparse_wf _ hok
    have e0 := rparse_at0 _ hok
    have ea : (Rp.rparse s.data.toList).2.1 = 0 := by rw [e0]
    rw [hok, ea] at hp
    generalize (Rp.rparse s.data.toList).1 = l at *
    have hspot : ∀ j, j < l.length → Sc.spot l (Sc.found l) j = Sr.spot l j := fun j hj => Sr.spot_eq hw hj
    have hslot : ∀ j, j < l.length → slotOf (Sc.found l) ((Sc.found l).own.getD j 0) = Sr.slot l j := fun j hj => Sr.slot_eq hw hj
    refine scopeIs_core s 0 l.length l (Sr.spot l) (Sr.slot l) w (hp.mono ?_) ?_ ?_ ?_ ?_ ?_ ?_
    · rintro e w' ⟨v, rfl, ht, hb⟩
      obtain ⟨g, cap, rfl, _⟩ := ht.kidsIn hf.ne
      exact ⟨g, cap, rfl, ht, hb⟩
    · intro B g cap w0 W hB
      refine (spots_any hf hB.2.2.2.out.1).mono ?_
      rintro e w' ⟨R, rfl, _, hb, hs⟩
      refine ⟨_, rfl, hB.below hb, (show Below _ _ _ ∧ _ from ⟨hb, some ⟨R, 0, none⟩, l.length, rfl, Nat.le_refl _, .inr ⟨R, rfl, hs.lt, fun j hj => ?_⟩⟩)⟩
      have := hs.cells hj
      rw [hspot j hj] at this
      exact this
    · intro B g cap w0 W hB
      refine (rspots_any hf hw hB.2.2.2.out.1).mono ?_
      rintro e w' ⟨v, rfl, hb, w1, ho⟩
      exact ⟨v, rfl, hB.below hb, (show Below _ _ _ ∧ _ from ⟨hb, rspots_in ho⟩)⟩
    · intro B g cap w0 W va vb hB ha hb
      refine (same_any ha hb hf.few).mono ?_
      rintro e w' ⟨rfl, hb⟩
      exact ⟨rfl, hB.below hb⟩
    · intro B g cap w0 W hB
      refine (slots_any hf hB.2.2.2.out.1).mono ?_
      rintro e w' ⟨R, rfl, _, hb, hs⟩
      refine ⟨_, rfl, hB.below hb, (show Below _ _ _ ∧ _ from ⟨hb, some ⟨R, 0, none⟩, l.length, rfl, Nat.le_refl _, .inr ⟨R, rfl, hs.lt, fun j hj => ?_⟩⟩)⟩
      have := hs.cells hj
      rw [hslot j hj] at this
      exact this
    · intro B g cap w0 W hB
      refine (rslots_any hf hw hB.2.2.2.out.1).mono ?_
      rintro e w' ⟨v, rfl, hb, w1, ho⟩
      exact ⟨v, rfl, hB.below hb, (show Below _ _ _ ∧ _ from ⟨hb, rslots_in ho⟩)⟩
    · intro B g cap w0 W va vb hB ha hb
      refine (sameInts_any ha hb hf.few).mono ?_
      rintro e w' ⟨rfl, hb⟩
      exact ⟨rfl, hB.below hb⟩
set_option maxRecDepth 100000 in
set_option maxHeartbeats 1000000 in
theorem scopeAll_core (s : ByteArray) (w : World)
    (HI : Hid (∀ W, Calls Try.prog 8 #[.string s] W fun e w' => e = .returned (.bool true) ∧ Below W.heap.size W w'))
    (HK : Hid (∀ W, Calls Try.prog 9 #[] W fun e w' => e = .returned (.bool true) ∧ Below W.heap.size W w')) :
    Calls Try.prog 3 #[.string s] w fun e w' => e = .returned (.bool true) ∧ Below w.heap.size w w' := by
  by_cases hl : 1500 < s.size
  · have hl' : (1500 : Int) < s.size := by omega
    have HB : Hid (Below w.heap.size w w) := (show Below _ _ _ from Below.refl _ _)
    clear HI HK
    go_enter Try.func3, Try.ntmps3
    go_wp2_with fail
    go_ret
    exact ⟨rfl, HB.out⟩
  · have hl' : ¬ (1500 : Int) < s.size := by omega
    go_enter Try.func3, Try.ntmps3
    go_wp2_with fail
    refine Calls.mono (HI.out _) ?_
    rintro e w1 ⟨rfl, hb1⟩
    have HB1 : Hid (_) := hb1
    clear hb1 HI
    go_wp2_with fail
    refine Calls.mono (HK.out _) ?_
    rintro e w2 ⟨rfl, hb2⟩
    have HB2 : Hid (_) := HB1.out.trans (hb2.mono HB1.out.size)
    clear hb2 HK
    go_wp2_with fail
    go_ret
    exact ⟨rfl, HB2.out⟩
theorem scopeAll_walk (s : ByteArray) (w : World) : Calls Try.prog 3 #[.string s] w fun e w' => e = .returned (.bool true) ∧ Below w.heap.size w w' :=
  scopeAll_core s w (fun W => scopeIs_any s W) (fun W => awake_any W)
end Go.Proofs.Ytkaacmghgobhmaa.Rd
end
section
namespace Go.Proofs.Ytkaacmghgobhmaa.L
open Go.RowKit
set_option linter.unusedVariables false
/-- The bytes Z lie from the address on. -/
def Ns (w : World) (ad : Option Addr) (Z : List Nat) : Prop :=
  Z.length = 0 ∨ ∃ b off, ad = some ⟨b, off, none⟩ ∧ b < w.heap.size ∧ ∀ j (h : j < Z.length), w.cell? ⟨b, off + j, none⟩ = some (.int .u8 ((Z[j] : Nat) : Int))
theorem Ns.below {w w' : World} {ad : Option Addr} {Z : List Nat} (h : Ns w ad Z) (hb : Below w.heap.size w w') : Ns w' ad Z := by
  rcases h with h | ⟨b, off, h1, h2, h3⟩
  · exact .inl h
  · exact .inr ⟨b, off, h1, Nat.lt_of_lt_of_le h2 hb.size, fun j hj => (hb.cell h2).trans (h3 j hj)⟩
theorem Ns.at_ {w : World} {ad : Option Addr} {Z : List Nat} (h : Ns w ad Z) (hz : ∀ z ∈ Z, z < 256) {j : Nat} (hj : j < Z.length) : ∃ b off z, ad = some ⟨b, off, none⟩ ∧ b < w.heap.size ∧ w.cell? ⟨b, off + j, none⟩ = some (.int .u8 ((z : Nat) : Int)) ∧ z < 256 ∧ Z[j]? = some z := by
  rcases h with h | ⟨b, off, h1, h2, h3⟩
  · omega
  · exact ⟨b, off, Z[j], h1, h2, h3 j hj, hz _ (List.getElem_mem hj), List.getElem?_eq_getElem hj⟩
/-- What the walk is told of a slice of bytes that came in. -/
def IsB (w : World) (a : Option Addr) (len cap : Nat) (zs : List Int) : Prop :=
  (a = none ∧ len = 0 ∧ cap = 0 ∧ zs = []) ∨
  ∃ x, a = some x ∧ len ≤ cap ∧ cap ≤ maxLen ∧ zs.length = cap ∧ (∀ i, i < zs.length → w.cell? (x.add i) = some (.int .u8 (zs.getD i 0))) ∧ ∀ n ∈ zs, (Lit.int .u8 n).wf = true
theorem bytes_at {w : World} {a : Addr} {zs : List Int} (h : ∀ i, i < zs.length → w.cell? (a.add i) = some (.int .u8 (zs.getD i 0))) (hp : 0 < zs.length) :
    ∃ b off, a = ⟨b, off, none⟩ ∧ ∀ j, j < zs.length → w.cell? ⟨b, off + j, none⟩ = some (.int .u8 (zs.getD j 0)) := by
  obtain ⟨b, off, spot⟩ := a
  have hspot : spot = none := by simpa [Addr.add] using World.cell?_spot (h 0 hp)
  subst hspot
  exact ⟨b, off, rfl, fun j hj => by rw [← Go.WideShapes.add_plain]; exact h j hj⟩
theorem cell_lt {w : World} {b i : Nat} {v : Value} (h : w.cell? ⟨b, i, none⟩ = some v) : b < w.heap.size := by
  rcases Nat.lt_or_ge b w.heap.size with hg | hg
  · exact hg
  · simp [World.cell?, Array.getElem?_eq_none hg] at h
theorem IsB.ns {w : World} {a : Option Addr} {len cap : Nat} {zs : List Int} (h : IsB w a len cap zs) :
    ∃ Z : List Nat, Z.length = len ∧ len ≤ cap ∧ cap ≤ maxLen ∧ Ns w a Z ∧ ∀ z ∈ Z, z < 256 := by
  rcases h with ⟨rfl, rfl, rfl, rfl⟩ | ⟨x, rfl, hl, hm, hz, hc, hw⟩
  · exact ⟨[], rfl, Nat.le_refl _, Nat.zero_le _, .inl rfl, by simp⟩
  · refine ⟨(zs.take len).map Int.toNat, by rw [List.length_map, List.length_take]; omega, hl, hm, ?_, ?_⟩
    · by_cases h0 : len = 0
      · exact .inl (by simp [h0])
      · obtain ⟨b, off, rfl, hc2⟩ := bytes_at hc (by omega)
        refine .inr ⟨b, off, rfl, cell_lt (hc2 0 (by omega)), fun j hj => ?_⟩
        rw [List.length_map, List.length_take] at hj
        have hj2 : j < zs.length := by omega
        have hb := bounds_u8 (hw zs[j] (List.getElem_mem hj2))
        rw [hc2 j hj2]
        simp [List.getD, List.getElem?_eq_getElem hj2]
        omega
    · intro z hz2
      obtain ⟨n, hn, rfl⟩ := List.mem_map.1 hz2
      have hb := bounds_u8 (hw n (List.mem_of_mem_take hn))
      omega
def bitsL : List (List UInt8) := [[97], [98, 49], [36], [95, 120], [108, 101, 116], [99, 111, 110, 115, 116], [102, 117, 110, 99, 116, 105, 111, 110], [48], [55], [52, 50], [48, 48, 55], [50, 49, 52, 55, 52, 56, 51, 54, 52, 55], [50, 49, 52, 55, 52, 56, 51, 54, 52, 56], [51, 120], [34, 34], [34, 97, 32, 98, 34], [34, 92, 110, 92, 34, 34], [34, 92, 113, 34], [34], [40], [41], [123], [125], [91], [93], [59], [44], [46], [63], [58], [61], [61, 61], [61, 61, 61], [33], [33, 61], [33, 61, 61], [60], [60, 61], [62], [62, 61], [43], [45], [42], [47], [37], [38], [38, 38], [124], [124, 124], [47, 47], [47, 47, 32, 110, 111, 116, 101, 10], [32], [10], [9], [35], [128], [116, 114, 117, 101], [110, 117, 108, 108], [116, 104, 105, 115], [116, 121, 112, 101, 111, 102], [105, 102], [101, 108, 115, 101]]
theorem bits_any (w : World) : Calls Try.prog 20 #[] w fun e w' => e = .returned (.slice (some ⟨w.heap.size, 0, none⟩) 62 62) ∧ w' = w.alloc (.cells (strV bitsL) 9) := by
  go_enter Try.func20, Try.ntmps20
  go_wp2
  go_ret
  exact ⟨rfl, rfl⟩
theorem bits_small : ∀ s ∈ bitsL, s.length ≤ 10 := by decide
theorem bits_at (k : Nat) (h : k < 62) : ∃ u : ByteArray, u.size ≤ 10 ∧ u = ⟨(bitsL[k]'h).toArray⟩ := ⟨_, bits_small _ (List.getElem_mem (l := bitsL) h), rfl⟩
set_option maxRecDepth 100000 in
set_option maxHeartbeats 2000000 in
theorem made_any (a : Option Addr) (len cap : Nat) (zs : List Int) (w : World) (h : IsB w a len cap zs) :
    Calls Try.prog 11 #[.slice a len cap] w fun e w' => ∃ s : ByteArray, e = .returned (.string s) ∧ s.size ≤ 720 ∧ Below w.heap.size w w' := by
  obtain ⟨Z, rfl, hlc, hcm, hns, hz⟩ := h.ns
  clear h
  unfold maxLen at hcm
  have HBT : Hid (∀ W, Calls Try.prog 20 #[] W fun e w' => ∃ b, e = .returned (.slice (some ⟨b, 0, none⟩) 62 62) ∧ Lies w' b bitsL ∧ Below W.heap.size W w') := fun W => (bits_any W).mono (by
    rintro e w' ⟨rfl, rfl⟩
    exact ⟨_, rfl, lies_alloc _ _ _, (Below.refl _ _).alloc (Nat.le_refl _) _⟩)
  go_enter Try.func11, Try.ntmps11
  go_wp2_with fail
  refine Calls.mono (HBT.out _) ?_
  rintro e w1 ⟨b, rfl, ⟨hbl, hl⟩, hb1⟩
  have hns1 := hns.below hb1
  have HL : Hid (∀ k (h : k < 62), ∃ u : ByteArray, u.size ≤ 10 ∧ w1.cell? ⟨b, k, none⟩ = some (.string u)) := fun k h => by
    obtain ⟨u, hu, rfl⟩ := bits_at k h
    exact ⟨_, hu, hl k h⟩
  have HN : Hid (∀ k, k < Z.length → ∃ (g o z : Nat), a = some ⟨g, o, none⟩ ∧ w1.cell? ⟨g, o + k, none⟩ = some (.int .u8 (z : Int)) ∧ z < 256) := fun k h => by
    obtain ⟨g, o, z, h1, h2, h3, h4, h5⟩ := hns1.at_ hz h
    exact ⟨g, o, z, h1, h3, h4⟩
  have HB1 : Hid (_) := hb1
  clear HBT hns1 hns hz hl hbl hb1
  go_wp2_with fail
  go_loop [4, 5] (fun s i => ∃ (k : Nat) (S : ByteArray), k ≤ 60 ∧ i = .int .i64 (k : Int) ∧ s = .string S ∧ S.size ≤ 12 * k) (fun _ i => 60 - (intOf i).toNat)
  case atStart => exact ⟨0, ⟨#[]⟩, by omega, rfl, rfl, by decide⟩
  case round =>
    obtain ⟨k, S, hk, rfl, rfl, hS⟩ := hrel
    by_cases hlt : k < Z.length
    · have hlt' : (k : Int) < Z.length := by omega
      by_cases h60 : k < 60
      · have h60' : (k : Int) < 60 := by omega
        obtain ⟨g, o, z, ha, hc, hz⟩ := HN.out k hlt
        subst ha
        obtain ⟨u, hu, hcu⟩ := HL.out (z % 62) (Nat.mod_lt _ (by omega))
        have hm : (z : Int) % 62 = ((z % 62 : Nat) : Int) := by omega
        have hm2 : z % 62 < 62 := Nat.mod_lt _ (by omega)
        have hz' : (z : Int) < 256 := by omega
        have hs1 : ¬ 9223372036854775807 < S.size + u.size := by omega
        have hs2 : ¬ 9223372036854775807 < (S ++ u).size + 1 := by simp only [ByteArray.size_append]; omega
        have hsz : (S ++ u).size = S.size + u.size := ByteArray.size_append
        generalize z % 62 = m at *
        by_cases h128 : 128 ≤ z
        · have h128' : (128 : Int) ≤ z := by omega
          clear HN HL
          go_wp2
          go_round
          case rel => exact ⟨k + 1, _, by omega, by go_num, rfl, by have e1 : (⟨#[32]⟩ : ByteArray).size = 1 := rfl; simp only [ByteArray.size_append, e1] at *; omega⟩
          case measure => simp [intOf]; omega
        · have h128' : ¬ (128 : Int) ≤ z := by omega
          clear HN HL
          go_wp2
          go_round
          case rel => exact ⟨k + 1, _, by omega, by go_num, rfl, by have e1 : (⟨#[32]⟩ : ByteArray).size = 1 := rfl; simp only [ByteArray.size_append, e1] at *; omega⟩
          case measure => simp [intOf]; omega
      · have h60' : ¬ (k : Int) < 60 := by omega
        clear HN HL
        go_wp2
        go_ret
        exact ⟨_, rfl, by omega, HB1.out⟩
    · have hlt' : ¬ (k : Int) < Z.length := by omega
      clear HN HL
      go_wp2
      go_ret
      exact ⟨_, rfl, by omega, HB1.out⟩
end Go.Proofs.Ytkaacmghgobhmaa.L
end
section
namespace Go.Proofs.Ytkaacmghgobhmaa.W8
open Go.RowKit
open L (Ns)
set_option linter.unusedVariables false
/-- The numbers that are taken from, as they came in. -/
structure St8 (w0 : World) (p : Nat) (ad : Option Addr) (n cap : Nat) (Z : List Nat) : Prop where
  hp : w0.heap.size ≤ p
  len : Z.length = n
  cap : n ≤ cap
  few : n ≤ 120
  lt : ∀ z ∈ Z, z < 256
  ns : Ns w0 ad Z
/-- The source in its box. -/
structure Src8 (w0 : World) (p : Nat) (ad : Option Addr) (n cap : Nat) (W : World) : Prop where
  bel : Below w0.heap.size w0 W
  box : ∃ a : Nat, a ≤ n ∧ W.heap[p]? = some (.cells #[.slice ad n cap, .int .i64 (a : Int)] 49 (0, 0))
theorem lt8 {W : World} {g : Nat} {o : Obj} (h : W.heap[g]? = some o) : g < W.heap.size := by
  rcases Nat.lt_or_ge g W.heap.size with c | c
  · exact c
  · rw [Array.getElem?_eq_none c] at h; cases h
section
variable {w0 W W' : World} {p n cap : Nat} {ad : Option Addr} {Z : List Nat}
theorem Src8.lt (h : Src8 w0 p ad n cap W) : p < W.heap.size := by
  obtain ⟨a, _, e⟩ := h.box
  exact lt8 e
theorem Src8.below (h : Src8 w0 p ad n cap W) (hb : Below W.heap.size W W') : Src8 w0 p ad n cap W' := by
  have hl := h.lt
  obtain ⟨a, h1, e⟩ := h.box
  exact ⟨h.bel.trans (hb.mono h.bel.size), a, h1, (hb.block p hl).trans e⟩
theorem Src8.drew (h : Src8 w0 p ad n cap W) : Src8 w0 p ad n cap W.drew := h.below (L.below_drewN _ _ 1)
/-- Nothing but the source's box is written. -/
def Fr (p : Nat) (W W' : World) : Prop := W.heap.size ≤ W'.heap.size ∧ ∀ q, q < W.heap.size → q ≠ p → W'.heap[q]? = W.heap[q]?
theorem Fr.refl (p : Nat) (W : World) : Fr p W W := ⟨Nat.le_refl _, fun _ _ _ => rfl⟩
theorem Fr.trans {p : Nat} {a b c : World} (h : Fr p a b) (k : Fr p b c) : Fr p a c := ⟨Nat.le_trans h.1 k.1, fun q h1 h2 => (k.2 q (Nat.lt_of_lt_of_le h1 h.1) h2).trans (h.2 q h1 h2)⟩
theorem Fr.of {p : Nat} {a b : World} (h : Below a.heap.size a b) : Fr p a b := ⟨h.size, fun q h1 _ => h.block q h1⟩
theorem Fr.cell {p : Nat} {a b : World} (h : Fr p a b) {q i : Nat} (h1 : q < a.heap.size) (h2 : q ≠ p) : b.cell? ⟨q, i, none⟩ = a.cell? ⟨q, i, none⟩ := by
  unfold World.cell?; simp only [h.2 q h1 h2]
/-- What a function of the source tells: a text of few bytes; the source goes on. -/
def Tell (w0 : World) (p : Nat) (ad : Option Addr) (n cap B : Nat) (W : World) (e : Ending) (w' : World) : Prop := ∃ s : ByteArray, e = .returned (.string s) ∧ s.size ≤ B ∧ Hid (Src8 w0 p ad n cap w') ∧ Hid (Fr p W w')
set_option maxRecDepth 100000 in
set_option maxHeartbeats 1000000 in
theorem take_any (hst : St8 w0 p ad n cap Z) (m : Nat) (hm : 1 ≤ m) (hm2 : m ≤ 1000) (h : Src8 w0 p ad n cap W) :
    Calls Try.prog 31 #[.pointer (some ⟨p, 0, none⟩), .int .i64 (m : Int)] W fun e w' => ∃ r : Nat, e = .returned (.int .i64 (r : Int)) ∧ r < m ∧ Hid (Src8 w0 p ad n cap w') ∧ Hid (Fr p W w') := by
  have hpl := h.lt
  obtain ⟨a, han, hX⟩ := h.box
  have c0 : W.cell? ⟨p, 0, none⟩ = some (.slice ad n cap) := by unfold World.cell?; rw [hX]; rfl
  have c1 : W.cell? ⟨p, 1, none⟩ = some (.int .i64 (a : Int)) := by unfold World.cell?; rw [hX]; rfl
  have f1 : W.frozen? ⟨p, 1, none⟩ = false := by unfold World.frozen?; rw [hX]; rfl
  have HB : Hid (Src8 w0 p ad n cap W) := h
  have hfew := hst.few
  by_cases ha : n ≤ a
  · have ha' : (n : Int) ≤ a := by omega
    have HD : Hid (∀ nq, Src8 w0 p ad n cap (W.drewN nq) ∧ Fr p W (W.drewN nq)) := (show ∀ nq, Src8 w0 p ad n cap (W.drewN nq) ∧ Fr p W (W.drewN nq) from fun nq => ⟨HB.out.below (L.below_drewN _ _ nq), Fr.of (L.below_drewN _ _ nq)⟩)
    clear h hst hX HB
    go_enter Try.func31, Try.ntmps31
    go_upto_region 1 with fail
    go_quiet (fail)
    go_wp2_with fail
    go_ret
    exact ⟨0, rfl, by omega, (HD.out _).1, (HD.out _).2⟩
  · have ha' : ¬ (n : Int) ≤ a := by omega
    have haa : (a : Int) < n := by omega
    obtain ⟨b, off, z, rfl, hb, hz, hz2, _⟩ := hst.ns.at_ hst.lt (j := a) (by rw [hst.len]; omega)
    have hzb := (h.bel.cell (p := ⟨b, off + a, none⟩) hb).trans hz
    have hbl : b < W.heap.size := Nat.lt_of_lt_of_le hb h.bel.size
    have hbp : ¬ b = p := by have := hst.hp; omega
    have hbp' : ¬ p = b := fun e => hbp e.symm
    have hc : n ≤ cap := hst.cap
    have HN : Hid (∀ nq, Fr p W ((W.drewN nq).setCell ⟨p, 1, none⟩ (.int .i64 ((a : Int) + 1))) ∧ Src8 w0 p (some ⟨b, off, none⟩) n cap ((W.drewN nq).setCell ⟨p, 1, none⟩ (.int .i64 ((a : Int) + 1))) ∧ ((W.drewN nq).setCell ⟨p, 1, none⟩ (.int .i64 ((a : Int) + 1))).heap[p]? = some (.cells #[.slice (some ⟨b, off, none⟩) n cap, .int .i64 ((a : Int) + 1)] 49 (0, 0)) ∧ ((W.drewN nq).setCell ⟨p, 1, none⟩ (.int .i64 ((a : Int) + 1))).cell? ⟨b, off + a, none⟩ = some (.int .u8 (z : Int))) := (show ∀ nq, _ ∧ _ ∧ _ ∧ _ from fun nq => by
      have h2 : ((W.drewN nq).setCell ⟨p, 1, none⟩ (.int .i64 ((a : Int) + 1))).heap[p]? = some (.cells #[.slice (some ⟨b, off, none⟩) n cap, .int .i64 ((a : Int) + 1)] 49 (0, 0)) := by simp [World.setCell, Array.getElem?_modify, hX]
      have hb2 : Below w0.heap.size w0 ((W.drewN nq).setCell ⟨p, 1, none⟩ (.int .i64 ((a : Int) + 1))) := (HB.out.bel.trans (L.below_drewN _ _ nq)).setCell hst.hp _
      refine ⟨⟨by simp [World.setCell], fun q h1 h2 => ?_⟩, ?_⟩
      · rw [Below.heap_setCell _ _ _ _ h2, L.heap_drewN]
      exact ⟨⟨hb2, a + 1, by omega, by rw [h2]; simp⟩, h2, (hb2.cell (p := ⟨b, off + a, none⟩) hb).trans hz⟩)
    have hmod : z % m < m := Nat.mod_lt _ (by omega)
    have hmm : ¬ (m : Int) = 0 := by omega
    have hm0 : (0 : Int) < m := by omega
    clear h hst hX HB han hz hb
    have haa2 : (a : Int) + 1 - 1 = a := by omega
    go_enter Try.func31, Try.ntmps31
    go_upto_region 1 with fail
    go_quiet (fail)
    go_upto_region 4 with fail
    obtain ⟨hfr2, HS2, hX2, hz2⟩ := HN.out nq
    have HFR : Hid (Fr p W _) := hfr2
    have HS3 : Hid (Src8 w0 p (some ⟨b, off, none⟩) n cap _) := HS2
    clear HN HS2 c0 c1 f1 hzb hfr2
    generalize (W.drewN nq).setCell ⟨p, 1, none⟩ (.int .i64 ((a : Int) + 1)) = w2 at *
    have c0 : w2.cell? ⟨p, 0, none⟩ = some (.slice (some ⟨b, off, none⟩) n cap) := by unfold World.cell?; rw [hX2]; rfl
    have c1 : w2.cell? ⟨p, 1, none⟩ = some (.int .i64 ((a : Int) + 1)) := by unfold World.cell?; rw [hX2]; rfl
    have hpl2 : p < w2.heap.size := lt8 hX2
    have hbl2 : b < w2.heap.size := L.cell_lt hz2
    have HD : Hid (∀ nr, Src8 w0 p (some ⟨b, off, none⟩) n cap (w2.drewN nr) ∧ Fr p W (w2.drewN nr)) := (show ∀ nr, Src8 w0 p (some ⟨b, off, none⟩) n cap (w2.drewN nr) ∧ Fr p W (w2.drewN nr) from fun nr => ⟨HS3.out.below (L.below_drewN _ _ nr), HFR.out.trans (Fr.of (L.below_drewN _ _ nr))⟩)
    clear hX2 HS3 HFR
    go_quiet (fail)
    go_wp2_with fail
    go_ret
    exact ⟨z % m, by simp, hmod, (HD.out _).1, (HD.out _).2⟩
end
end Go.Proofs.Ytkaacmghgobhmaa.W8
end
