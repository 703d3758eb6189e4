/- Texts: SfH SfI. -/
import Derived.Test.YtkaacmghgobhmaaBn22
import Derived.Deep.RegionHeld3
section
namespace Go.Proofs.Ytkaacmghgobhmaa.Rd
open Go.RowKit
open L (tkA own_block own_below info_of wpList_append_run)
open Rp (Wf kindAt kidsAt)
set_option linter.unusedVariables false
/-- Spots, as they lie. -/
def SpotsIn (W : World) (v : Value) (n : Nat) (S : Nat → Int × Int) : Prop := ∃ ad cap, v = .slice ad n cap ∧ n ≤ cap ∧ (n = 0 ∨ ∃ g, ad = some ⟨g, 0, none⟩ ∧ g < W.heap.size ∧ ∀ j, j < n → W.cell? ⟨g, j * 2, none⟩ = some (.int .i64 (S j).1) ∧ W.cell? ⟨g, j * 2 + 1, none⟩ = some (.int .i64 (S j).2))
def NumsIn (W : World) (v : Value) (n : Nat) (S : Nat → Int) : Prop := ∃ ad cap, v = .slice ad n cap ∧ n ≤ cap ∧ (n = 0 ∨ ∃ g, ad = some ⟨g, 0, none⟩ ∧ g < W.heap.size ∧ ∀ j, j < n → W.cell? ⟨g, j, none⟩ = some (.int .i64 (S j)))
theorem SpotsIn.below {W W' : World} {v : Value} {n : Nat} {S : Nat → Int × Int} (h : SpotsIn W v n S) (hb : Below W.heap.size W W') : SpotsIn W' v n S := by
  obtain ⟨ad, cap, e, hc, hcell⟩ := h
  exact ⟨ad, cap, e, hc, hcell.imp id fun ⟨g, e, hg, hj⟩ => ⟨g, e, Nat.lt_of_lt_of_le hg hb.size, fun j hjn => ⟨(hb.cell (p := ⟨g, j * 2, none⟩) hg).trans (hj j hjn).1, (hb.cell (p := ⟨g, j * 2 + 1, none⟩) hg).trans (hj j hjn).2⟩⟩⟩
theorem NumsIn.below {W W' : World} {v : Value} {n : Nat} {S : Nat → Int} (h : NumsIn W v n S) (hb : Below W.heap.size W W') : NumsIn W' v n S := by
  obtain ⟨ad, cap, e, hc, hcell⟩ := h
  exact ⟨ad, cap, e, hc, hcell.imp id fun ⟨g, e, hg, hj⟩ => ⟨g, e, Nat.lt_of_lt_of_le hg hb.size, fun j hjn => (hb.cell (p := ⟨g, j, none⟩) hg).trans (hj j hjn)⟩⟩
theorem flat_at (F : Nat → Value × Value) : ∀ (n j : Nat), j < n → (((List.range n).map fun i => [(F i).1, (F i).2]).flatten)[j * 2]? = some (F j).1 ∧ (((List.range n).map fun i => [(F i).1, (F i).2]).flatten)[j * 2 + 1]? = some (F j).2
  | 0, j, h => by omega
  | n + 1, j, h => by
    have hl : (((List.range n).map fun i => [(F i).1, (F i).2]).flatten).length = n * 2 := by
      rw [List.length_flatten, List.map_map]
      have : (List.map (List.length ∘ fun i => [(F i).1, (F i).2]) (List.range n)) = List.replicate n 2 := by
        apply List.ext_getElem
        · simp
        · intro i h1 h2; simp
      rw [this, List.sum_replicate_nat]
    rw [List.range_succ, List.map_append, List.flatten_append]
    by_cases e : j < n
    · obtain ⟨h1, h2⟩ := flat_at F n j e
      refine ⟨?_, ?_⟩
      · rw [List.getElem?_append_left (by rw [hl]; omega)]; exact h1
      · rw [List.getElem?_append_left (by rw [hl]; omega)]; exact h2
    · have : j = n := by omega
      subst this
      refine ⟨?_, ?_⟩
      · rw [List.getElem?_append_right (by rw [hl]; omega), hl]; simp
      · rw [List.getElem?_append_right (by rw [hl]; omega), hl]; simp
theorem rspots_in {w1 W : World} {v : Value} {l : List Ps.Nd} {n : Nat} (h : OwnR 40 2 w1 W v n (spotsTo l n)) : SpotsIn W v n (Sr.spot l) := by
  obtain ⟨ad, cap, rfl, hc, hcell⟩ := h.cells
  refine ⟨ad, cap, rfl, hc, hcell.imp id ?_⟩
  rintro ⟨g, rfl, _, hg, hj⟩
  refine ⟨g, rfl, hg, fun j hjn => ?_⟩
  obtain ⟨h1, h2⟩ := flat_at (fun i => (Value.int .i64 (Sr.spot l i).1, Value.int .i64 (Sr.spot l i).2)) n j hjn
  exact ⟨(hj (j * 2) (by omega)).trans h1, (hj (j * 2 + 1) (by omega)).trans h2⟩
theorem rslots_in {w1 W : World} {v : Value} {l : List Ps.Nd} {n : Nat} (h : OwnR 3 1 w1 W v n (slotsTo l n)) : NumsIn W v n (Sr.slot l) := by
  obtain ⟨ad, cap, rfl, hc, hcell⟩ := h.cells
  refine ⟨ad, cap, rfl, hc, hcell.imp id ?_⟩
  rintro ⟨g, rfl, _, hg, hj⟩
  refine ⟨g, rfl, hg, fun j hjn => (hj j (by omega)).trans ?_⟩
  unfold slotsTo
  rw [List.getElem?_map, List.getElem?_range hjn]; rfl
set_option maxRecDepth 100000 in
set_option maxHeartbeats 1000000 in
theorem same_any {W : World} {va vb : Value} {n : Nat} {S : Nat → Int × Int} (ha : SpotsIn W va n S) (hb : SpotsIn W vb n S) (hn : n ≤ 1000000) :
    Calls Try.prog 15 #[va, vb] W fun e w' => e = .returned (.bool true) ∧ Below W.heap.size W w' := by
  obtain ⟨aa, ca, rfl, hca, hcella⟩ := ha
  obtain ⟨ab, cb, rfl, hcb, hcellb⟩ := hb
  have HA : Hid (_) := hcella
  have HB : Hid (_) := hcellb
  have H0 : Hid (Below W.heap.size W W) := (show Below _ _ _ from Below.refl _ _)
  clear hcella hcellb
  go_enter Try.func15, Try.ntmps15
  go_wp2_with fail
  go_loopw [5] (fun i w => ∃ k : Nat, k ≤ n ∧ i = .int .i64 (k : Int) ∧ Hid (Below W.heap.size W w)) (fun i _ => n - (L.intOf i).toNat)
  case atStart => exact ⟨0, by omega, rfl, H0⟩
  case round =>
    obtain ⟨k, hk, rfl, HW⟩ := hrel
    clear H0
    by_cases hkn : k < n
    · have hkn' : (k : Int) < n := by omega
      have hk0 : (0 : Int) ≤ k := by omega
      obtain ⟨ga, rfl, hga, qa⟩ := HA.out.resolve_left (by omega)
      obtain ⟨gb, rfl, hgb, qb⟩ := HB.out.resolve_left (by omega)
      have a1 := (HW.out.cell (p := ⟨ga, k * 2, none⟩) hga).trans (qa k hkn).1
      have a2 := (HW.out.cell (p := ⟨ga, k * 2 + 1, none⟩) hga).trans (qa k hkn).2
      have b1 := (HW.out.cell (p := ⟨gb, k * 2, none⟩) hgb).trans (qb k hkn).1
      have b2 := (HW.out.cell (p := ⟨gb, k * 2 + 1, none⟩) hgb).trans (qb k hkn).2
      have hga' := Nat.lt_of_lt_of_le hga HW.out.size
      have hgb' := Nat.lt_of_lt_of_le hgb HW.out.size
      have HW2 : Hid (∀ nq, Below W.heap.size W (wr.drewN nq)) := (show ∀ nq, Below W.heap.size W (wr.drewN nq) from fun nq => HW.out.trans (L.below_drewN _ _ nq))
      clear qa qb HA HB
      generalize (S k).1 = s1 at *
      generalize (S k).2 = s2 at *
      go_upto_region 6 with fail
      go_quiet (fail)
      go_wp2_with fail
      go_roundw
      case rel => exact ⟨k + 1, by omega, by go_num, HW2.out _⟩
      case measure => simp [L.intOf] <;> omega
    · have hkn' : ¬ (k : Int) < n := by omega
      clear HA HB
      go_wp2_with fail
      go_ret
      exact ⟨rfl, HW.out⟩
set_option maxRecDepth 100000 in
set_option maxHeartbeats 1000000 in
theorem sameInts_any {W : World} {va vb : Value} {n : Nat} {S : Nat → Int} (ha : NumsIn W va n S) (hb : NumsIn W vb n S) (hn : n ≤ 1000000) :
    Calls Try.prog 17 #[va, vb] W fun e w' => e = .returned (.bool true) ∧ Below W.heap.size W w' := by
  obtain ⟨aa, ca, rfl, hca, hcella⟩ := ha
  obtain ⟨ab, cb, rfl, hcb, hcellb⟩ := hb
  have HA : Hid (_) := hcella
  have HB : Hid (_) := hcellb
  have H0 : Hid (Below W.heap.size W W) := (show Below _ _ _ from Below.refl _ _)
  clear hcella hcellb
  go_enter Try.func17, Try.ntmps17
  go_wp2_with fail
  go_loopw [5] (fun i w => ∃ k : Nat, k ≤ n ∧ i = .int .i64 (k : Int) ∧ Hid (Below W.heap.size W w)) (fun i _ => n - (L.intOf i).toNat)
  case atStart => exact ⟨0, by omega, rfl, H0⟩
  case round =>
    obtain ⟨k, hk, rfl, HW⟩ := hrel
    clear H0
    by_cases hkn : k < n
    · have hkn' : (k : Int) < n := by omega
      have hk0 : (0 : Int) ≤ k := by omega
      obtain ⟨ga, rfl, hga, qa⟩ := HA.out.resolve_left (by omega)
      obtain ⟨gb, rfl, hgb, qb⟩ := HB.out.resolve_left (by omega)
      have a1 := (HW.out.cell (p := ⟨ga, k, none⟩) hga).trans (qa k hkn)
      have b1 := (HW.out.cell (p := ⟨gb, k, none⟩) hgb).trans (qb k hkn)
      have hga' := Nat.lt_of_lt_of_le hga HW.out.size
      have hgb' := Nat.lt_of_lt_of_le hgb HW.out.size
      have HW2 : Hid (∀ nq, Below W.heap.size W (wr.drewN nq)) := (show ∀ nq, Below W.heap.size W (wr.drewN nq) from fun nq => HW.out.trans (L.below_drewN _ _ nq))
      clear qa qb HA HB
      generalize S k = s1 at *
      go_upto_region 6 with fail
      go_quiet (fail)
      go_wp2_with fail
      go_roundw
      case rel => exact ⟨k + 1, by omega, by go_num, HW2.out _⟩
      case measure => simp [L.intOf] <;> omega
    · have hkn' : ¬ (k : Int) < n := by omega
      clear HA HB
      go_wp2_with fail
      go_ret
      exact ⟨rfl, HW.out⟩
end Go.Proofs.Ytkaacmghgobhmaa.Rd
end
section
namespace Go.Proofs.Ytkaacmghgobhmaa.Rd
open Go.RowKit
open L (tkA own_block own_below info_of wpList_append_run)
open Rp (Wf kindAt kidsAt)
set_option linter.unusedVariables false
/-- The box with the tree. -/
def BxT (B g n cap : Nat) (l : List Ps.Nd) (w W : World) : Prop := W.cell? ⟨B, 0, none⟩ = some (.slice (some ⟨g, 0, none⟩) n cap) ∧ W.cell? ⟨B, 2, none⟩ = some (.bool true) ∧ Hid (B < W.heap.size) ∧ Hid (Told W (.slice (some ⟨g, 0, none⟩) n cap) l ∧ Below w.heap.size w W)
theorem BxT.drew {B g n cap : Nat} {l : List Ps.Nd} {w W : World} (h : BxT B g n cap l w W) : BxT B g n cap l w W.drew := ⟨h.1, h.2.1, h.2.2.1, (show Told _ _ _ ∧ _ from ⟨h.2.2.2.out.1.below (L.below_drewN _ _ 1), h.2.2.2.out.2.trans (L.below_drewN _ _ 1)⟩)⟩
theorem BxT.below {B g n cap : Nat} {l : List Ps.Nd} {w W W' : World} (h : BxT B g n cap l w W) (hb : Below W.heap.size W W') : BxT B g n cap l w W' := by
  obtain ⟨h1, h2, h3, h4⟩ := h
  exact ⟨(hb.cell (p := ⟨B, 0, none⟩) h3.out).trans h1, (hb.cell (p := ⟨B, 2, none⟩) h3.out).trans h2, (show B < _ from Nat.lt_of_lt_of_le h3.out hb.size), h4.out.1.below hb, h4.out.2.trans (hb.mono h4.out.2.size)⟩
set_option maxRecDepth 100000 in
set_option maxHeartbeats 4000000 in
theorem scopeIs_core (s : ByteArray) (g0 n : Nat) (l : List Ps.Nd) (S : Nat → Int × Int) (Z : Nat → Int) (w : World)
    (HP : Hid (Calls Try.prog 12 #[.string s] w fun e w' => ∃ g cap, e = .returned (.agg #[.slice (some ⟨g, 0, none⟩) n cap, .int .i64 0, .bool true]) ∧ Hid (Told w' (.slice (some ⟨g, 0, none⟩) n cap) l) ∧ Hid (Below w.heap.size w w')))
    (HS : Hid (∀ B g cap w0 W, BxT B g n cap l w0 W → Calls Try.prog 13 #[.slice (some ⟨g, 0, none⟩) n cap] W fun e w' => ∃ v, e = .returned v ∧ BxT B g n cap l w0 w' ∧ Hid (Below W.heap.size W w' ∧ SpotsIn w' v n S)))
    (HR : Hid (∀ B g cap w0 W, BxT B g n cap l w0 W → Calls Try.prog 16 #[.slice (some ⟨g, 0, none⟩) n cap] W fun e w' => ∃ v, e = .returned v ∧ BxT B g n cap l w0 w' ∧ Hid (Below W.heap.size W w' ∧ SpotsIn w' v n S)))
    (HA : Hid (∀ B g cap w0 W va vb, BxT B g n cap l w0 W → SpotsIn W va n S → SpotsIn W vb n S → Calls Try.prog 15 #[va, vb] W fun e w' => e = .returned (.bool true) ∧ BxT B g n cap l w0 w'))
    (HZ : Hid (∀ B g cap w0 W, BxT B g n cap l w0 W → Calls Try.prog 14 #[.slice (some ⟨g, 0, none⟩) n cap] W fun e w' => ∃ v, e = .returned v ∧ BxT B g n cap l w0 w' ∧ Hid (Below W.heap.size W w' ∧ NumsIn w' v n Z)))
    (HY : Hid (∀ B g cap w0 W, BxT B g n cap l w0 W → Calls Try.prog 18 #[.slice (some ⟨g, 0, none⟩) n cap] W fun e w' => ∃ v, e = .returned v ∧ BxT B g n cap l w0 w' ∧ Hid (Below W.heap.size W w' ∧ NumsIn w' v n Z)))
    (HI : Hid (∀ B g cap w0 W va vb, BxT B g n cap l w0 W → NumsIn W va n Z → NumsIn W vb n Z → Calls Try.prog 17 #[va, vb] W fun e w' => e = .returned (.bool true) ∧ BxT B g n cap l w0 w')) :
    Calls Try.prog 8 #[.string s] w fun e w' => e = .returned (.bool true) ∧ Below w.heap.size w w' := by
  go_enter Try.func8, Try.ntmps8
  go_wp2_with fail
  refine Calls.mono HP.out ?_
  rintro e w3 ⟨g, cap, rfl, hT, hb3⟩
  have hb30 : Below w3.heap.size w3 (w3.alloc (.cells #[.slice (some ⟨g, 0, none⟩) n cap, .int .i64 0, .bool true] 31)) := (Below.refl _ _).alloc (Nat.le_refl _) _
  have hA := MapKept.heap_alloc w3 (.cells #[.slice (some ⟨g, 0, none⟩) n cap, .int .i64 0, .bool true] 31)
  have hX : BxT w3.heap.size g n cap l w (w3.alloc (.cells #[.slice (some ⟨g, 0, none⟩) n cap, .int .i64 0, .bool true] 31)) := ⟨by unfold World.cell?; rw [hA.1]; rfl, by unfold World.cell?; rw [hA.1]; rfl, (show w3.heap.size < _ from lt_of_some hA.1), (show Told _ _ _ ∧ _ from ⟨hT.out.below hb30, hb3.out.trans (hb30.mono hb3.out.size)⟩)⟩
  have HSB : Hid (_) := HS.out w3.heap.size g cap w
  have HRB : Hid (_) := HR.out w3.heap.size g cap w
  have HAB : Hid (_) := HA.out w3.heap.size g cap w
  have HZB : Hid (_) := HZ.out w3.heap.size g cap w
  have HYB : Hid (_) := HY.out w3.heap.size g cap w
  have HIB : Hid (_) := HI.out w3.heap.size g cap w
  clear hb3 hT hb30 hA HP HS HR HA HZ HY HI
  go_upto_region 2 with fail
  generalize w3.heap.size = B at *
  generalize w3.alloc (.cells #[.slice (some ⟨g, 0, none⟩) n cap, .int .i64 0, .bool true] 31) = w4 at *
  clear w3
  go_region_held3 (fun W => W.cell? ⟨B, 0, none⟩ = some (.slice (some ⟨g, 0, none⟩) n cap) ∧ W.cell? ⟨B, 2, none⟩ = some (.bool true) ∧ Hid (B < W.heap.size) ∧ Hid (Told W (.slice (some ⟨g, 0, none⟩) n cap) l ∧ Below w.heap.size w W)) (first | assumption | exact BxT.drew (by assumption)) (first | (go_at_call 13; refine Calls.mono (HSB.out _ (by first | assumption | exact BxT.drew (by assumption))) ?_; rintro e w5 ⟨v5, rfl, hS5, HQ5⟩) | (go_at_call 16; refine Calls.mono (HRB.out _ (by first | assumption | exact BxT.drew (by assumption))) ?_; rintro e w6 ⟨v6, rfl, hS6, HQ6⟩) | (go_at_call 15; refine Calls.mono (HAB.out _ _ _ (by first | assumption | exact BxT.drew (by assumption)) (HQ5.out.2.below HQ6.out.1) HQ6.out.2) ?_; rintro e w7 ⟨rfl, hS7⟩) | (go_at_call 14; refine Calls.mono (HZB.out _ (by first | assumption | exact BxT.drew (by assumption))) ?_; rintro e w8 ⟨v8, rfl, hS8, HQ8⟩) | (go_at_call 18; refine Calls.mono (HYB.out _ (by first | assumption | exact BxT.drew (by assumption))) ?_; rintro e w9 ⟨v9, rfl, hS9, HQ9⟩) | (go_at_call 17; refine Calls.mono (HIB.out _ _ _ (by first | assumption | exact BxT.drew (by assumption)) (HQ8.out.2.below HQ9.out.1) HQ9.out.2) ?_; rintro e w10 ⟨rfl, hS10⟩))
  clear HSB HRB HAB HZB HYB HIB hX hS5 HQ5 hS6 HQ6 hS7 hS8 HQ8 hS9 HQ9
  go_wp2_with fail
  go_ret
  exact ⟨rfl, hS10.2.2.2.out.2⟩
set_option maxRecDepth 100000 in
set_option maxHeartbeats 1000000 in
theorem scopeIs_bad (s : ByteArray) (w : World) (HP : Hid (Calls Try.prog 12 #[.string s] w fun e w' => ∃ (ad : Option Addr) (n cap a : Nat), e = .returned (.agg #[.slice ad n cap, .int .i64 (a : Int), .bool false]) ∧ Hid (Below w.heap.size w w'))) :
    Calls Try.prog 8 #[.string s] w fun e w' => e = .returned (.bool true) ∧ Below w.heap.size w w' := by
  go_enter Try.func8, Try.ntmps8
  go_wp2_with fail
  refine Calls.mono HP.out ?_
  rintro e w3 ⟨ad, n, cap, a, rfl, hb3⟩
  have HB : Hid (∀ o n, Below w.heap.size w ((w3.alloc o).drewN n)) := (show ∀ o n, Below w.heap.size w ((w3.alloc o).drewN n) from fun o n => (hb3.out.alloc hb3.out.size o).trans (L.below_drewN _ _ n))
  clear hb3 HP
  go_upto_region 2 with fail
  go_quiet (fail)
  go_wp2_with fail
  go_ret
  exact ⟨rfl, HB.out _ _⟩
theorem rparse_at0 (U : List UInt8) (h : (Rp.rparse U).2.2 = true) : Rp.rparse U = ((Rp.rparse U).1, 0, true) := by
  rw [rparse_fin] at h ⊢
  by_cases h1 : 4096 < U.length
  · rw [if_pos h1] at h; cases h
  · rw [if_neg h1] at h ⊢
    by_cases h2 : (fin U).2.bad = true
    · rw [if_pos h2] at h; cases h
    · rw [if_neg h2]
theorem scopeIs_any (s : ByteArray) (w : World) : Calls Try.prog 8 #[.string s] w fun e w' => e = .returned (.bool true) ∧ Below w.heap.size w w' := by
  have hp := rParse_any s.data.toList w (fun h => Nat.le_trans (Rp.fews _ h) (by omega))
  rw [L.mk_list] at hp
  cases hok : (Rp.rparse s.data.toList).2.2 with
  | false =>
    rw [hok] at hp
    refine scopeIs_bad s w (hp.mono ?_)
    rintro e w' ⟨v, rfl, ht, hb⟩
    obtain ⟨_, ad, cap, _, rfl, _⟩ := id ht
    exact ⟨ad, _, cap, _, rfl, hb⟩
  | true =>
    have hf := fit_rparse _ hok
    have hw := Rp.rparse_wf _ hok
    have e0 := rparse_at0 _ hok
    have ea : (Rp.rparse s.data.toList).2.1 = 0 := by rw [e0]
    rw [hok, ea] at hp
    generalize (Rp.rparse s.data.toList).1 = l at *
    have hspot : ∀ j, j < l.length → Sc.spot l (Sc.found l) j = Sr.spot l j := fun j hj => Sr.spot_eq hw hj
    have hslot : ∀ j, j < l.length → slotOf (Sc.found l) ((Sc.found l).own.getD j 0) = Sr.slot l j := fun j hj => Sr.slot_eq hw hj
    refine scopeIs_core s 0 l.length l (Sr.spot l) (Sr.slot l) w (hp.mono ?_) ?_ ?_ ?_ ?_ ?_ ?_
    · rintro e w' ⟨v, rfl, ht, hb⟩
      obtain ⟨g, cap, rfl, _⟩ := ht.kidsIn hf.ne
      exact ⟨g, cap, rfl, ht, hb⟩
    · intro B g cap w0 W hB
      refine (spots_any hf hB.2.2.2.out.1).mono ?_
      rintro e w' ⟨R, rfl, _, hb, hs⟩
      refine ⟨_, rfl, hB.below hb, (show Below _ _ _ ∧ _ from ⟨hb, some ⟨R, 0, none⟩, l.length, rfl, Nat.le_refl _, .inr ⟨R, rfl, hs.lt, fun j hj => ?_⟩⟩)⟩
      have := hs.cells hj
      rw [hspot j hj] at this
      exact this
    · intro B g cap w0 W hB
      refine (rspots_any hf hw hB.2.2.2.out.1).mono ?_
      rintro e w' ⟨v, rfl, hb, w1, ho⟩
      exact ⟨v, rfl, hB.below hb, (show Below _ _ _ ∧ _ from ⟨hb, rspots_in ho⟩)⟩
    · intro B g cap w0 W va vb hB ha hb
      refine (same_any ha hb hf.few).mono ?_
      rintro e w' ⟨rfl, hb⟩
      exact ⟨rfl, hB.below hb⟩
    · intro B g cap w0 W hB
      refine (slots_any hf hB.2.2.2.out.1).mono ?_
      rintro e w' ⟨R, rfl, _, hb, hs⟩
      refine ⟨_, rfl, hB.below hb, (show Below _ _ _ ∧ _ from ⟨hb, some ⟨R, 0, none⟩, l.length, rfl, Nat.le_refl _, .inr ⟨R, rfl, hs.lt, fun j hj => ?_⟩⟩)⟩
      have := hs.cells hj
      rw [hslot j hj] at this
      exact this
    · intro B g cap w0 W hB
      refine (rslots_any hf hw hB.2.2.2.out.1).mono ?_
      rintro e w' ⟨v, rfl, hb, w1, ho⟩
      exact ⟨v, rfl, hB.below hb, (show Below _ _ _ ∧ _ from ⟨hb, rslots_in ho⟩)⟩
    · intro B g cap w0 W va vb hB ha hb
      refine (sameInts_any ha hb hf.few).mono ?_
      rintro e w' ⟨rfl, hb⟩
      exact ⟨rfl, hB.below hb⟩
set_option maxRecDepth 100000 in
set_option maxHeartbeats 1000000 in
theorem scopeAll_core (s : ByteArray) (w : World)
    (HI : Hid (∀ W, Calls Try.prog 8 #[.string s] W fun e w' => e = .returned (.bool true) ∧ Below W.heap.size W w'))
    (HK : Hid (∀ W, Calls Try.prog 9 #[] W fun e w' => e = .returned (.bool true) ∧ Below W.heap.size W w')) :
    Calls Try.prog 3 #[.string s] w fun e w' => e = .returned (.bool true) ∧ Below w.heap.size w w' := by
  by_cases hl : 1500 < s.size
  · have hl' : (1500 : Int) < s.size := by omega
    have HB : Hid (Below w.heap.size w w) := (show Below _ _ _ from Below.refl _ _)
    clear HI HK
    go_enter Try.func3, Try.ntmps3
    go_wp2_with fail
    go_ret
    exact ⟨rfl, HB.out⟩
  · have hl' : ¬ (1500 : Int) < s.size := by omega
    go_enter Try.func3, Try.ntmps3
    go_wp2_with fail
    refine Calls.mono (HI.out _) ?_
    rintro e w1 ⟨rfl, hb1⟩
    have HB1 : Hid (_) := hb1
    clear hb1 HI
    go_wp2_with fail
    refine Calls.mono (HK.out _) ?_
    rintro e w2 ⟨rfl, hb2⟩
    have HB2 : Hid (_) := HB1.out.trans (hb2.mono HB1.out.size)
    clear hb2 HK
    go_wp2_with fail
    go_ret
    exact ⟨rfl, HB2.out⟩
theorem scopeAll_walk (s : ByteArray) (w : World) : Calls Try.prog 3 #[.string s] w fun e w' => e = .returned (.bool true) ∧ Below w.heap.size w w' :=
  scopeAll_core s w (fun W => scopeIs_any s W) (fun W => awake_any W)
end Go.Proofs.Ytkaacmghgobhmaa.Rd
end
