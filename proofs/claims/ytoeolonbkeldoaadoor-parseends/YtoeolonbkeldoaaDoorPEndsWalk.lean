/- The law ParseEnds: its walk. -/
import Derived.Test.YtoeolonbkeldoaaDoorPsPz
namespace Go.Proofs.YtoeolonbkeldoaaDoor.R
open Go.RowKit
open L (tkA)
set_option linter.unusedVariables false
abbrev vG : Array Value := #[.string ⟨#[97, 10, 98]⟩, .string ⟨#[97, 59, 98]⟩, .string ⟨#[123, 97, 125]⟩, .string ⟨#[97, 10, 40, 98, 41]⟩, .string ⟨#[114, 101, 116, 117, 114, 110, 10, 49]⟩, .string ⟨#[98, 114, 101, 97, 107, 10]⟩, .string ⟨#[108, 101, 116, 32, 120, 32, 61, 32, 49, 10, 108, 101, 116, 32, 121, 32, 61, 32, 50]⟩, .string ⟨#[116, 104, 114, 111, 119, 32, 97]⟩, .string ⟨#[97, 32, 43, 10, 98]⟩, .string ⟨#[120, 32, 61, 32, 102, 117, 110, 99, 116, 105, 111, 110, 32, 40, 41, 32, 123, 125, 10, 121]⟩, .string ⟨#[105, 102, 32, 40, 97, 41, 32, 98, 10, 101, 108, 115, 101, 32, 99]⟩, .string ⟨#[102, 117, 110, 99, 116, 105, 111, 110, 32, 102, 40, 41, 32, 123, 125, 32, 102, 117, 110, 99, 116, 105, 111, 110, 32, 103, 40, 41, 32, 123, 125]⟩, .string ⟨#[123, 125, 123, 125]⟩, .string ⟨#[97, 32, 47, 47, 32, 99, 10, 98]⟩]
abbrev vB : Array Value := #[.string ⟨#[97, 32, 98]⟩, .string ⟨#[108, 101, 116, 32, 120]⟩, .string ⟨#[116, 104, 114, 111, 119, 10, 97]⟩, .string ⟨#[97, 32, 43]⟩, .string ⟨#[40, 97]⟩, .string ⟨#[97, 41]⟩, .string ⟨#[108, 101, 116, 32, 49, 32, 61, 32, 50]⟩, .string ⟨#[105, 102, 32, 40, 97, 41, 32, 108, 101, 116, 32, 98, 32, 61, 32, 49]⟩, .string ⟨#[119, 104, 105, 108, 101, 32, 40, 97, 41, 32, 102, 117, 110, 99, 116, 105, 111, 110, 32, 102, 40, 41, 32, 123, 125]⟩, .string ⟨#[49, 32, 61, 32, 50]⟩, .string ⟨#[97, 32, 61, 32, 98, 32, 61, 32]⟩, .string ⟨#[102, 40, 97, 44, 41]⟩, .string ⟨#[123, 97, 58, 32, 49, 125]⟩, .string ⟨#[59]⟩, .string ⟨#[121, 105, 101, 108, 100]⟩, .string ⟨#[120, 32, 61, 32, 123, 97, 32, 49, 125]⟩, .string ⟨#[116, 114, 121, 32, 123, 125, 32, 99, 97, 116, 99, 104, 32, 123, 125]⟩, .string ⟨#[99, 111, 110, 115, 116, 32, 99, 59]⟩, .string ⟨#[97, 32, 63, 32, 98]⟩, .string ⟨#[91, 49, 44, 44, 50, 93]⟩]
abbrev vA : Array Value := #[.int .i64 2, .int .i64 5, .int .i64 6, .int .i64 3, .int .i64 2, .int .i64 1, .int .i64 4, .int .i64 7, .int .i64 10, .int .i64 2, .int .i64 8, .int .i64 4, .int .i64 2, .int .i64 0, .int .i64 5, .int .i64 7, .int .i64 13, .int .i64 7, .int .i64 5, .int .i64 3]
theorem vG_at (k : Nat) (h : k < 14) : vG[k]? = some (.string ⟨(Ps.good[k]'h).toArray⟩) := by
  have e : vG = (Ps.good.map fun s : List UInt8 => Value.string ⟨s.toArray⟩).toArray := rfl
  rw [e, List.getElem?_toArray, List.getElem?_map, List.getElem?_eq_getElem (show k < Ps.good.length from h)]; rfl
theorem vB_at (k : Nat) (h : k < 20) : vB[k]? = some (.string ⟨(Ps.bads[k]'h).toArray⟩) := by
  have e : vB = (Ps.bads.map fun s : List UInt8 => Value.string ⟨s.toArray⟩).toArray := rfl
  rw [e, List.getElem?_toArray, List.getElem?_map, List.getElem?_eq_getElem (show k < Ps.bads.length from h)]; rfl
theorem vA_at (k : Nat) (h : k < 20) : vA[k]? = some (.int .i64 ((Ps.ats[k]'h : Nat) : Int)) := by
  have e : vA = (Ps.ats.map fun n : Nat => Value.int .i64 (n : Int)).toArray := rfl
  rw [e, List.getElem?_toArray, List.getElem?_map, List.getElem?_eq_getElem (show k < Ps.ats.length from h)]; rfl
theorem three_rows (w : World) (V1 V2 V3 : Array Value) (t1 t2 t3 : TypeId) {W : World} (h : ((w.alloc (.cells V1 t1)).alloc (.cells V2 t2)).alloc (.cells V3 t3) = W) :
    (∀ k a, V1[k]? = some a → W.cell? ⟨w.heap.size, k, none⟩ = some a) ∧ (∀ k a, V2[k]? = some a → W.cell? ⟨w.heap.size + 1, k, none⟩ = some a) ∧ (∀ k a, V3[k]? = some a → W.cell? ⟨w.heap.size + 2, k, none⟩ = some a) ∧ W.heap.size = w.heap.size + 3 ∧ Below w.heap.size w W := by
  subst h
  have h0 : (((w.alloc (.cells V1 t1)).alloc (.cells V2 t2)).alloc (.cells V3 t3)).heap[w.heap.size]? = some (.cells V1 t1 (0, 0)) := by
    rw [push_at, if_neg (by simp only [alloc_size']; omega), push_at, if_neg (by simp only [alloc_size']; omega), push_at, if_pos rfl]
  have h1 : (((w.alloc (.cells V1 t1)).alloc (.cells V2 t2)).alloc (.cells V3 t3)).heap[w.heap.size + 1]? = some (.cells V2 t2 (0, 0)) := by
    rw [push_at, if_neg (by simp only [alloc_size']; omega), push_at, if_pos (by simp only [alloc_size'])]
  have h2 : (((w.alloc (.cells V1 t1)).alloc (.cells V2 t2)).alloc (.cells V3 t3)).heap[w.heap.size + 2]? = some (.cells V3 t3 (0, 0)) := by
    rw [push_at, if_pos (by simp only [alloc_size'])]
  refine ⟨fun k a e => ?_, fun k a e => ?_, fun k a e => ?_, by simp only [alloc_size'], (((Below.refl _ _).alloc (Nat.le_refl _) _).alloc (by simp only [alloc_size']; omega) _).alloc (by simp only [alloc_size']; omega) _⟩
  · unfold World.cell?; rw [h0]; exact e
  · unfold World.cell?; rw [h1]; exact e
  · unfold World.cell?; rw [h2]; exact e
set_option maxRecDepth 100000 in
set_option maxHeartbeats 4000000 in
theorem parseEnds_core (a : Int) (k1 k2 : Nat) (U V : List UInt8) (A : Nat) (w w2 : World) (ha : 0 ≤ a ∧ a ≤ 255) (hm1 : a % 14 = (k1 : Int)) (hm2 : a % 20 = (k2 : Int)) (hk1 : k1 < 14) (hk2 : k2 < 20)
    (hw2 : ((w.alloc (.cells vG 9)).alloc (.cells vB 9)).alloc (.cells vA 3) = w2)
    (c1 : w2.cell? ⟨w.heap.size, k1, none⟩ = some (.string ⟨U.toArray⟩)) (c2 : w2.cell? ⟨w.heap.size + 1, k2, none⟩ = some (.string ⟨V.toArray⟩)) (c3 : w2.cell? ⟨w.heap.size + 2, k2, none⟩ = some (.int .i64 (A : Int))) (hz2 : w2.heap.size = w.heap.size + 3)
    (HB : Hid (Below w.heap.size w w2))
    (HU : Hid (∀ W, Below w.heap.size w W → Calls Tryd.prog 7 #[.string ⟨U.toArray⟩] W fun e w' => ∃ ad n cap, e = .returned (.tuple #[.slice ad n cap, .int .i64 0, .bool true]) ∧ Below W.heap.size W w'))
    (HV : Hid (∀ W, Below w.heap.size w W → Calls Tryd.prog 7 #[.string ⟨V.toArray⟩] W fun e w' => ∃ ad cap, e = .returned (.tuple #[.slice ad 0 cap, .int .i64 (A : Int), .bool false]) ∧ Below W.heap.size W w'))
    (HK : Hid (∀ W, Below w.heap.size w W → Calls Tryd.prog 8 #[] W fun e w' => e = .returned (.bool true) ∧ Below W.heap.size W w')) :
    Calls Tryd.prog 4 #[.int .u8 a] w fun e w' => e = .returned (.bool true) ∧ Below w.heap.size w w' := by
  have hk1' : (k1 : Int) < 14 := by omega
  have hk2' : (k2 : Int) < 20 := by omega
  have HLT : Hid (w.heap.size + 2 < w2.heap.size) := (by omega : w.heap.size + 2 < w2.heap.size)
  obtain ⟨h0, h1⟩ := ha
  simp only [vG, vB, vA] at hw2
  go_enter Tryd.func4, Tryd.ntmps4
  go_wp2_with fail
  refine Calls.mono (HU.out _ HB.out) ?_
  rintro e w3 ⟨ad, n, cap, rfl, hb3⟩
  have hs3 := hb3.size
  have d2 := (hb3.cell (p := ⟨w.heap.size + 1, k2, none⟩) (by have := HLT.out; show w.heap.size + 1 < _; omega)).trans c2
  have d3 := (hb3.cell (p := ⟨w.heap.size + 2, k2, none⟩) HLT.out).trans c3
  have HB3 : Hid (_) := HB.out.trans (hb3.mono HB.out.size)
  have HLT3 : Hid (w.heap.size + 2 < w3.heap.size) := (Nat.lt_of_lt_of_le HLT.out hs3 : w.heap.size + 2 < w3.heap.size)
  clear hb3 c1 c2 c3 hw2 HU hs3 HB HLT
  go_wp2_with fail
  refine Calls.mono (HV.out _ HB3.out) ?_
  rintro e w4 ⟨ad2, cap2, rfl, hb4⟩
  have e3 := (hb4.cell (p := ⟨w.heap.size + 2, k2, none⟩) HLT3.out).trans d3
  have HB4 : Hid (_) := HB3.out.trans (hb4.mono HB3.out.size)
  clear hb4 d2 d3 HV HB3 HLT3
  go_wp2_with fail
  refine Calls.mono (HK.out _ HB4.out) ?_
  rintro e w5 ⟨rfl, hb5⟩
  have HB5 : Hid (_) := HB4.out.trans (hb5.mono HB4.out.size)
  clear hb5 e3
  go_wp2_with fail
  go_ret
  exact ⟨rfl, HB5.out⟩
theorem parseEnds_walk (a : Int) (w : World) (ha : 0 ≤ a ∧ a ≤ 255) (hg : L.Sig w) : Calls Tryd.prog 4 #[.int .u8 a] w fun e w' => e = .returned (.bool true) ∧ Below w.heap.size w w' := by
  obtain ⟨k1, hm1⟩ : ∃ k : Nat, a % 14 = (k : Int) := ⟨(a % 14).toNat, by omega⟩
  obtain ⟨k2, hm2⟩ : ∃ k : Nat, a % 20 = (k : Int) := ⟨(a % 20).toNat, by omega⟩
  have hk1 : k1 < 14 := by omega
  have hk2 : k2 < 20 := by omega
  obtain ⟨W, hW⟩ : ∃ W, ((w.alloc (.cells vG 9)).alloc (.cells vB 9)).alloc (.cells vA 3) = W := ⟨_, rfl⟩
  obtain ⟨r1, r2, r3, hz, hb⟩ := three_rows w _ _ _ _ _ _ hW
  have o1 : Ps.okP (Ps.good[k1]'hk1) (0, true) = true := List.all_eq_true.1 Ps.good_ok _ (List.getElem_mem _)
  have o2 : Ps.okP (Ps.bads[k2]'hk2) (Ps.ats[k2]'hk2, false) = true := by
    have hz : k2 < (Ps.bads.zip Ps.ats).length := hk2
    have := List.all_eq_true.1 Ps.bads_ok ((Ps.bads.zip Ps.ats)[k2]'hz) (List.getElem_mem _)
    rw [List.getElem_zip] at this
    exact this
  refine parseEnds_core a k1 k2 (Ps.good[k1]'hk1) (Ps.bads[k2]'hk2) (Ps.ats[k2]'hk2) w W ha hm1 hm2 hk1 hk2 hW (r1 _ _ (vG_at k1 hk1)) (r2 _ _ (vB_at k2 hk2)) (r3 _ _ (vA_at k2 hk2)) hz hb (fun W hW => ?_) (fun W hW => ?_) (fun W hW => awake_any W (hg.below hW))
  · refine (Parse_of o1 W (hg.below hW)).mono ?_
    rintro e w' ⟨ad, cap, rfl, _, hb⟩
    exact ⟨ad, _, cap, rfl, hb⟩
  · have h0 : (Ps.parse (Ps.bads[k2]'hk2)).1.length = 0 := by
      have := o2
      unfold Ps.okP at this
      simp only [Bool.and_eq_true] at this
      simpa using this.2
    refine (Parse_of o2 W (hg.below hW)).mono ?_
    rintro e w' ⟨ad, cap, rfl, _, hb⟩
    rw [h0]
    exact ⟨ad, cap, rfl, hb⟩
end Go.Proofs.YtoeolonbkeldoaaDoor.R
