/- The law ParseLevels: its walk. -/
import Derived.Test.YtoeolonbkeldoaaDoorPSameT
namespace Go.Proofs.YtoeolonbkeldoaaDoor.R
open Go.RowKit
open L (tkA)
set_option linter.unusedVariables false
def lvL : List (List UInt8) := [[97, 32, 43, 32, 98, 32, 42, 32, 99], [97, 32, 42, 32, 98, 32, 43, 32, 99], [97, 32, 45, 32, 98, 32, 45, 32, 99], [97, 32, 60, 32, 98, 32, 43, 32, 99], [97, 32, 61, 61, 61, 32, 98, 32, 60, 32, 99], [97, 32, 38, 38, 32, 98, 32, 61, 61, 61, 32, 99], [97, 32, 124, 124, 32, 98, 32, 38, 38, 32, 99], [97, 32, 63, 32, 98, 32, 58, 32, 99, 32, 124, 124, 32, 100], [97, 32, 61, 32, 98, 32, 61, 32, 99], [45, 97, 32, 42, 32, 98], [33, 97, 46, 98], [97, 46, 98, 40, 99, 41, 91, 100, 93], [116, 121, 112, 101, 111, 102, 32, 97, 32, 43, 32, 98], [97, 32, 61, 32, 98, 32, 63, 32, 99, 32, 58, 32, 100], [97, 32, 124, 124, 32, 98, 32, 124, 124, 32, 99], [97, 32, 37, 32, 98, 32, 47, 32, 99]]
def lvW : List (List UInt8) := [[97, 32, 43, 32, 40, 98, 32, 42, 32, 99, 41], [40, 97, 32, 42, 32, 98, 41, 32, 43, 32, 99], [40, 97, 32, 45, 32, 98, 41, 32, 45, 32, 99], [97, 32, 60, 32, 40, 98, 32, 43, 32, 99, 41], [97, 32, 61, 61, 61, 32, 40, 98, 32, 60, 32, 99, 41], [97, 32, 38, 38, 32, 40, 98, 32, 61, 61, 61, 32, 99, 41], [97, 32, 124, 124, 32, 40, 98, 32, 38, 38, 32, 99, 41], [97, 32, 63, 32, 98, 32, 58, 32, 40, 99, 32, 124, 124, 32, 100, 41], [97, 32, 61, 32, 40, 98, 32, 61, 32, 99, 41], [40, 45, 97, 41, 32, 42, 32, 98], [33, 40, 97, 46, 98, 41], [40, 40, 97, 46, 98, 41, 40, 99, 41, 41, 91, 100, 93], [40, 116, 121, 112, 101, 111, 102, 32, 97, 41, 32, 43, 32, 98], [97, 32, 61, 32, 40, 98, 32, 63, 32, 99, 32, 58, 32, 100, 41], [40, 97, 32, 124, 124, 32, 98, 41, 32, 124, 124, 32, 99], [40, 97, 32, 37, 32, 98, 41, 32, 47, 32, 99]]
/-- What is known of two texts: both are programs, of one tree. -/
def twoOk (x : List UInt8 × List UInt8) : Bool := Ps.okP x.1 (0, true) && Ps.okP x.2 (0, true) && decide ((Ps.parse x.1).1.map bare = (Ps.parse x.2).1.map bare) && (Ps.parse x.1).1.all (fun n => decide (n.names.length ≤ 1000000 ∧ n.kids.length ≤ 1000000)) && decide ((Ps.parse x.1).1.length ≤ 1000000) && !(Ps.parse x.1).1.isEmpty
set_option maxRecDepth 100000 in
theorem lv_ok : (lvL.zip lvW).all twoOk = true := by decide +kernel
abbrev vL : Array Value := #[.string ⟨#[97, 32, 43, 32, 98, 32, 42, 32, 99]⟩, .string ⟨#[97, 32, 42, 32, 98, 32, 43, 32, 99]⟩, .string ⟨#[97, 32, 45, 32, 98, 32, 45, 32, 99]⟩, .string ⟨#[97, 32, 60, 32, 98, 32, 43, 32, 99]⟩, .string ⟨#[97, 32, 61, 61, 61, 32, 98, 32, 60, 32, 99]⟩, .string ⟨#[97, 32, 38, 38, 32, 98, 32, 61, 61, 61, 32, 99]⟩, .string ⟨#[97, 32, 124, 124, 32, 98, 32, 38, 38, 32, 99]⟩, .string ⟨#[97, 32, 63, 32, 98, 32, 58, 32, 99, 32, 124, 124, 32, 100]⟩, .string ⟨#[97, 32, 61, 32, 98, 32, 61, 32, 99]⟩, .string ⟨#[45, 97, 32, 42, 32, 98]⟩, .string ⟨#[33, 97, 46, 98]⟩, .string ⟨#[97, 46, 98, 40, 99, 41, 91, 100, 93]⟩, .string ⟨#[116, 121, 112, 101, 111, 102, 32, 97, 32, 43, 32, 98]⟩, .string ⟨#[97, 32, 61, 32, 98, 32, 63, 32, 99, 32, 58, 32, 100]⟩, .string ⟨#[97, 32, 124, 124, 32, 98, 32, 124, 124, 32, 99]⟩, .string ⟨#[97, 32, 37, 32, 98, 32, 47, 32, 99]⟩]
abbrev vW : Array Value := #[.string ⟨#[97, 32, 43, 32, 40, 98, 32, 42, 32, 99, 41]⟩, .string ⟨#[40, 97, 32, 42, 32, 98, 41, 32, 43, 32, 99]⟩, .string ⟨#[40, 97, 32, 45, 32, 98, 41, 32, 45, 32, 99]⟩, .string ⟨#[97, 32, 60, 32, 40, 98, 32, 43, 32, 99, 41]⟩, .string ⟨#[97, 32, 61, 61, 61, 32, 40, 98, 32, 60, 32, 99, 41]⟩, .string ⟨#[97, 32, 38, 38, 32, 40, 98, 32, 61, 61, 61, 32, 99, 41]⟩, .string ⟨#[97, 32, 124, 124, 32, 40, 98, 32, 38, 38, 32, 99, 41]⟩, .string ⟨#[97, 32, 63, 32, 98, 32, 58, 32, 40, 99, 32, 124, 124, 32, 100, 41]⟩, .string ⟨#[97, 32, 61, 32, 40, 98, 32, 61, 32, 99, 41]⟩, .string ⟨#[40, 45, 97, 41, 32, 42, 32, 98]⟩, .string ⟨#[33, 40, 97, 46, 98, 41]⟩, .string ⟨#[40, 40, 97, 46, 98, 41, 40, 99, 41, 41, 91, 100, 93]⟩, .string ⟨#[40, 116, 121, 112, 101, 111, 102, 32, 97, 41, 32, 43, 32, 98]⟩, .string ⟨#[97, 32, 61, 32, 40, 98, 32, 63, 32, 99, 32, 58, 32, 100, 41]⟩, .string ⟨#[40, 97, 32, 124, 124, 32, 98, 41, 32, 124, 124, 32, 99]⟩, .string ⟨#[40, 97, 32, 37, 32, 98, 41, 32, 47, 32, 99]⟩]
theorem vL_at (k : Nat) (h : k < 16) : vL[k]? = some (.string ⟨(lvL[k]'h).toArray⟩) := by
  have e : vL = (lvL.map fun s : List UInt8 => Value.string ⟨s.toArray⟩).toArray := rfl
  rw [e, List.getElem?_toArray, List.getElem?_map, List.getElem?_eq_getElem (show k < lvL.length from h)]; rfl
theorem vW_at (k : Nat) (h : k < 16) : vW[k]? = some (.string ⟨(lvW[k]'h).toArray⟩) := by
  have e : vW = (lvW.map fun s : List UInt8 => Value.string ⟨s.toArray⟩).toArray := rfl
  rw [e, List.getElem?_toArray, List.getElem?_map, List.getElem?_eq_getElem (show k < lvW.length from h)]; rfl
theorem two_rows (w : World) (V1 V2 : Array Value) (t1 t2 : TypeId) {W : World} (h : (w.alloc (.cells V1 t1)).alloc (.cells V2 t2) = W) :
    (∀ k a, V1[k]? = some a → W.cell? ⟨w.heap.size, k, none⟩ = some a) ∧ (∀ k a, V2[k]? = some a → W.cell? ⟨w.heap.size + 1, k, none⟩ = some a) ∧ W.heap.size = w.heap.size + 2 ∧ Below w.heap.size w W := by
  subst h
  have h0 : ((w.alloc (.cells V1 t1)).alloc (.cells V2 t2)).heap[w.heap.size]? = some (.cells V1 t1 (0, 0)) := by
    rw [push_at, if_neg (by simp only [alloc_size']; omega), push_at, if_pos rfl]
  have h1 : ((w.alloc (.cells V1 t1)).alloc (.cells V2 t2)).heap[w.heap.size + 1]? = some (.cells V2 t2 (0, 0)) := by
    rw [push_at, if_pos (by simp only [alloc_size'])]
  refine ⟨fun k a e => ?_, fun k a e => ?_, by simp only [alloc_size'], ((Below.refl _ _).alloc (Nat.le_refl _) _).alloc (by simp only [alloc_size']; omega) _⟩
  · unfold World.cell?; rw [h0]; exact e
  · unfold World.cell?; rw [h1]; exact e
set_option maxRecDepth 100000 in
set_option maxHeartbeats 4000000 in
theorem parseLevels_core (a : Int) (k : Nat) (U V : List UInt8) (A B : List Ps.Nd) (w w2 : World) (ha : 0 ≤ a ∧ a ≤ 255) (hm : a % 16 = (k : Int)) (hk : k < 16)
    (hw2 : (w.alloc (.cells vL 9)).alloc (.cells vW 9) = w2)
    (c1 : w2.cell? ⟨w.heap.size, k, none⟩ = some (.string ⟨U.toArray⟩)) (c2 : w2.cell? ⟨w.heap.size + 1, k, none⟩ = some (.string ⟨V.toArray⟩)) (hz2 : w2.heap.size = w.heap.size + 2)
    (HB : Hid (Below w.heap.size w w2))
    (HU : Hid (∀ W, Below w.heap.size w W → Calls Tryd.prog 7 #[.string ⟨U.toArray⟩] W fun e w' => ∃ ad cap, e = .returned (.tuple #[.slice ad A.length cap, .int .i64 0, .bool true]) ∧ Told w' (.slice ad A.length cap) A ∧ Below W.heap.size W w'))
    (HV : Hid (∀ W, Below w.heap.size w W → Calls Tryd.prog 7 #[.string ⟨V.toArray⟩] W fun e w' => ∃ ad cap, e = .returned (.tuple #[.slice ad B.length cap, .int .i64 0, .bool true]) ∧ Told w' (.slice ad B.length cap) B ∧ Below W.heap.size W w'))
    (HS : Hid (∀ {ad ad2 : Option Addr} {c c2 : Nat} {W : World}, Told W (.slice ad A.length c) A → Told W (.slice ad2 B.length c2) B → Calls Tryd.prog 10 #[.slice ad A.length c, .slice ad2 B.length c2] W fun e w' => e = .returned (.bool true) ∧ Below W.heap.size W w'))
    (HK : Hid (∀ W, Below w.heap.size w W → Calls Tryd.prog 8 #[] W fun e w' => e = .returned (.bool true) ∧ Below W.heap.size W w')) :
    Calls Tryd.prog 6 #[.int .u8 a] w fun e w' => e = .returned (.bool true) ∧ Below w.heap.size w w' := by
  have hk' : (k : Int) < 16 := by omega
  have HLT : Hid (w.heap.size + 1 < w2.heap.size) := (by omega : w.heap.size + 1 < w2.heap.size)
  obtain ⟨h0, h1⟩ := ha
  simp only [vL, vW] at hw2
  go_enter Tryd.func6, Tryd.ntmps6
  go_wp2_with fail
  refine Calls.mono (HU.out _ HB.out) ?_
  rintro e w3 ⟨ad, cap, rfl, ht3, hb3⟩
  have HT3 : Hid (Told w3 (.slice ad A.length cap) A) := ht3
  have d2 := (hb3.cell (p := ⟨w.heap.size + 1, k, none⟩) HLT.out).trans c2
  have HB3 : Hid (_) := HB.out.trans (hb3.mono HB.out.size)
  clear hb3 c1 c2 hw2 HU HB ht3
  go_wp2_with fail
  refine Calls.mono (HV.out _ HB3.out) ?_
  rintro e w4 ⟨ad2, cap2, rfl, ht4, hb4⟩
  have HT4 : Hid (Told w4 (.slice ad2 B.length cap2) B) := ht4
  have HT34 : Hid (Told w4 (.slice ad A.length cap) A) := Told.below HT3.out hb4
  have HB4 : Hid (_) := HB3.out.trans (hb4.mono HB3.out.size)
  clear hb4 d2 HV HB3 ht4 HT3
  go_wp2_with fail
  refine Calls.mono (HS.out HT34.out HT4.out) ?_
  rintro e w5 ⟨rfl, hb5⟩
  have HB5 : Hid (_) := HB4.out.trans (hb5.mono HB4.out.size)
  clear hb5
  go_wp2_with fail
  refine Calls.mono (HK.out _ HB5.out) ?_
  rintro e w6 ⟨rfl, hb6⟩
  have HB6 : Hid (_) := HB5.out.trans (hb6.mono HB5.out.size)
  clear hb6
  go_wp2_with fail
  go_ret
  exact ⟨rfl, HB6.out⟩
theorem parseLevels_walk (a : Int) (w : World) (ha : 0 ≤ a ∧ a ≤ 255) (hg : L.Sig w) : Calls Tryd.prog 6 #[.int .u8 a] w fun e w' => e = .returned (.bool true) ∧ Below w.heap.size w w' := by
  obtain ⟨k, hm⟩ : ∃ k : Nat, a % 16 = (k : Int) := ⟨(a % 16).toNat, by omega⟩
  have hk : k < 16 := by omega
  obtain ⟨W, hW⟩ : ∃ W, (w.alloc (.cells vL 9)).alloc (.cells vW 9) = W := ⟨_, rfl⟩
  obtain ⟨r1, r2, hz, hb⟩ := two_rows w _ _ _ _ hW
  have ho : twoOk (lvL[k]'hk, lvW[k]'hk) = true := by
    have hz : k < (lvL.zip lvW).length := hk
    have := List.all_eq_true.1 lv_ok ((lvL.zip lvW)[k]'hz) (List.getElem_mem _)
    rw [List.getElem_zip] at this
    exact this
  unfold twoOk at ho
  simp only [Bool.and_eq_true, decide_eq_true_eq, List.all_eq_true, Bool.not_eq_true'] at ho
  obtain ⟨⟨⟨⟨⟨o1, o2⟩, o3⟩, o4⟩, o5⟩, o6⟩ := ho
  have hne : (Ps.parse (lvL[k]'hk)).1 ≠ [] := fun e => by rw [e] at o6; simp at o6
  refine parseLevels_core a k (lvL[k]'hk) (lvW[k]'hk) (Ps.parse (lvL[k]'hk)).1 (Ps.parse (lvW[k]'hk)).1 w W ha hm hk hW (r1 _ _ (vL_at k hk)) (r2 _ _ (vW_at k hk)) hz hb (fun W hW => Parse_of o1 W (hg.below hW)) (fun W hW => Parse_of o2 W (hg.below hW)) (fun h1 h2 => sameTree_any h1 h2 o3 o4 o5 hne) (fun W hW => awake_any W (hg.below hW))
end Go.Proofs.YtoeolonbkeldoaaDoor.R
