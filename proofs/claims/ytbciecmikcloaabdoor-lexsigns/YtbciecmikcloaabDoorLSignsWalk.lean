/- The law LexSigns: its walk. -/
import Derived.Test.YtbciecmikcloaabDoorLAwk
import Derived.Test.YtbciecmikcloaabDoorLxR
import Derived.OpenShut
import Derived.BigRegion
namespace Go.Proofs.YtbciecmikcloaabDoor.L
open Go.RowKit
set_option linter.unusedVariables false
def sgL : List (List UInt8) := [[61, 61, 61], [61, 61], [61], [33, 61, 61], [33, 61], [33], [60, 61], [60], [38, 38], [38], [124, 124], [124], [61, 62], [125], [43, 43], [47, 32, 47], [63, 46], [46, 53]]
def sgW : List (List UInt8) := [[61, 61, 61], [61], [61], [33, 61, 61], [33], [33], [60, 61], [60], [38, 38], [], [124, 124], [], [61], [125], [43], [47], [63], [46]]
theorem sg_len : sgL.length = 18 ∧ sgW.length = 18 := ⟨rfl, rfl⟩
theorem sg_tok : ∀ k (h : k < 18), (Lx.tok (sgL[k]'h ++ [32, 97]) 0).k = (if sgW[k]'h = [] then 6 else 5) ∧ (Lx.tok (sgL[k]'h ++ [32, 97]) 0).t = sgW[k]'h ∧ (sgL[k]'h).length ≤ 3 := by decide +kernel
abbrev vL : Array Value := #[.string ⟨#[61, 61, 61]⟩, .string ⟨#[61, 61]⟩, .string ⟨#[61]⟩, .string ⟨#[33, 61, 61]⟩, .string ⟨#[33, 61]⟩, .string ⟨#[33]⟩, .string ⟨#[60, 61]⟩, .string ⟨#[60]⟩, .string ⟨#[38, 38]⟩, .string ⟨#[38]⟩, .string ⟨#[124, 124]⟩, .string ⟨#[124]⟩, .string ⟨#[61, 62]⟩, .string ⟨#[125]⟩, .string ⟨#[43, 43]⟩, .string ⟨#[47, 32, 47]⟩, .string ⟨#[63, 46]⟩, .string ⟨#[46, 53]⟩]
abbrev vW : Array Value := #[.string ⟨#[61, 61, 61]⟩, .string ⟨#[61]⟩, .string ⟨#[61]⟩, .string ⟨#[33, 61, 61]⟩, .string ⟨#[33]⟩, .string ⟨#[33]⟩, .string ⟨#[60, 61]⟩, .string ⟨#[60]⟩, .string ⟨#[38, 38]⟩, .string ⟨#[]⟩, .string ⟨#[124, 124]⟩, .string ⟨#[]⟩, .string ⟨#[61]⟩, .string ⟨#[125]⟩, .string ⟨#[43]⟩, .string ⟨#[47]⟩, .string ⟨#[63]⟩, .string ⟨#[46]⟩]
theorem vL_at (k : Nat) (h : k < 18) : vL[k]? = some (.string ⟨(sgL[k]'h).toArray⟩) := by
  have e : vL = (sgL.map fun s => Value.string ⟨s.toArray⟩).toArray := rfl
  rw [e, List.getElem?_toArray, List.getElem?_map, List.getElem?_eq_getElem (show k < sgL.length from h)]; rfl
theorem vW_at (k : Nat) (h : k < 18) : vW[k]? = some (.string ⟨(sgW[k]'h).toArray⟩) := by
  have e : vW = (sgW.map fun s => Value.string ⟨s.toArray⟩).toArray := rfl
  rw [e, List.getElem?_toArray, List.getElem?_map, List.getElem?_eq_getElem (show k < sgW.length from h)]; rfl
theorem two_rows (w : World) (V1 V2 : Array Value) (t : TypeId) (k : Nat) (a b : Value) (h1 : V1[k]? = some a) (h2 : V2[k]? = some b) :
    ((w.alloc (.cells V1 t)).alloc (.cells V2 t)).cell? ⟨w.heap.size, k, none⟩ = some a ∧ ((w.alloc (.cells V1 t)).alloc (.cells V2 t)).cell? ⟨w.heap.size + 1, k, none⟩ = some b := by
  have e2 : ((w.alloc (.cells V1 t)).alloc (.cells V2 t)).heap[w.heap.size + 1]? = some (.cells V2 t (0, 0)) := by
    rw [← alloc_size w (.cells V1 t)]; exact Array.getElem?_push_size
  have hb : Below (w.heap.size + 1) (w.alloc (.cells V1 t)) ((w.alloc (.cells V1 t)).alloc (.cells V2 t)) := (Below.refl _ _).alloc (by rw [alloc_size]; exact Nat.le_refl _) _
  have e1 : ((w.alloc (.cells V1 t)).alloc (.cells V2 t)).heap[w.heap.size]? = some (.cells V1 t (0, 0)) := (hb.block _ (Nat.lt_succ_self _)).trans Array.getElem?_push_size
  constructor
  · unfold World.cell?; rw [e1]; exact h1
  · unfold World.cell?; rw [e2]; exact h2
set_option maxRecDepth 100000 in
set_option maxHeartbeats 4000000 in
theorem lexSigns_core (a : Int) (k : Nat) (U V : List UInt8) (T : Lx.Tk) (w w2 : World) (ha : 0 ≤ a ∧ a ≤ 255) (hm : a % 18 = (k : Int)) (hk : k < 18) (hU : U.length ≤ 3)
    (hw2 : (w.alloc (.cells #[.string ⟨#[61, 61, 61]⟩, .string ⟨#[61, 61]⟩, .string ⟨#[61]⟩, .string ⟨#[33, 61, 61]⟩, .string ⟨#[33, 61]⟩, .string ⟨#[33]⟩, .string ⟨#[60, 61]⟩, .string ⟨#[60]⟩, .string ⟨#[38, 38]⟩, .string ⟨#[38]⟩, .string ⟨#[124, 124]⟩, .string ⟨#[124]⟩, .string ⟨#[61, 62]⟩, .string ⟨#[125]⟩, .string ⟨#[43, 43]⟩, .string ⟨#[47, 32, 47]⟩, .string ⟨#[63, 46]⟩, .string ⟨#[46, 53]⟩] 9)).alloc (.cells #[.string ⟨#[61, 61, 61]⟩, .string ⟨#[61]⟩, .string ⟨#[61]⟩, .string ⟨#[33, 61, 61]⟩, .string ⟨#[33]⟩, .string ⟨#[33]⟩, .string ⟨#[60, 61]⟩, .string ⟨#[60]⟩, .string ⟨#[38, 38]⟩, .string ⟨#[]⟩, .string ⟨#[124, 124]⟩, .string ⟨#[]⟩, .string ⟨#[61]⟩, .string ⟨#[125]⟩, .string ⟨#[43]⟩, .string ⟨#[47]⟩, .string ⟨#[63]⟩, .string ⟨#[46]⟩] 9) = w2)
    (c1 : w2.cell? ⟨w.heap.size, k, none⟩ = some (.string ⟨U.toArray⟩)) (c2 : w2.cell? ⟨w.heap.size + 1, k, none⟩ = some (.string ⟨V.toArray⟩)) (hz2 : w2.heap.size = w.heap.size + 2)
    (hT : T.k = (if V = [] then 6 else 5) ∧ T.t = V)
    (HB : Hid (Below w.heap.size w w2))
    (HN : Hid (∀ W, Below w.heap.size w W → Calls Tryd.prog 4 #[.string (⟨U.toArray⟩ ++ ⟨#[32, 97]⟩), .int .i64 0] W fun e w' => e = .returned (.agg (tkA T)) ∧ Below W.heap.size W w'))
    (HK : Hid (∀ W, Below w.heap.size w W → Calls Tryd.prog 5 #[] W fun e w' => e = .returned (.bool true) ∧ Below W.heap.size W w')) :
    Calls Tryd.prog 3 #[.int .u8 a] w fun e w' => e = .returned (.bool true) ∧ Below w.heap.size w w' := by
  have hk' : (k : Int) < 18 := by omega
  have hsz : (⟨U.toArray⟩ : ByteArray).size = U.length := rfl
  have hfit : ¬ 9223372036854775807 < U.length + 2 := by omega
  have hfit2 : ¬ 9223372036854775807 < (⟨U.toArray⟩ : ByteArray).size + 2 := by rw [hsz]; omega
  have HLT : Hid (w.heap.size + 1 < w2.heap.size) := (by omega : w.heap.size + 1 < w2.heap.size)
  obtain ⟨h0, h1⟩ := ha
  obtain ⟨tk, tt, tn, ta, tl, te⟩ := T
  simp only at hT
  obtain ⟨hT1, rfl⟩ := hT
  by_cases hv : tt = []
  · rw [if_pos hv] at hT1
    subst hv
    subst hT1
    simp only [tkA] at HN
    go_enter Tryd.func3, Tryd.ntmps3
    go_wp2_with fail
    refine Calls.mono (HN.out _ HB.out) ?_
    rintro e w3 ⟨rfl, hb3⟩
    have hs3 := hb3.size
    have d2 := (hb3.cell (p := ⟨w.heap.size + 1, k, none⟩) HLT.out).trans c2
    have hB3 := HB.out.trans (hb3.mono HB.out.size)
    clear hb3 c1 c2 hw2 HN
    have hlt : w.heap.size + 1 < w3.heap.size := Nat.lt_of_lt_of_le HLT.out hs3
    have hlt0 : w.heap.size ≤ w3.heap.size := by omega
    go_wp2_with fail
    refine Calls.mono (HK.out _ (by first | exact hB3.alloc hlt0 _)) ?_
    rintro e w4 ⟨rfl, hb4⟩
    have hB4 := (hB3.alloc hlt0 (.cells #[.int .i64 6, .string ⟨#[]⟩, .int .i64 tn, .int .i64 ta, .bool tl] 24)).trans (hb4.mono (by simp; omega))
    clear hb4
    go_wp2_with fail
    go_ret
    exact ⟨rfl, hB4⟩
  · rw [if_neg hv] at hT1
    subst hT1
    have hv1 : tt.isEmpty = false := by cases tt with
      | nil => exact absurd rfl hv
      | cons c l => rfl
    have hv2 : (⟨tt.toArray⟩ : ByteArray).toList.isEmpty = false := by rw [ByteArray.toList_eq]; exact hv1
    simp only [tkA] at HN
    go_enter Tryd.func3, Tryd.ntmps3
    go_wp2_with fail
    refine Calls.mono (HN.out _ HB.out) ?_
    rintro e w3 ⟨rfl, hb3⟩
    have hs3 := hb3.size
    have d2 := (hb3.cell (p := ⟨w.heap.size + 1, k, none⟩) HLT.out).trans c2
    have hB3 := HB.out.trans (hb3.mono HB.out.size)
    clear hb3 c1 c2 hw2 HN
    have hlt : w.heap.size + 1 < w3.heap.size := Nat.lt_of_lt_of_le HLT.out hs3
    have hlt0 : w.heap.size ≤ w3.heap.size := by omega
    go_wp2_with fail
    go_region_with (first | (go_at_call 5; refine Calls.mono (HK.out _ (by repeat (first | with_reducible exact hB3 | (with_reducible refine Below.drew ?_) | (with_reducible refine Below.alloc ?_ (by first | exact hlt0 | (simp; omega)) _)))) ?_; rintro e w4 ⟨rfl, hb4⟩))
    all_goals
      go_wp2_with fail
      go_ret
      refine ⟨rfl, ?_⟩
      refine Below.trans ?_ (hb4.mono ?_)
      · repeat (first | with_reducible exact hB3 | (with_reducible refine Below.drew ?_) | (with_reducible refine Below.alloc ?_ (by first | exact hlt0 | (simp; omega)) _))
      · simp; omega
theorem lexSigns_walk (a : Int) (w : World) (ha : 0 ≤ a ∧ a ≤ 255) (hg : Sig w) : Calls Tryd.prog 3 #[.int .u8 a] w fun e w' => e = .returned (.bool true) ∧ Below w.heap.size w w' := by
  obtain ⟨k, hm⟩ : ∃ k : Nat, a % 18 = (k : Int) := ⟨(a % 18).toNat, by omega⟩
  have hk : k < 18 := by omega
  obtain ⟨h1, h2, h3⟩ := sg_tok k hk
  obtain ⟨c1, c2⟩ := two_rows w vL vW 9 k _ _ (vL_at k hk) (vW_at k hk)
  have hB : Below w.heap.size w ((w.alloc (.cells vL 9)).alloc (.cells vW 9)) := ((Below.refl _ _).alloc (Nat.le_refl _) _).alloc (by rw [alloc_size]; omega) _
  refine lexSigns_core a k (sgL[k]'hk) (sgW[k]'hk) (Lx.tok (sgL[k]'hk ++ [32, 97]) 0) w _ ha hm hk h3 rfl c1 c2 (by rw [alloc_size, alloc_size]) ⟨h1, h2⟩ hB (fun W hW => ?_) (fun W hW => awake_any W (hg.below hW))
  have hn := Next_any (⟨(sgL[k]'hk).toArray⟩ ++ ⟨#[32, 97]⟩) 0 W (by rw [ByteArray.size_append]; show (sgL[k]'hk).length + 2 ≤ _; omega) (hg.below hW)
  rw [show plc 0 (⟨(sgL[k]'hk).toArray⟩ ++ ⟨#[32, 97]⟩ : ByteArray).size = 0 by simp [plc], show (⟨(sgL[k]'hk).toArray⟩ ++ ⟨#[32, 97]⟩ : ByteArray).data.toList = sgL[k]'hk ++ [32, 97] by simp] at hn
  exact hn
end Go.Proofs.YtbciecmikcloaabDoor.L
