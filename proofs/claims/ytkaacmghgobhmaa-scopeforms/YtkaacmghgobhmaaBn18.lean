/- Texts: ScFo. -/
import Derived.Test.YtkaacmghgobhmaaBn17
import Derived.Deep.RegionHeld3
namespace Go.Proofs.Ytkaacmghgobhmaa.Rd
open Go.RowKit
open L (tkA own_block own_below info_of)
set_option linter.unusedVariables false
abbrev fU : Array Value := #[.string ⟨#[102, 117, 110, 99, 116, 105, 111, 110, 32, 102, 40, 112, 44, 32, 113, 41, 32, 123, 32, 108, 101, 116, 32, 114, 32, 61, 32, 49, 59, 32, 114, 101, 116, 117, 114, 110, 32, 114, 59, 32, 125]⟩, .string ⟨#[116, 114, 121, 32, 123, 125, 32, 99, 97, 116, 99, 104, 32, 40, 101, 41, 32, 123, 32, 108, 101, 116, 32, 114, 32, 61, 32, 101, 59, 32, 114, 32, 125]⟩, .string ⟨#[123, 32, 98, 32, 125, 32, 108, 101, 116, 32, 98, 32, 61, 32, 49]⟩, .string ⟨#[108, 101, 116, 32, 102, 32, 61, 32, 102, 117, 110, 99, 116, 105, 111, 110, 32, 103, 40, 41, 32, 123, 32, 114, 101, 116, 117, 114, 110, 32, 103, 59, 32, 125]⟩, .string ⟨#[123, 32, 102, 117, 110, 99, 116, 105, 111, 110, 32, 107, 40, 41, 32, 123, 125, 32, 107, 32, 125]⟩, .string ⟨#[119, 104, 105, 108, 101, 32, 40, 97, 41, 32, 123, 32, 108, 101, 116, 32, 97, 32, 61, 32, 97, 32, 125]⟩, .string ⟨#[108, 101, 116, 32, 97, 32, 61, 32, 49, 59, 32, 105, 102, 32, 40, 97, 41, 32, 123, 32, 97, 32, 125, 32, 101, 108, 115, 101, 32, 123, 32, 108, 101, 116, 32, 97, 32, 61, 32, 50, 59, 32, 97, 32, 125]⟩]
abbrev fN : Array Value := #[.string ⟨#[114]⟩, .string ⟨#[114]⟩, .string ⟨#[98]⟩, .string ⟨#[103]⟩, .string ⟨#[107]⟩, .string ⟨#[97]⟩, .string ⟨#[97]⟩]
abbrev fW : Array Value := #[.int .i64 0, .int .i64 2, .int .i64 0, .int .i64 1, .int .i64 0, .int .i64 0, .int .i64 (-1), .int .i64 0, .int .i64 0, .int .i64 0, .int .i64 0, .int .i64 0, .int .i64 0, .int .i64 0]
theorem fU_at (k : Nat) (h : k < 7) : fU[k]? = some (.string ⟨(Sc.formT[k]'h).toArray⟩) := by
  have e : fU = (Sc.formT.map fun s : List UInt8 => Value.string ⟨s.toArray⟩).toArray := rfl
  rw [e, List.getElem?_toArray, List.getElem?_map, List.getElem?_eq_getElem (show k < Sc.formT.length from h)]; rfl
theorem fN_at (k : Nat) (h : k < 7) : fN[k]? = some (.string ⟨(Sc.formN[k]'h).toArray⟩) := by
  have e : fN = (Sc.formN.map fun s : List UInt8 => Value.string ⟨s.toArray⟩).toArray := rfl
  rw [e, List.getElem?_toArray, List.getElem?_map, List.getElem?_eq_getElem (show k < Sc.formN.length from h)]; rfl
theorem fW_at (k : Nat) (h : k < 7) : fW[k * 2]? = some (.int .i64 (Sc.formW[k]'h).1) ∧ fW[k * 2 + 1]? = some (.int .i64 (Sc.formW[k]'h).2) := by
  rcases k with _ | _ | _ | _ | _ | _ | _ | k <;> first | exact ⟨rfl, rfl⟩ | (exfalso; omega)
theorem push_at10 (W : World) (o : Obj) (k : Nat) : (W.alloc o).heap[k]? = if k = W.heap.size then some o else W.heap[k]? := by
  simp only [World.alloc, Array.getElem?_push]
theorem set2 {W : World} {b : Nat} {t : TypeId} {a c x y : Value} (h : W.heap[b]? = some (.cells #[a, c] t (0, 0))) : ((W.setCell ⟨b, 0, none⟩ x).setCell ⟨b, 1, none⟩ y).heap[b]? = some (.cells #[x, y] t (0, 0)) := by
  simp [World.setCell, Array.getElem?_modify, h]
theorem three_rows10 (w : World) (V1 V2 V3 : Array Value) (t1 t2 t3 : TypeId) {W : World} (h : ((w.alloc (.cells V1 t1)).alloc (.cells V2 t2)).alloc (.cells V3 t3) = W) :
    (∀ k a, V1[k]? = some a → W.cell? ⟨w.heap.size, k, none⟩ = some a) ∧ (∀ k a, V2[k]? = some a → W.cell? ⟨w.heap.size + 1, k, none⟩ = some a) ∧ (∀ k a, V3[k]? = some a → W.cell? ⟨w.heap.size + 2, k, none⟩ = some a) ∧ W.heap.size = w.heap.size + 3 ∧ Below w.heap.size w W := by
  subst h
  have h0 : (((w.alloc (.cells V1 t1)).alloc (.cells V2 t2)).alloc (.cells V3 t3)).heap[w.heap.size]? = some (.cells V1 t1 (0, 0)) := by
    rw [push_at10, if_neg (by simp only [alloc_size']; omega), push_at10, if_neg (by simp only [alloc_size']; omega), push_at10, if_pos rfl]
  have h1 : (((w.alloc (.cells V1 t1)).alloc (.cells V2 t2)).alloc (.cells V3 t3)).heap[w.heap.size + 1]? = some (.cells V2 t2 (0, 0)) := by
    rw [push_at10, if_neg (by simp only [alloc_size']; omega), push_at10, if_pos (by simp only [alloc_size'])]
  have h2 : (((w.alloc (.cells V1 t1)).alloc (.cells V2 t2)).alloc (.cells V3 t3)).heap[w.heap.size + 2]? = some (.cells V3 t3 (0, 0)) := by
    rw [push_at10, if_pos (by simp only [alloc_size'])]
  refine ⟨fun k a e => ?_, fun k a e => ?_, fun k a e => ?_, by simp only [alloc_size'], (((Below.refl _ _).alloc (Nat.le_refl _) _).alloc (by simp only [alloc_size']; omega) _).alloc (by simp only [alloc_size']; omega) _⟩
  · unfold World.cell?; rw [h0]; exact e
  · unfold World.cell?; rw [h1]; exact e
  · unfold World.cell?; rw [h2]; exact e
/-- What lies still while the nodes are gone through: the tree, the spots, the rows of texts. -/
structure FoW (w w2 W : World) (g cap R B n k : Nat) (l : List Ps.Nd) (S : Nat → Int × Int) (nm : List UInt8) (q : Int × Int) : Prop where
  bel : Below w.heap.size w W
  nd : NodesAt W g l
  sp : SpotsAt W R n n S
  box : B < W.heap.size ∧ W.cell? ⟨B, 0, none⟩ = some (.slice (some ⟨g, 0, none⟩) n cap) ∧ W.cell? ⟨B, 2, none⟩ = some (.bool true)
  nmv : w.heap.size + 1 < W.heap.size ∧ W.cell? ⟨w.heap.size + 1, k, none⟩ = some (.string ⟨nm.toArray⟩)
  wv : w.heap.size + 2 < W.heap.size ∧ W.cell? ⟨w.heap.size + 2, k * 2, none⟩ = some (.int .i64 q.1) ∧ W.cell? ⟨w.heap.size + 2, k * 2 + 1, none⟩ = some (.int .i64 q.2)
theorem FoW.below {w w2 W W' : World} {g cap R B n k : Nat} {l : List Ps.Nd} {S : Nat → Int × Int} {nm : List UInt8} {q : Int × Int} (h : FoW w w2 W g cap R B n k l S nm q) (hb : Below W.heap.size W W') : FoW w w2 W' g cap R B n k l S nm q := by
  have hs := hb.size
  refine ⟨h.bel.trans (hb.mono h.bel.size), h.nd.below hb, h.sp.below hb, ⟨by have := h.box.1; omega, (hb.cell (p := ⟨B, 0, none⟩) h.box.1).trans h.box.2.1, (hb.cell (p := ⟨B, 2, none⟩) h.box.1).trans h.box.2.2⟩, ⟨by have := h.nmv.1; omega, (hb.cell (p := ⟨w.heap.size + 1, k, none⟩) h.nmv.1).trans h.nmv.2⟩, ⟨by have := h.wv.1; omega, (hb.cell (p := ⟨w.heap.size + 2, k * 2, none⟩) h.wv.1).trans h.wv.2.1, (hb.cell (p := ⟨w.heap.size + 2, k * 2 + 1, none⟩) h.wv.1).trans h.wv.2.2⟩⟩
/-- What the last test reads. -/
def FoE (w : World) (k L4 : Nat) (q1 q2 : Int) (W : World) : Prop := W.cell? ⟨L4, 0, none⟩ = some (.int .i64 q1) ∧ W.cell? ⟨L4, 1, none⟩ = some (.int .i64 q2) ∧ W.cell? ⟨w.heap.size + 2, k * 2, none⟩ = some (.int .i64 q1) ∧ W.cell? ⟨w.heap.size + 2, k * 2 + 1, none⟩ = some (.int .i64 q2) ∧ Hid (L4 < W.heap.size) ∧ Hid (w.heap.size + 2 < W.heap.size) ∧ Hid (Below w.heap.size w W)
theorem FoE.drew {w : World} {k L4 : Nat} {q1 q2 : Int} {W : World} (h : FoE w k L4 q1 q2 W) : FoE w k L4 q1 q2 W.drew := ⟨h.1, h.2.1, h.2.2.1, h.2.2.2.1, h.2.2.2.2.1, h.2.2.2.2.2.1, (show Below _ _ _ from h.2.2.2.2.2.2.out.trans (L.below_drewN _ _ 1))⟩
set_option maxRecDepth 100000 in
set_option maxHeartbeats 4000000 in
theorem forms_core (a : Int) (k n : Nat) (U nm : List UInt8) (q : Int × Int) (l : List Ps.Nd) (S : Nat → Int × Int) (w w2 : World) (ha : 0 ≤ a ∧ a ≤ 255) (hm : a % 7 = (k : Int)) (hk : k < 7) (hn : l.length = n) (hq : Sc.lastOf l S nm n = q)
    (hw2 : ((w.alloc (.cells fU 9)).alloc (.cells fN 9)).alloc (.cells fW 40) = w2)
    (c1 : w2.cell? ⟨w.heap.size, k, none⟩ = some (.string ⟨U.toArray⟩)) (HC : Hid (w2.cell? ⟨w.heap.size + 1, k, none⟩ = some (.string ⟨nm.toArray⟩) ∧ w2.cell? ⟨w.heap.size + 2, k * 2, none⟩ = some (.int .i64 q.1) ∧ w2.cell? ⟨w.heap.size + 2, k * 2 + 1, none⟩ = some (.int .i64 q.2))) (hz2 : w2.heap.size = w.heap.size + 3)
    (HB : Hid (Below w.heap.size w w2)) (HSM : Hid (∀ j (h : j < l.length), l[j].t.length ≤ 1000000)) (HSK : Hid (∀ j (h : j < l.length), l[j].k ≤ 1000000000)) (hnn : n ≤ 1000000)
    (HP : Hid (Reads U l)) (HS : Hid (Spots l S))
    (HK : Hid (∀ W, Calls Try.prog 9 #[] W fun e w' => e = .returned (.bool true) ∧ Below W.heap.size W w')) :
    Calls Try.prog 6 #[.int .u8 a] w fun e w' => e = .returned (.bool true) ∧ Below w.heap.size w w' := by
  have hk' : (k : Int) < 7 := by omega
  have HPP : Hid (∀ W, Calls Try.prog 12 #[.string ⟨U.toArray⟩] W fun e w' => ∃ g cap, e = .returned (.agg #[.slice (some ⟨g, 0, none⟩) n cap, .int .i64 0, .bool true]) ∧ n ≤ cap ∧ Hid (NodesAt w' g l) ∧ Hid (Told w' (.slice (some ⟨g, 0, none⟩) n cap) l) ∧ Hid (Below W.heap.size W w')) := by rw [← hn]; exact HP.out
  have HSS : Hid (∀ W v, Told W v l → Calls Try.prog 13 #[v] W fun e w' => ∃ R, e = .returned (.slice (some ⟨R, 0, none⟩) n n) ∧ W.heap.size ≤ R ∧ Hid (Below W.heap.size W w') ∧ Hid (SpotsAt w' R n n S)) := by rw [← hn]; exact HS.out
  have HLT : Hid (w.heap.size + 2 < w2.heap.size) := (by omega : w.heap.size + 2 < w2.heap.size)
  have HNN : Hid (l.length = n) := hn
  have HQQ : Hid (Sc.lastOf l S nm n = q) := hq
  obtain ⟨h0, h1⟩ := ha
  simp only [fU, fN, fW] at hw2
  clear HP HS hq hn
  go_enter Try.func6, Try.ntmps6
  go_wp2_with fail
  refine Calls.mono (HPP.out _) ?_
  rintro e w3 ⟨g, cap, rfl, hc, hN, hT, hb3⟩
  have hb30 : Below w3.heap.size w3 (w3.alloc (.cells #[.slice (some ⟨g, 0, none⟩) n cap, .int .i64 0, .bool true] 31)) := (Below.refl _ _).alloc (Nat.le_refl _) _
  have HS4 : Hid (_) := HSS.out (w3.alloc (.cells #[.slice (some ⟨g, 0, none⟩) n cap, .int .i64 0, .bool true] 31)) _ (hT.out.below hb30)
  have HW3 : Hid (∀ W R, Below (w3.heap.size + 1) (w3.alloc (.cells #[.slice (some ⟨g, 0, none⟩) n cap, .int .i64 0, .bool true] 31)) W → SpotsAt W R n n S → FoW w w2 W g cap R w3.heap.size n k l S nm q) := fun W R hW hR => by
    have hs2 := HLT.out
    have hs3 := hb3.out.size
    have e0 := hb3.out.cell (p := ⟨w.heap.size + 1, k, none⟩) (by show w.heap.size + 1 < _; omega)
    have e1 := hb3.out.cell (p := ⟨w.heap.size + 2, k * 2, none⟩) hs2
    have e2 := hb3.out.cell (p := ⟨w.heap.size + 2, k * 2 + 1, none⟩) hs2
    have hA := MapKept.heap_alloc w3 (.cells #[.slice (some ⟨g, 0, none⟩) n cap, .int .i64 0, .bool true] 31)
    have hW0 : Below w3.heap.size w3 W := hb30.trans (hW.mono (by omega))
    have hbx : W.heap[w3.heap.size]? = _ := (hW.block w3.heap.size (by omega)).trans hA.1
    have hsW := hW0.size
    refine ⟨(HB.out.trans (hb3.out.mono HB.out.size)).trans (hW0.mono (by have := HB.out.size; omega)), hN.out.below hW0, hR, ⟨lt_of_some hbx, by unfold World.cell?; rw [hbx]; rfl, by unfold World.cell?; rw [hbx]; rfl⟩, ⟨by omega, ?_⟩, ⟨by omega, ?_, ?_⟩⟩
    · exact (hW0.cell (p := ⟨w.heap.size + 1, k, none⟩) (by show w.heap.size + 1 < _; omega)).trans (e0.trans HC.out.1)
    · exact (hW0.cell (p := ⟨w.heap.size + 2, k * 2, none⟩) (by show w.heap.size + 2 < _; omega)).trans (e1.trans HC.out.2.1)
    · exact (hW0.cell (p := ⟨w.heap.size + 2, k * 2 + 1, none⟩) (by show w.heap.size + 2 < _; omega)).trans (e2.trans HC.out.2.2)
  clear hb3 hT hN HPP HSS HC hb30 c1 hw2 HB HLT hz2
  go_wp2_with fail
  refine Calls.mono HS4.out ?_
  rintro e w4 ⟨R, rfl, hR, hb4, hS4⟩
  have HF4 : Hid (FoW w w2 w4 g cap R w3.heap.size n k l S nm q) := HW3.out w4 R (by have := hb4.out; rw [alloc_size'] at this; exact this) hS4.out
  clear HS4 HW3 hb4 hS4 hR
  obtain ⟨b0, b1, b2⟩ := HF4.out.box
  generalize w3.heap.size = B at *
  clear w3
  go_wp2_with fail
  have hA4 := MapKept.heap_alloc w4 (.cells #[.int .i64 (-5), .int .i64 0] 40)
  have H0 : Hid (Below w4.heap.size w4 (w4.alloc (.cells #[.int .i64 (-5), .int .i64 0] 40)) ∧ (w4.alloc (.cells #[.int .i64 (-5), .int .i64 0] 40)).heap[w4.heap.size]? = some (.cells #[.int .i64 (Sc.lastOf l S nm 0).1, .int .i64 (Sc.lastOf l S nm 0).2] 40 (0, 0))) := ⟨(Below.refl _ _).alloc (Nat.le_refl _) _, hA4.1⟩
  clear b0 b1 b2 hA4
  go_loopw [10] (fun i W => ∃ j : Nat, j ≤ n ∧ i = .int .i64 (j : Int) ∧ Hid (Below w4.heap.size w4 W ∧ W.heap[w4.heap.size]? = some (.cells #[.int .i64 (Sc.lastOf l S nm j).1, .int .i64 (Sc.lastOf l S nm j).2] 40 (0, 0)))) (fun i _ => n - (L.intOf i).toNat)
  case atStart => exact ⟨0, by omega, rfl, H0⟩
  case round =>
    obtain ⟨j, hj, rfl, HW⟩ := hrel
    clear H0
    have hF := HF4.out.below HW.out.1
    obtain ⟨b0, b1, b2⟩ := hF.box
    by_cases hjn : j < n
    · have hjn' : (j : Int) < n := by omega
      have hj0 : (0 : Int) ≤ j := by omega
      have hjl : j < l.length := by rw [HNN.out]; exact hjn
      obtain ⟨hg, hnd⟩ := hF.nd
      obtain ⟨d0, d2⟩ := hnd j hjl
      obtain ⟨nb, nc⟩ := hF.nmv
      obtain ⟨s0, s1⟩ := hF.sp.cells hjn
      have hRl := hF.sp.lt
      have hkk := HSK.out j hjl
      have hlx : w4.heap.size < wr.heap.size := lt_of_some HW.out.2
      have x0 : wr.cell? ⟨w4.heap.size, 0, none⟩ = some (.int .i64 (Sc.lastOf l S nm j).1) := by unfold World.cell?; rw [HW.out.2]; rfl
      have x1 : wr.cell? ⟨w4.heap.size, 1, none⟩ = some (.int .i64 (Sc.lastOf l S nm j).2) := by unfold World.cell?; rw [HW.out.2]; rfl
      have f0 : wr.frozen? ⟨w4.heap.size, 0, none⟩ = false := by unfold World.frozen?; rw [HW.out.2]; rfl
      have f1 : wr.frozen? ⟨w4.heap.size, 1, none⟩ = false := by unfold World.frozen?; rw [HW.out.2]; rfl
      have hsame : Sc.lastOf l S nm (j + 1) = if l[j].k = 3 then (if l[j].t = nm then S j else Sc.lastOf l S nm j) else Sc.lastOf l S nm j := by
        show (match l[j]? with | none => _ | some x => _) = _
        rw [List.getElem?_eq_getElem hjl]
      clear hF hnd
      by_cases h3 : l[j].k = 3
      · rw [if_pos h3] at hsame
        rw [h3] at d0
        by_cases ht : l[j].t = nm
        · rw [if_pos ht] at hsame
          rw [ht] at d2
          have H1 : Hid (∀ nq, Below w4.heap.size w4 (((wr.drewN nq).setCell ⟨w4.heap.size, 0, none⟩ (.int .i64 (S j).1)).setCell ⟨w4.heap.size, 1, none⟩ (.int .i64 (S j).2)) ∧ (((wr.drewN nq).setCell ⟨w4.heap.size, 0, none⟩ (.int .i64 (S j).1)).setCell ⟨w4.heap.size, 1, none⟩ (.int .i64 (S j).2)).heap[w4.heap.size]? = some (.cells #[.int .i64 (Sc.lastOf l S nm (j + 1)).1, .int .i64 (Sc.lastOf l S nm (j + 1)).2] 40 (0, 0))) := fun nq => by
            have hh : (wr.drewN nq).heap[w4.heap.size]? = some (.cells #[.int .i64 (Sc.lastOf l S nm j).1, .int .i64 (Sc.lastOf l S nm j).2] 40 (0, 0)) := by rw [L.heap_drewN]; exact HW.out.2
            refine ⟨((HW.out.1.trans (L.below_drewN _ _ nq)).setCell (Nat.le_refl _) _).setCell (Nat.le_refl _) _, ?_⟩
            rw [hsame]
            exact set2 hh
          clear HW hsame ht h3 hkk
          generalize Sc.lastOf l S nm j = lo at *
          generalize (S j).1 = q1 at *
          generalize (S j).2 = q2 at *
          go_upto_region 13 with fail
          go_quiet (fail)
          go_wp2_with fail
          go_roundw
          case rel => exact ⟨j + 1, by omega, by go_num, H1.out _⟩
          case measure => simp [L.intOf] <;> omega
        · rw [if_neg ht] at hsame
          have hbs : (l[j].t == nm) = false := by rw [beq_eq_false_iff_ne]; exact ht
          have H1 : Hid (∀ nq, Below w4.heap.size w4 (wr.drewN nq) ∧ (wr.drewN nq).heap[w4.heap.size]? = some (.cells #[.int .i64 (Sc.lastOf l S nm (j + 1)).1, .int .i64 (Sc.lastOf l S nm (j + 1)).2] 40 (0, 0))) := fun nq => by
            rw [hsame, L.heap_drewN]; exact ⟨HW.out.1.trans (L.below_drewN _ _ nq), HW.out.2⟩
          clear HW hsame ht h3 hkk x0 x1 f0 f1
          generalize l[j].t = tj at *
          go_upto_region 13 with fail
          go_quiet (fail)
          go_wp2_with fail
          go_roundw
          case rel => exact ⟨j + 1, by omega, by go_num, H1.out _⟩
          case measure => simp [L.intOf] <;> omega
      · rw [if_neg h3] at hsame
        have h3' : ¬ (l[j].k : Int) = 3 := by omega
        have h3b : ((l[j].k : Int) == 3) = false := by rw [beq_eq_false_iff_ne]; omega
        have H1 : Hid (∀ nq, Below w4.heap.size w4 (wr.drewN nq) ∧ (wr.drewN nq).heap[w4.heap.size]? = some (.cells #[.int .i64 (Sc.lastOf l S nm (j + 1)).1, .int .i64 (Sc.lastOf l S nm (j + 1)).2] 40 (0, 0))) := fun nq => by
            rw [hsame, L.heap_drewN]; exact ⟨HW.out.1.trans (L.below_drewN _ _ nq), HW.out.2⟩
        clear HW hsame h3 x0 x1 f0 f1
        generalize l[j].k = kj at *
        generalize l[j].t = tj at *
        go_upto_region 13 with fail
        go_quiet (fail)
        go_wp2_with fail
        go_roundw
        case rel => exact ⟨j + 1, by omega, by go_num, H1.out _⟩
        case measure => simp [L.intOf] <;> omega
    · have hjn' : ¬ (j : Int) < n := by omega
      have : j = n := by omega
      subst this
      rw [HQQ.out] at HW
      obtain ⟨wl, w0, w1⟩ := hF.wv
      have hlx : w4.heap.size < wr.heap.size := lt_of_some HW.out.2
      have x0 : wr.cell? ⟨w4.heap.size, 0, none⟩ = some (.int .i64 q.1) := by unfold World.cell?; rw [HW.out.2]; rfl
      have x1 : wr.cell? ⟨w4.heap.size, 1, none⟩ = some (.int .i64 q.2) := by unfold World.cell?; rw [HW.out.2]; rfl
      have HBW : Hid (Below w.heap.size w wr) := hF.bel
      clear hF HW HF4 HQQ HNN HSM HSK
      generalize w4.heap.size = L4 at *
      obtain ⟨q1, q2⟩ := q
      simp only at x0 x1 w0 w1
      have HH : FoE w k L4 q1 q2 wr := ⟨x0, x1, w0, w1, hlx, wl, HBW⟩
      have HKK : Hid (∀ W, FoE w k L4 q1 q2 W → Calls Try.prog 9 #[] W fun e w' => e = .returned (.bool true) ∧ FoE w k L4 q1 q2 w') := fun W hW => (HK.out W).mono (by
        rintro e w' ⟨rfl, hb⟩
        obtain ⟨y0, y1, y2, y3, y4, y5, y6⟩ := hW
        exact ⟨rfl, (hb.cell (p := ⟨L4, 0, none⟩) y4.out).trans y0, (hb.cell (p := ⟨L4, 1, none⟩) y4.out).trans y1, (hb.cell (p := ⟨w.heap.size + 2, k * 2, none⟩) y5.out).trans y2, (hb.cell (p := ⟨w.heap.size + 2, k * 2 + 1, none⟩) y5.out).trans y3, (show L4 < _ from Nat.lt_of_lt_of_le y4.out hb.size), (show w.heap.size + 2 < _ from Nat.lt_of_lt_of_le y5.out hb.size), y6.out.trans (hb.mono y6.out.size)⟩)
      clear HK HBW x0 x1 w0 w1 hlx wl b2
      go_upto_region 15 with fail
      go_region_held3 (fun W => W.cell? ⟨L4, 0, none⟩ = some (.int .i64 q1) ∧ W.cell? ⟨L4, 1, none⟩ = some (.int .i64 q2) ∧ W.cell? ⟨w.heap.size + 2, k * 2, none⟩ = some (.int .i64 q1) ∧ W.cell? ⟨w.heap.size + 2, k * 2 + 1, none⟩ = some (.int .i64 q2) ∧ Hid (L4 < W.heap.size) ∧ Hid (w.heap.size + 2 < W.heap.size) ∧ Hid (Below w.heap.size w W)) (first | assumption | exact FoE.drew (by assumption)) (first | (go_at_call 9; refine Calls.mono (HKK.out _ (by first | assumption | exact FoE.drew (by assumption))) ?_; rintro e w8 ⟨rfl, hS8⟩))
      go_wp2_with fail
      go_ret
      exact ⟨rfl, hS8.2.2.2.2.2.2.out⟩
theorem form_facts {src nm : List UInt8} {q : Int × Int} (h : Sc.okForm src nm q = true) : ∃ l, Rp.rparse src = (l, 0, true) ∧ Sc.fitB l = true ∧ Sc.lastOf l (Sc.spot l (Sc.found l)) nm l.length = q := by
  unfold Sc.okForm at h
  rcases e : Rp.rparse src with ⟨l, a, ok⟩
  rw [e] at h
  simp only [Bool.and_eq_true, decide_eq_true_eq] at h
  obtain ⟨⟨⟨h1, h2⟩, h3⟩, h4⟩ := h
  subst h1 h2
  exact ⟨l, rfl, h3, h4⟩
theorem scopeForms_walk (a : Int) (w : World) (ha : 0 ≤ a ∧ a ≤ 255) : Calls Try.prog 6 #[.int .u8 a] w fun e w' => e = .returned (.bool true) ∧ Below w.heap.size w w' := by
  obtain ⟨k, hm⟩ : ∃ k : Nat, a % 7 = (k : Int) := ⟨(a % 7).toNat, by omega⟩
  have hk : k < 7 := by omega
  obtain ⟨W, hW⟩ : ∃ W, ((w.alloc (.cells fU 9)).alloc (.cells fN 9)).alloc (.cells fW 40) = W := ⟨_, rfl⟩
  obtain ⟨r1, r2, r3, hz, hb⟩ := three_rows10 w _ _ _ _ _ _ hW
  have hzz : k < ((Sc.formT.zip Sc.formN).zip Sc.formW).length := hk
  have o := List.all_eq_true.1 Sc.forms_ok _ (List.getElem_mem hzz)
  rw [List.getElem_zip, List.getElem_zip] at o
  obtain ⟨l, e, hf, hq⟩ := form_facts o
  have hfit := fit_of hf
  have hU : (Sc.formT[k]'hk).length ≤ 4096 := (by decide : ∀ x ∈ Sc.formT, x.length ≤ 4096) _ (List.getElem_mem _)
  exact forms_core a k l.length (Sc.formT[k]'hk) (Sc.formN[k]'hk) (Sc.formW[k]'hk) l _ w W ha hm hk rfl hq hW (r1 _ _ (fU_at k hk)) ⟨r2 _ _ (fN_at k hk), r3 _ _ (fW_at k hk).1, r3 _ _ (fW_at k hk).2⟩ hz hb (fun j hj => (hfit.tx _ (List.getElem_mem hj)).1) (fun j hj => hfit.kinds _ (List.getElem_mem hj)) hfit.few (reads_of hU e hfit.ne) (spots_of hf) (fun W => awake_any W)
end Go.Proofs.Ytkaacmghgobhmaa.Rd
