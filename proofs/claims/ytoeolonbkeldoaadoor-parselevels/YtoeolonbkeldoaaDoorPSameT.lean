/- The reference's SameTree by its contract, where two trees are alike but for places. -/
import Derived.Test.YtoeolonbkeldoaaDoorPsPz
import Derived.Deep.RegionHeld3
import Derived.Deep.DeepCutAuto
import Derived.Deep.CutBlock
namespace Go.Proofs.YtoeolonbkeldoaaDoor.R
open Go.RowKit
open L (tkA)
set_option linter.unusedVariables false
/-- A node without its place. -/
def bare (n : Ps.Nd) : Ps.Nd := { n with a := 0 }
/-- Twelve cells of two nodes, held. -/
def Tw (ga gb ka kb : Nat) (x0 x1 x2 x3 x4 x5 y5 z3 z4 : Value) (wr W : World) : Prop :=
  W.cell? ⟨ga, ka, none⟩ = some x0 ∧ W.cell? ⟨ga, ka + 1, none⟩ = some x1 ∧ W.cell? ⟨ga, ka + 2, none⟩ = some x2 ∧ W.cell? ⟨ga, ka + 3, none⟩ = some x3 ∧ W.cell? ⟨ga, ka + 4, none⟩ = some x4 ∧ W.cell? ⟨ga, ka + 5, none⟩ = some x5 ∧
  W.cell? ⟨gb, kb, none⟩ = some x0 ∧ W.cell? ⟨gb, kb + 1, none⟩ = some x1 ∧ W.cell? ⟨gb, kb + 2, none⟩ = some x2 ∧ W.cell? ⟨gb, kb + 3, none⟩ = some z3 ∧ W.cell? ⟨gb, kb + 4, none⟩ = some z4 ∧ W.cell? ⟨gb, kb + 5, none⟩ = some y5 ∧ Hid (ga < wr.heap.size ∧ gb < wr.heap.size ∧ Below wr.heap.size wr W)
section
variable {ga gb ka kb : Nat} {x0 x1 x2 x3 x4 x5 y5 z3 z4 : Value} {wr W W' : World}
theorem Tw.go (h : Tw ga gb ka kb x0 x1 x2 x3 x4 x5 y5 z3 z4 wr W) (hB : Below wr.heap.size wr W') (hA : W'.heap[ga]? = W.heap[ga]?) (hC : W'.heap[gb]? = W.heap[gb]?) : Tw ga gb ka kb x0 x1 x2 x3 x4 x5 y5 z3 z4 wr W' := by
  obtain ⟨a0, a1, a2, a3, a4, a5, b0, b1, b2, b3, b4, b5, hh⟩ := h
  exact ⟨(cell_of_block hA _).trans a0, (cell_of_block hA _).trans a1, (cell_of_block hA _).trans a2, (cell_of_block hA _).trans a3, (cell_of_block hA _).trans a4, (cell_of_block hA _).trans a5, (cell_of_block hC _).trans b0, (cell_of_block hC _).trans b1, (cell_of_block hC _).trans b2, (cell_of_block hC _).trans b3, (cell_of_block hC _).trans b4, (cell_of_block hC _).trans b5, ⟨hh.out.1, hh.out.2.1, hB⟩⟩
theorem Tw.bel (h : Tw ga gb ka kb x0 x1 x2 x3 x4 x5 y5 z3 z4 wr W) : ga < wr.heap.size ∧ gb < wr.heap.size ∧ Below wr.heap.size wr W := h.2.2.2.2.2.2.2.2.2.2.2.2.out
theorem Tw.drew (h : Tw ga gb ka kb x0 x1 x2 x3 x4 x5 y5 z3 z4 wr W) : Tw ga gb ka kb x0 x1 x2 x3 x4 x5 y5 z3 z4 wr W.drew := h.go h.bel.2.2.drew rfl rfl
theorem Tw.alloc (h : Tw ga gb ka kb x0 x1 x2 x3 x4 x5 y5 z3 z4 wr W) (o : Obj) : Tw ga gb ka kb x0 x1 x2 x3 x4 x5 y5 z3 z4 wr (W.alloc o) := by
  have hs := h.bel.2.2.size
  exact h.go (h.bel.2.2.alloc hs o) (Below.heap_alloc W o ga (by have := h.bel.1; omega)) (Below.heap_alloc W o gb (by have := h.bel.2.1; omega))
theorem Tw.set6 (h : Tw ga gb ka kb x0 x1 x2 x3 x4 x5 y5 z3 z4 wr W) {X : Nat} (hX : wr.heap.size ≤ X) (y0 y1 y2 y3 y4 y6 : Value) : Tw ga gb ka kb x0 x1 x2 x3 x4 x5 y5 z3 z4 wr ((((((W.setCell ⟨X, 0, none⟩ y0).setCell ⟨X, 1, none⟩ y1).setCell ⟨X, 2, none⟩ y2).setCell ⟨X, 3, none⟩ y3).setCell ⟨X, 4, none⟩ y4).setCell ⟨X, 5, none⟩ y6) := by
  have hk : ∀ g, g < wr.heap.size → ∀ (W : World) i y, (W.setCell ⟨X, i, none⟩ y).heap[g]? = W.heap[g]? := fun g hg W i y => Below.heap_setCell W ⟨X, i, none⟩ y g (by show g ≠ X; omega)
  have hA := hk ga h.bel.1
  have hC := hk gb h.bel.2.1
  exact h.go (below_set6 h.bel.2.2 hX y0 y1 y2 y3 y4 y6) (by rw [hA, hA, hA, hA, hA, hA]) (by rw [hC, hC, hC, hC, hC, hC])
end
/-- Two boxes of nodes. -/
def Bx (wr wx : World) (X Y : Nat) (V U : Array Value) : Prop := wr.heap.size ≤ X ∧ wr.heap.size ≤ Y ∧ BoxAt X V wx ∧ BoxAt Y U wx ∧ Below wr.heap.size wr wx
theorem Bx.one (wr : World) (V U : Array Value) : Bx wr ((wr.alloc (.cells V 33)).alloc (.cells U 33)) wr.heap.size (wr.heap.size + 1) V U := by
  have hb : Below wr.heap.size wr (wr.alloc (.cells V 33)) := (Below.refl _ _).alloc (Nat.le_refl _) _
  exact ⟨Nat.le_refl _, by omega, by unfold BoxAt; rw [push_at, if_neg (by simp only [alloc_size']; omega), push_at, if_pos rfl], by unfold BoxAt; rw [push_at, if_pos (by simp only [alloc_size'])], hb.alloc hb.size _⟩
theorem Bx.swap {wr wx : World} {X Y : Nat} {V U : Array Value} (h : Bx wr wx X Y V U) : Bx wr wx Y X U V := ⟨h.2.1, h.1, h.2.2.2.1, h.2.2.1, h.2.2.2.2⟩
theorem Bx.drew {wr wx : World} {X Y : Nat} {V U : Array Value} (h : Bx wr wx X Y V U) : Bx wr wx.drew X Y V U := ⟨h.1, h.2.1, h.2.2.1, h.2.2.2.1, h.2.2.2.2.drew⟩
theorem BoxAt.six {W : World} {X : Nat} {x0 x1 x2 x3 x4 x5 : Value} (h : BoxAt X #[x0, x1, x2, x3, x4, x5] W) : W.cell? ⟨X, 0, none⟩ = some x0 ∧ W.cell? ⟨X, 1, none⟩ = some x1 ∧ W.cell? ⟨X, 2, none⟩ = some x2 ∧ W.cell? ⟨X, 3, none⟩ = some x3 ∧ W.cell? ⟨X, 4, none⟩ = some x4 ∧ W.cell? ⟨X, 5, none⟩ = some x5 ∧ X < W.heap.size := by
  unfold BoxAt at h
  refine ⟨?_, ?_, ?_, ?_, ?_, ?_, Nat.lt_of_not_le fun hg => by rw [Array.getElem?_eq_none hg] at h; cases h⟩ <;> simp [World.cell?, h]
/-- What is known of the k-th nodes of two trees that are alike. -/
def Both (ga gb k : Nat) (W : World) : Prop := ∃ (nk nn : Nat) (t : List UInt8) (N : List (List UInt8)) (K : List Nat) (an bn ak bk : Option Addr) (cn dn ck dk x5 y5 : Nat), Tw ga gb (k * 6) (k * 6) (.int .i64 (nk : Int)) (.int .i64 (nn : Int)) (.string ⟨t.toArray⟩) (.slice an N.length cn) (.slice ak K.length ck) (.int .i64 (x5 : Int)) (.int .i64 (y5 : Int)) (.slice bn N.length dn) (.slice bk K.length dk) W W ∧ NamesIn W (.slice an N.length cn) N ∧ NamesIn W (.slice bn N.length dn) N ∧ KidsIn W (.slice ak K.length ck) K ∧ KidsIn W (.slice bk K.length dk) K ∧ N.length ≤ 1000000 ∧ K.length ≤ 1000000
theorem NamesIn.at {W : World} {ad : Option Addr} {n cap : Nat} {l : List (List UInt8)} (h : NamesIn W (.slice ad n cap) l) (hl : l ≠ []) : ∃ g, ad = some ⟨g, 0, none⟩ ∧ g < W.heap.size ∧ ∀ j (h : j < l.length), W.cell? ⟨g, j, none⟩ = some (.string ⟨l[j].toArray⟩) := by
  obtain ⟨ad', cap', e, _, h⟩ := h
  simp only [Value.slice.injEq] at e
  obtain ⟨rfl, _, _⟩ := e
  exact h.resolve_left hl
theorem NamesIn.cap {W : World} {ad : Option Addr} {n cap : Nat} {l : List (List UInt8)} (h : NamesIn W (.slice ad n cap) l) : l.length ≤ cap := by
  obtain ⟨ad', cap', e, hc, h⟩ := h
  simp only [Value.slice.injEq] at e
  omega
theorem KidsIn.at {W : World} {ad : Option Addr} {n cap : Nat} {l : List Nat} (h : KidsIn W (.slice ad n cap) l) (hl : l ≠ []) : ∃ g, ad = some ⟨g, 0, none⟩ ∧ g < W.heap.size ∧ ∀ j (h : j < l.length), W.cell? ⟨g, j, none⟩ = some (.int .i64 (l[j] : Int)) := by
  obtain ⟨ad', cap', e, _, h⟩ := h
  simp only [Value.slice.injEq] at e
  obtain ⟨rfl, _, _⟩ := e
  exact h.resolve_left hl
theorem KidsIn.cap {W : World} {ad : Option Addr} {n cap : Nat} {l : List Nat} (h : KidsIn W (.slice ad n cap) l) : l.length ≤ cap := by
  obtain ⟨ad', cap', e, hc, h⟩ := h
  simp only [Value.slice.injEq] at e
  omega
set_option maxRecDepth 100000 in
set_option maxHeartbeats 4000000 in
theorem sameTree_core (ga gb n capa capb : Nat) (w : World) (hn : n ≤ 1000000) (hca : n ≤ capa) (hcb : n ≤ capb)
    (HB : Hid (∀ k W, k < n → Below w.heap.size w W → Both ga gb k W)) :
    Calls Tryd.prog 10 #[.slice (some ⟨ga, 0, none⟩) n capa, .slice (some ⟨gb, 0, none⟩) n capb] w fun e w' => e = .returned (.bool true) ∧ Below w.heap.size w w' := by
  go_enter Tryd.func10, Tryd.ntmps10
  go_wp2_with fail
  go_loopw [5] (fun i W => ∃ k : Nat, k ≤ n ∧ i = .int .i64 (k : Int) ∧ Hid (Below w.heap.size w W)) (fun i _ => n - (L.intOf i).toNat)
  case atStart => exact ⟨0, by omega, rfl, (show Below _ _ _ from Below.refl _ _)⟩
  case round =>
    obtain ⟨k, hk, rfl, HW⟩ := hrel
    by_cases hlt : k < n
    · have hlt' : (k : Int) < n := by omega
      obtain ⟨nk, nn, t, N, K, an, bn, ak, bk, cn, dn, ck, dk, x5, y5, hS0, hN1, hN2, hK1, hK2, hNl, hKl⟩ := HB.out k wr hlt HW.out
      have hSS := hS0
      obtain ⟨a0, a1, a2, a3, a4, a5, b0, b1, b2, b3, b4, b5, hh⟩ := hSS
      have HNS : Hid (_ ∧ _ ∧ _ ∧ _) := (show _ ∧ _ ∧ _ ∧ _ from ⟨hN1, hN2, hK1, hK2⟩)
      have hcn := hN1.cap
      have hdn := hN2.cap
      have hck := hK1.cap
      have hdk := hK2.cap
      clear hN1 hN2 hK1 hK2
      go_upto_region 6 with fail
      go_cut [6, 7] (fun p q wx => ∃ X Y, p = .pointer (some ⟨X, 0, none⟩) ∧ q = .pointer (some ⟨Y, 0, none⟩) ∧ Hid (Bx wr wx X Y #[.int .i64 (nk : Int), .int .i64 (nn : Int), .string ⟨t.toArray⟩, .slice an N.length cn, .slice ak K.length ck, .int .i64 (x5 : Int)] #[.int .i64 (nk : Int), .int .i64 (nn : Int), .string ⟨t.toArray⟩, .slice bn N.length dn, .slice bk K.length dk, .int .i64 (y5 : Int)]))
      case first =>
        go_region_held3 (fun W => W.cell? ⟨ga, k * 6, none⟩ = some (.int .i64 (nk : Int)) ∧ W.cell? ⟨ga, k * 6 + 1, none⟩ = some (.int .i64 (nn : Int)) ∧ W.cell? ⟨ga, k * 6 + 2, none⟩ = some (.string ⟨t.toArray⟩) ∧ W.cell? ⟨ga, k * 6 + 3, none⟩ = some (.slice an N.length cn) ∧ W.cell? ⟨ga, k * 6 + 4, none⟩ = some (.slice ak K.length ck) ∧ W.cell? ⟨ga, k * 6 + 5, none⟩ = some (.int .i64 (x5 : Int)) ∧ W.cell? ⟨gb, k * 6, none⟩ = some (.int .i64 (nk : Int)) ∧ W.cell? ⟨gb, k * 6 + 1, none⟩ = some (.int .i64 (nn : Int)) ∧ W.cell? ⟨gb, k * 6 + 2, none⟩ = some (.string ⟨t.toArray⟩) ∧ W.cell? ⟨gb, k * 6 + 3, none⟩ = some (.slice bn N.length dn) ∧ W.cell? ⟨gb, k * 6 + 4, none⟩ = some (.slice bk K.length dk) ∧ W.cell? ⟨gb, k * 6 + 5, none⟩ = some (.int .i64 (y5 : Int)) ∧ Hid (ga < wr.heap.size ∧ gb < wr.heap.size ∧ Below wr.heap.size wr W)) ((show Tw ga gb (k * 6) (k * 6) (.int .i64 (nk : Int)) (.int .i64 (nn : Int)) (.string ⟨t.toArray⟩) (.slice an N.length cn) (.slice ak K.length ck) (.int .i64 (x5 : Int)) (.int .i64 (y5 : Int)) (.slice bn N.length dn) (.slice bk K.length dk) wr _; repeat (first | with_reducible assumption | with_reducible refine Tw.drew ?_ | with_reducible refine Tw.alloc ?_ _ | with_reducible refine Tw.set6 ?_ (by first | exact Nat.le_refl _ | assumption | simp) _ _ _ _ _ _))) (fail)
        all_goals
          go_wp2_with fail
          go_meet
          case rel => exact ⟨_, _, rfl, rfl, (show Bx _ _ _ _ _ _ from by first | exact (Bx.one _ _ _) | exact (Bx.one _ _ _).drew | exact (Bx.one _ _ _).swap | exact (Bx.one _ _ _).swap.drew)⟩
      case rest =>
        obtain ⟨X, Y, rfl, rfl, HBX⟩ := hcut
        obtain ⟨p0, p1, p2, p3, p4, p5, hlx⟩ := HBX.out.2.2.1.six
        obtain ⟨q0, q1, q2, q3, q4, q5, hly⟩ := HBX.out.2.2.2.1.six
        have HWC : Hid (Below w.heap.size w wc) := HW.out.trans (HBX.out.2.2.2.2.mono HW.out.size)
        have HNC : Hid (NamesIn wc (.slice an N.length cn) N ∧ NamesIn wc (.slice bn N.length dn) N ∧ KidsIn wc (.slice ak K.length ck) K ∧ KidsIn wc (.slice bk K.length dk) K) := ⟨HNS.out.1.below HBX.out.2.2.2.2, HNS.out.2.1.below HBX.out.2.2.2.2, HNS.out.2.2.1.below HBX.out.2.2.2.2, HNS.out.2.2.2.below HBX.out.2.2.2.2⟩
        clear HBX HNS hS0 HW a0 a1 a2 a3 a4 a5 b0 b1 b2 b3 b4 b5 hh
        go_wp2_with fail
        go_loopw [8] (fun i W => ∃ j : Nat, j ≤ N.length ∧ i = .int .i64 (j : Int) ∧ Hid (Below wc.heap.size wc W)) (fun i _ => N.length - (L.intOf i).toNat)
        case atStart => exact ⟨0, by omega, rfl, (show Below _ _ _ from Below.refl _ _)⟩
        case round =>
          obtain ⟨j, hj, rfl, HJ⟩ := hrel
          have r3 := (HJ.out.cell (p := ⟨X, 3, none⟩) hlx).trans p3
          have s3 := (HJ.out.cell (p := ⟨Y, 3, none⟩) hly).trans q3
          by_cases hjl : j < N.length
          · have hjl' : (j : Int) < N.length := by omega
            have hne : N ≠ [] := fun e => by rw [e] at hjl; simp at hjl
            obtain ⟨gx, rfl, hgx, hcx⟩ := HNC.out.1.at hne
            obtain ⟨gy, rfl, hgy, hcy⟩ := HNC.out.2.1.at hne
            have u1 := (HJ.out.cell (p := ⟨gx, j, none⟩) hgx).trans (hcx j hjl)
            have u2 := (HJ.out.cell (p := ⟨gy, j, none⟩) hgy).trans (hcy j hjl)
            clear hcx hcy hne HNC p0 p1 p2 p3 p4 p5 q0 q1 q2 q3 q4 q5 HB
            generalize N[j] = tj at *
            go_wp2_with fail
            go_quiet (fail)
            go_wp2_with fail
            go_roundw
            case rel => exact ⟨j + 1, by omega, by go_num, (show Below _ _ _ from HJ.out.trans (below_drewN HJ.out.size))⟩
            case measure => simp [L.intOf] <;> omega
          · have hjl' : ¬ (j : Int) < N.length := by omega
            have r4 := (HJ.out.cell (p := ⟨X, 4, none⟩) hlx).trans p4
            have s4 := (HJ.out.cell (p := ⟨Y, 4, none⟩) hly).trans q4
            have HXY : Hid (X < wr.heap.size ∧ Y < wr.heap.size) := (show _ ∧ _ from ⟨Nat.lt_of_lt_of_le hlx HJ.out.size, Nat.lt_of_lt_of_le hly HJ.out.size⟩)
            have HNC2 : Hid (KidsIn wr (.slice ak K.length ck) K ∧ KidsIn wr (.slice bk K.length dk) K) := ⟨HNC.out.2.2.1.below HJ.out, HNC.out.2.2.2.below HJ.out⟩
            have HW2 : Hid (Below w.heap.size w wr) := HWC.out.trans (HJ.out.mono HWC.out.size)
            clear p0 p1 p2 p3 p4 p5 q0 q1 q2 q3 q4 q5 hlx hly HNC HJ HWC
            go_wp2_with fail
            go_loopw [9] (fun i W => ∃ m : Nat, m ≤ K.length ∧ i = .int .i64 (m : Int) ∧ Hid (Below wr.heap.size wr W)) (fun i _ => K.length - (L.intOf i).toNat)
            case atStart => exact ⟨0, by omega, rfl, (show Below _ _ _ from Below.refl _ _)⟩
            case round =>
              obtain ⟨m, hm, rfl, HM⟩ := hrel
              have v4 := (HM.out.cell (p := ⟨X, 4, none⟩) HXY.out.1).trans r4
              have w4 := (HM.out.cell (p := ⟨Y, 4, none⟩) HXY.out.2).trans s4
              by_cases hml : m < K.length
              · have hml' : (m : Int) < K.length := by omega
                have hne : K ≠ [] := fun e => by rw [e] at hml; simp at hml
                obtain ⟨gx, rfl, hgx, hcx⟩ := HNC2.out.1.at hne
                obtain ⟨gy, rfl, hgy, hcy⟩ := HNC2.out.2.at hne
                have u1 := (HM.out.cell (p := ⟨gx, m, none⟩) hgx).trans (hcx m hml)
                have u2 := (HM.out.cell (p := ⟨gy, m, none⟩) hgy).trans (hcy m hml)
                clear hcx hcy hne HNC2 r3 s3 r4 s4 HB
                generalize K[m] = tm at *
                go_wp2_with fail
                go_quiet (fail)
                go_wp2_with fail
                go_roundw
                case rel => exact ⟨m + 1, by omega, by go_num, (show Below _ _ _ from HM.out.trans (below_drewN HM.out.size))⟩
                case measure => simp [L.intOf] <;> omega
              · have hml' : ¬ (m : Int) < K.length := by omega
                have HW3 : Hid (_) := HW2.out.trans (HM.out.mono HW2.out.size)
                clear r3 s3 r4 s4 HNC2
                go_wp2_with fail
                go_roundw
                case rel => exact ⟨k + 1, by omega, by go_num, HW3⟩
                case measure => simp [L.intOf] <;> omega
    · have hlt' : ¬ (k : Int) < n := by omega
      go_wp2_with fail
      go_ret
      exact ⟨rfl, HW.out⟩
theorem Told.both {W : World} {ad : Option Addr} {n cap : Nat} {ns : List Ps.Nd} (h : Told W (.slice ad n cap) ns) (hn : ns ≠ []) : ∃ g, ad = some ⟨g, 0, none⟩ ∧ n = ns.length ∧ g < W.heap.size ∧ ns.length ≤ cap ∧ ∀ j (h : j < ns.length), ∃ (an ak : Option Addr) (cn ck : Nat), (∀ i, i < 6 → W.cell? ⟨g, j * 6 + i, none⟩ = (ndA ns[j] (.slice an ns[j].names.length cn) (.slice ak ns[j].kids.length ck))[i]?) ∧ NamesIn W (.slice an ns[j].names.length cn) ns[j].names ∧ KidsIn W (.slice ak ns[j].kids.length ck) ns[j].kids := by
  obtain ⟨vs, ad', cap', e1, e2, h3, h4, h5⟩ := h
  simp only [Value.slice.injEq] at e2
  obtain ⟨rfl, rfl, rfl⟩ := e2
  obtain ⟨g, rfl, hg, hc⟩ := h4.resolve_left hn
  refine ⟨g, rfl, rfl, hg, h3, fun j hj => ?_⟩
  subst e1
  rw [List.length_map] at hj
  have hm := h5 vs[j] (List.getElem_mem _)
  have e : (vs.map (·.1))[j]'(by rw [List.length_map]; exact hj) = vs[j].1 := by simp
  rw [e]
  have hci := hc j hj
  generalize vs[j] = x at *
  obtain ⟨nd, nm, kd⟩ := x
  simp only at hm hci ⊢
  obtain ⟨⟨an, cn, rfl, hN⟩, ⟨ak, ck, rfl, hK⟩⟩ := hm
  exact ⟨an, ak, cn, ck, hci, ⟨an, cn, rfl, hN⟩, ⟨ak, ck, rfl, hK⟩⟩
theorem sameTree_any {a b : List Ps.Nd} {ada adb : Option Addr} {na nb ca cb : Nat} {w : World} (ha : Told w (.slice ada na ca) a) (hb : Told w (.slice adb nb cb) b) (he : a.map bare = b.map bare) (hs : ∀ x ∈ a, x.names.length ≤ 1000000 ∧ x.kids.length ≤ 1000000) (hn : a.length ≤ 1000000) (h0 : a ≠ []) :
    Calls Tryd.prog 10 #[.slice ada na ca, .slice adb nb cb] w fun e w' => e = .returned (.bool true) ∧ Below w.heap.size w w' := by
  have hl : a.length = b.length := by have := congrArg List.length he; simpa using this
  have h0' : b ≠ [] := fun e => by rw [e] at hl; exact h0 (List.length_eq_zero_iff.1 hl)
  obtain ⟨ga, rfl, rfl, hga, hca, HA⟩ := ha.both h0
  obtain ⟨gb, rfl, rfl, hgb, hcb, HBB⟩ := hb.both h0'
  rw [← hl] at hcb ⊢
  refine sameTree_core ga gb a.length ca cb w hn hca hcb (fun k W hk hW => ?_)
  obtain ⟨an, ak, cn, ck, c1, n1, k1⟩ := HA k hk
  obtain ⟨bn, bk, dn, dk, c2, n2, k2⟩ := HBB k (by omega)
  have hx := hs a[k] (List.getElem_mem _)
  have hab : bare a[k] = bare (b[k]'(by omega)) := by
    have h1 : (a.map bare)[k]'(by rw [List.length_map]; exact hk) = bare a[k] := by simp
    have h2 : (b.map bare)[k]'(by rw [List.length_map]; omega) = bare (b[k]'(by omega)) := by simp
    rw [← h1, ← h2]; congr 1
  generalize a[k] = x at *
  generalize b[k]'(by omega) = y at *
  obtain ⟨xk, xn, xt, xN, xK, xa⟩ := x
  obtain ⟨yk, yn, yt, yN, yK, ya⟩ := y
  simp only [bare, Ps.Nd.mk.injEq, and_true] at hab
  obtain ⟨rfl, rfl, rfl, rfl, rfl⟩ := hab
  have cc : ∀ g, g < w.heap.size → ∀ o, W.cell? ⟨g, o, none⟩ = w.cell? ⟨g, o, none⟩ := fun g hg o => hW.cell (p := ⟨g, o, none⟩) hg
  refine ⟨xk, xn, xt, xN, xK, an, bn, ak, bk, cn, dn, ck, dk, xa, ya, ⟨?_, ?_, ?_, ?_, ?_, ?_, ?_, ?_, ?_, ?_, ?_, ?_, ⟨Nat.lt_of_lt_of_le hga hW.size, Nat.lt_of_lt_of_le hgb hW.size, Below.refl _ _⟩⟩, n1.same hW.size (fun k _ hk => hW.block k hk), n2.same hW.size (fun k _ hk => hW.block k hk), k1.same hW.size (fun k _ hk => hW.block k hk), k2.same hW.size (fun k _ hk => hW.block k hk), hx.1, hx.2⟩
  · rw [cc ga hga]; exact c1 0 (by omega)
  · rw [cc ga hga]; exact c1 1 (by omega)
  · rw [cc ga hga]; exact c1 2 (by omega)
  · rw [cc ga hga]; exact c1 3 (by omega)
  · rw [cc ga hga]; exact c1 4 (by omega)
  · rw [cc ga hga]; exact c1 5 (by omega)
  · rw [cc gb hgb]; exact c2 0 (by omega)
  · rw [cc gb hgb]; exact c2 1 (by omega)
  · rw [cc gb hgb]; exact c2 2 (by omega)
  · rw [cc gb hgb]; exact c2 3 (by omega)
  · rw [cc gb hgb]; exact c2 4 (by omega)
  · rw [cc gb hgb]; exact c2 5 (by omega)
end Go.Proofs.YtoeolonbkeldoaaDoor.R
