-- PROVED: a cell with lists of its own.
import Derived.Test.YtmipgpkeegggpaaPFresh
namespace Go.Proofs.Ytmipgpkeegggpaa.P
open Go.RowKit
set_option linter.unusedVariables false
theorem bcell {W w1 : World} (hb : Below W.heap.size W w1) : (∀ b o, b < W.heap.size → w1.cell? ⟨b, o, none⟩ = W.cell? ⟨b, o, none⟩) ∧ (∀ b o, b < W.heap.size → w1.frozen? ⟨b, o, none⟩ = W.frozen? ⟨b, o, none⟩) :=
  ⟨fun b o h => hb.cell (p := ⟨b, o, none⟩) h, fun b o h => hb.frozen (p := ⟨b, o, none⟩) h⟩
theorem Below.chain {B : Nat} {a b c : World} (h : Below B a b) (k : Below b.heap.size b c) (hB : B ≤ b.heap.size) : Below B a c := h.trans (k.mono hB)
theorem keepB {base : Nat} {w w' : World} (hB : base ≤ w.heap.size) (h : Below w.heap.size w w') : Keep [] base w w' := (Keep.refl _ _ _).below hB h
theorem two_second (w : World) (x y : Obj) : ((w.alloc x).alloc y).heap[w.heap.size + 1]? = some y := by
  have h := heap_alloc_new (w.alloc x) y
  rwa [show (w.alloc x).heap.size = w.heap.size + 1 by simp] at h
theorem two_first (w : World) (x y : Obj) : ((w.alloc x).alloc y).heap[w.heap.size]? = some x := by
  rw [((Below.refl (w.alloc x).heap.size (w.alloc x)).alloc (Nat.le_refl _) y).block _ (by simp)]; exact heap_alloc_new _ _
theorem blk5 {w : World} {b : Nat} {x y z u v : Value} {t : TypeId} (h : w.heap[b]? = some (.cells #[x, y, z, u, v] t)) :
    w.cell? ⟨b, 0, none⟩ = some x ∧ w.cell? ⟨b, 1, none⟩ = some y ∧ w.cell? ⟨b, 2, none⟩ = some z ∧ w.cell? ⟨b, 3, none⟩ = some u ∧ w.cell? ⟨b, 4, none⟩ = some v ∧
    w.frozen? ⟨b, 0, none⟩ = false ∧ w.frozen? ⟨b, 1, none⟩ = false ∧ w.frozen? ⟨b, 2, none⟩ = false ∧ w.frozen? ⟨b, 3, none⟩ = false ∧ w.frozen? ⟨b, 4, none⟩ = false ∧ b < w.heap.size := by
  refine ⟨?_, ?_, ?_, ?_, ?_, ?_, ?_, ?_, ?_, ?_, heap_lt h⟩ <;> simp [World.cell?, World.frozen?, h]
set_option maxRecDepth 100000 in
set_option maxHeartbeats 2000000 in
theorem fresh_any {base : Nat} {w : World} {vK vV : Value} {c : Cl} (h : Parts base w vK vV c) (hB : base ≤ w.heap.size) :
    Calls Try.prog 50 #[.agg #[.int .i64 c.kind, .int .i64 c.a, .int .i64 c.b, vK, vV]] w fun e w' => ∃ vK' vV', e = .returned (.agg #[.int .i64 c.kind, .int .i64 c.a, .int .i64 c.b, vK', vV']) ∧ Parts base w' vK' vV' c ∧ Below w.heap.size w w' := by
  obtain ⟨hK, hV, hk, hv⟩ := h
  have HK : Hid (Texts base w vK c.keys) := hK
  have HV : Hid (Vals base w vV c.vals) := hV
  have HKL : Hid (c.keys.length ≤ 1000) := hk
  have HVL : Hid (c.vals.length ≤ 1000) := hv
  obtain ⟨aK, kK, rfl, -⟩ := hK
  obtain ⟨aV, kV, rfl, -⟩ := hV
  clear hk hv
  generalize c.kind = ck, c.a = ca, c.b = cb, c.keys.length = nK, c.vals.length = nV at HK HV ⊢
  go_enter Try.func50, Try.ntmps50
  have hb0 : Below w.heap.size w ((w.alloc (.cells #[.int .i64 ck, .int .i64 ca, .int .i64 cb, .slice aK nK kK, .slice aV nV kV] 30)).alloc (.cells #[.int .i64 0, .int .i64 0, .int .i64 0, .slice none 0 0, .slice none 0 0] 30)) := ((Below.refl _ _).alloc (Nat.le_refl _) _).alloc (by simp) _
  go_wp2_with fail
  refine Calls.mono (copyS_any (HK.out.keep (keepB hB hb0) (by simp)) HKL.out) ?_
  rintro e w1 ⟨v1, rfl, hT1, hb1⟩
  have HT1 : Hid (Texts base w1 v1 c.keys) := hT1
  obtain ⟨a1, k1, rfl, -⟩ := hT1
  have HB1 : Hid (Below w.heap.size w w1) := Below.chain hb0 hb1 (by simp; omega)
  have HX1 : Hid (w1.heap[w.heap.size]? = some (.cells #[.int .i64 ck, .int .i64 ca, .int .i64 cb, .slice aK nK kK, .slice aV nV kV] 30)) := (hb1.block _ (by simp; omega)).trans (two_first _ _ _)
  have HY1 : Hid (w1.heap[w.heap.size + 1]? = some (.cells #[.int .i64 0, .int .i64 0, .int .i64 0, .slice none 0 0, .slice none 0 0] 30)) := (hb1.block _ (by simp)).trans (two_second _ _ _)
  clear hb1 hb0 HK
  obtain ⟨x0, x1, x2, x3, x4, f0, f1, f2, f3, f4, lx⟩ := blk5 HX1.out
  generalize c.keys.length = n1 at HT1 ⊢
  go_wp2_with fail
  have hb2 : Below w.heap.size w (w1.setCell ⟨w.heap.size, 3, none⟩ (.slice a1 n1 k1)) := HB1.out.setCell (by simp) _
  refine Calls.mono (copyV_any (HV.out.keep (keepB hB hb2) (by simp)) HVL.out) ?_
  rintro e w2 ⟨v2, rfl, hT2, hb3⟩
  have hs1 : (w1.setCell ⟨w.heap.size, 3, none⟩ (.slice a1 n1 k1)).heap.size = w1.heap.size := size_set _ _ _
  have ly := heap_lt HY1.out
  have HT2 : Hid (Vals base w2 v2 c.vals) := hT2
  obtain ⟨a2, k2, rfl, -⟩ := hT2
  have HB2 : Hid (Below w.heap.size w w2) := Below.chain hb2 hb3 (by rw [hs1]; omega)
  have HX2 : Hid (w2.heap[w.heap.size]? = some (.cells #[.int .i64 ck, .int .i64 ca, .int .i64 cb, .slice a1 n1 k1, .slice aV nV kV] 30)) := (hb3.block _ (by rw [hs1]; exact lx)).trans (Lib.heap_setCell_same HX1.out _)
  have HY2 : Hid (w2.heap[w.heap.size + 1]? = some (.cells #[.int .i64 0, .int .i64 0, .int .i64 0, .slice none 0 0, .slice none 0 0] 30)) := (hb3.block _ (by rw [hs1]; exact ly)).trans ((heap_set_ne (by simp)).trans HY1.out)
  have kT : Texts base w2 (.slice a1 n1 k1) c.keys := by
    have q1 : Keep [30] base w1 (w1.setCell ⟨w.heap.size, 3, none⟩ (.slice a1 n1 k1)) := (Keep.refl _ _ _).set HX1.out (by simp) hB _
    exact HT1.out.keep (q1.below (by rw [hs1]; omega) hb3) (by simp [Mine])
  have HK2 : Hid (Texts base w2 (.slice a1 n1 k1) c.keys) := kT
  clear kT hb3 hb2 HX1 HY1 HT1 HB1 HV x0 x1 x2 x3 x4 f0 f1 f2 f3 f4 lx ly hs1
  obtain ⟨x0, x1, x2, x3, x4, f0, f1, f2, f3, f4, lx⟩ := blk5 HX2.out
  obtain ⟨y0, y1, y2, y3, y4, g0, g1, g2, g3, g4, ly⟩ := blk5 HY2.out
  generalize c.vals.length = n2 at HT2 ⊢
  go_wp2_with fail
  have q2 : Keep [30] base w2 (w2.setCell ⟨w.heap.size, 4, none⟩ (.slice a2 n2 k2)) := (Keep.refl _ _ _).set HX2.out (by simp) hB _
  have hy3 : (w2.setCell ⟨w.heap.size, 4, none⟩ (.slice a2 n2 k2)).heap[w.heap.size + 1]? = some (.cells #[.int .i64 0, .int .i64 0, .int .i64 0, .slice none 0 0, .slice none 0 0] 30) := (heap_set_ne (by simp)).trans HY2.out
  have e0 := Lib.heap_setCell_same (i := 0) hy3 (.int .i64 ck)
  have e1 := Lib.heap_setCell_same (i := 1) e0 (.int .i64 ca)
  have e2 := Lib.heap_setCell_same (i := 2) e1 (.int .i64 cb)
  have e3 := Lib.heap_setCell_same (i := 3) e2 (.slice a1 n1 k1)
  have q3 := ((((q2.set (p := ⟨w.heap.size + 1, 0, none⟩) hy3 (by simp) (by simp; omega) (.int .i64 ck)).set (p := ⟨w.heap.size + 1, 1, none⟩) e0 (by simp) (by simp; omega) (.int .i64 ca)).set (p := ⟨w.heap.size + 1, 2, none⟩) e1 (by simp) (by simp; omega) (.int .i64 cb)).set (p := ⟨w.heap.size + 1, 3, none⟩) e2 (by simp) (by simp; omega) (.slice a1 n1 k1)).set (p := ⟨w.heap.size + 1, 4, none⟩) e3 (by simp) (by simp; omega) (.slice a2 n2 k2)
  exact bodyPost_ret (v := .agg #[.int .i64 ck, .int .i64 ca, .int .i64 cb, .slice a1 n1 k1, .slice a2 n2 k2]) (by simp [results, Try.results50, go_sem, *]) rfl ⟨_, _, rfl, ⟨HK2.out.keep q3 (by simp [Mine]), HT2.out.keep q3 (by simp [Mine]), HKL.out, HVL.out⟩, (((((HB2.out.setCell (by simp) _).setCell (by simp) _).setCell (by simp) _).setCell (by simp) _).setCell (by simp) _).setCell (by simp) _⟩
end Go.Proofs.Ytmipgpkeegggpaa.P
