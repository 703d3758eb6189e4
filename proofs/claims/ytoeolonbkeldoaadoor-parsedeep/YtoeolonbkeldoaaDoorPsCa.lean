/- What the parser's chains share. -/
import Derived.Test.YtoeolonbkeldoaaDoorPsU
import Derived.Deep.RegionHeld3
import Derived.Deep.DeepCutAuto
import Derived.Deep.CutBlock
namespace Go.Proofs.YtoeolonbkeldoaaDoor.R
open Go.RowKit
open L (tkA)
set_option linter.unusedVariables false
open Ps in
theorem chainLoop_ru {lv : List UInt8 → Option Nd} {sub : M Nat} {f left : Nat} {s s' : Ps.St} {r : Nat} (g : Gr sub) (h : Ru (chainLoop lv sub (f + 1) left) s r s') :
    (lv (Ps.mark s) = none ∧ r = left ∧ s' = s) ∨ ∃ n T s1 x s2 o s3, lv (Ps.mark s) = some n ∧ Ru skip s T s1 ∧ Ru sub s1 x s2 ∧ Ru (over n [left, x]) s2 o s3 ∧ Ru (chainLoop lv sub f o) s3 r s' := by
  obtain ⟨e, n⟩ := h
  unfold chainLoop at e
  cases hl : lv (Ps.mark s) with
  | none =>
    rw [hl] at e
    simp only at e
    obtain ⟨rfl, rfl⟩ := Prod.mk.inj e
    exact .inl ⟨rfl, rfl, rfl⟩
  | some nd =>
    rw [hl] at e
    simp only at e
    rcases e0 : skip s with ⟨T, s1⟩
    simp only [e0] at e
    rcases e1 : sub s1 with ⟨x, s2⟩
    simp only [e1] at e
    rcases e2 : over nd [left, x] s2 with ⟨o, s3⟩
    simp only [e2] at e
    have n3 := gb (gr_chainLoop g _ _) e n
    have n2 := gb (gr_over _ _) e2 n3
    have n1 := gb g e1 n2
    exact .inr ⟨nd, T, s1, x, s2, o, s3, rfl, ⟨e0, n1⟩, ⟨e1, n2⟩, ⟨e2, n3⟩, ⟨e, n⟩⟩
open Ps in
theorem chain_ru {lv : List UInt8 → Option Nd} {part : M Nat} {row : List (List UInt8 → Option Nd)} {s s' : Ps.St} {r : Nat} (g : Gr part) (h : Ru (chain part (lv :: row)) s r s') :
    ∃ x s1, Ru (chain part row) s x s1 ∧ Ru (chainLoop lv (chain part row) s1.toks.length x) s1 r s' := by
  obtain ⟨e, n⟩ := h
  simp only [chain] at e
  rcases e0 : chain part row s with ⟨x, s1⟩
  simp only [e0] at e
  exact ⟨x, s1, ⟨e0, gb (gr_chainLoop (gr_chain g _) _ _) e n⟩, ⟨e, n⟩⟩
theorem RS.keepF {F : Nat → Prop} {base B dep : Nat} {s : Ps.St} {nv nv' : Value} {W W' : World} (h : RS F base B dep s nv W) (c : Chg B nv nv' W W') {g : Nat} (hg : F g) : W'.heap[g]? = W.heap[g]? := c.block g (h.far g hg).1 (h.far g hg).2.1 (h.far g hg).2.2
/-- A node's box. -/
def BoxAt (X : Nat) (V : Array Value) (W : World) : Prop := W.heap[X]? = some (.cells V 33 (0, 0))
theorem BoxAt.new (w : World) (V : Array Value) : BoxAt w.heap.size V (w.alloc (.cells V 33)) := Array.getElem?_push_size
theorem BoxAt.old {W : World} {X : Nat} {V : Array Value} (h : BoxAt X V W) (hV : V.size = 6) (y0 y1 y2 y3 y4 y5 : Value) :
    BoxAt X #[y0, y1, y2, y3, y4, y5] ((((((W.setCell ⟨X, 0, none⟩ y0).setCell ⟨X, 1, none⟩ y1).setCell ⟨X, 2, none⟩ y2).setCell ⟨X, 3, none⟩ y3).setCell ⟨X, 4, none⟩ y4).setCell ⟨X, 5, none⟩ y5) := by
  obtain ⟨l⟩ := V
  match l, hV with
  | [x0, x1, x2, x3, x4, x5], _ =>
    unfold BoxAt at *
    simp [World.setCell, Array.getElem?_modify, h]
theorem BoxAt.below {W W' : World} {X : Nat} {V : Array Value} (h : BoxAt X V W) (hb : Below W.heap.size W W') : BoxAt X V W' :=
  (hb.block X (Nat.lt_of_not_le fun hg => by rw [BoxAt, Array.getElem?_eq_none hg] at h; cases h)).trans h
theorem BoxAt.drew {W : World} {X : Nat} {V : Array Value} (h : BoxAt X V W) : BoxAt X V W.drew := h
theorem below_set6 {n : Nat} {w W : World} (h : Below n w W) {X : Nat} (hX : n ≤ X) (y0 y1 y2 y3 y4 y5 : Value) :
    Below n w ((((((W.setCell ⟨X, 0, none⟩ y0).setCell ⟨X, 1, none⟩ y1).setCell ⟨X, 2, none⟩ y2).setCell ⟨X, 3, none⟩ y3).setCell ⟨X, 4, none⟩ y4).setCell ⟨X, 5, none⟩ y5) :=
  (((((h.setCell hX _).setCell hX _).setCell hX _).setCell hX _).setCell hX _).setCell hX _
theorem lt_alloc {w : World} {o : Obj} {n : Nat} (h : (w.alloc o).heap.size ≤ n) : w.heap.size < n := by rw [alloc_size'] at h; omega
/-- The reader somewhere behind w0. -/
def Som (F : Nat → Prop) (base B dep : Nat) (s : Ps.St) (nv0 : Value) (w0 W : World) : Prop := ∃ nv, RS F base B dep s nv W ∧ Chg B nv0 nv w0 W
theorem Som.below {F : Nat → Prop} {base B dep : Nat} {s : Ps.St} {nv0 : Value} {w0 W W' : World} (h : Som F base B dep s nv0 w0 W) (hb : Below W.heap.size W W') : Som F base B dep s nv0 w0 W' := by
  obtain ⟨nv, h1, h2⟩ := h
  exact ⟨nv, h1.below hb, h2.trans (Chg.below nv hb)⟩
theorem Som.drew {F : Nat → Prop} {base B dep : Nat} {s : Ps.St} {nv0 : Value} {w0 W : World} (h : Som F base B dep s nv0 w0 W) : Som F base B dep s nv0 w0 W.drew := h.below (Below.refl _ _).drew
/-- The reader with one box more beside it. -/
theorem Som.beside {F : Nat → Prop} {base B dep : Nat} {s : Ps.St} {nv0 : Value} {w0 W W' : World} (h : Som F base B dep s nv0 w0 W) (hb : Below W.heap.size W W') {X : Nat} (hX : W.heap.size ≤ X) (hlt : X < W'.heap.size) : Som (fun k => F k ∨ k = X) base B dep s nv0 w0 W' := by
  obtain ⟨nv, h1, h2⟩ := h
  refine ⟨nv, h1.grow hb.size (fun k hk _ => hb.block k hk) (fun k hk => ?_), h2.trans (Chg.below nv hb)⟩
  rcases hk with hk | rfl
  · exact ⟨.inl hk, Nat.lt_of_lt_of_le (h1.far k hk).1 hb.size⟩
  · exact ⟨.inr hX, hlt⟩
theorem Som.less {F F' : Nat → Prop} {base B dep : Nat} {s : Ps.St} {nv0 : Value} {w0 W : World} (h : Som F base B dep s nv0 w0 W) (hF : ∀ k, F' k → F k) : Som F' base B dep s nv0 w0 W := by
  obtain ⟨nv, h1, h2⟩ := h
  exact ⟨nv, h1.less hF, h2⟩
/-- A box has been made behind wr, and nothing old has turned. -/
def CutR (wr wx : World) (X : Nat) (V : Array Value) : Prop := wr.heap.size ≤ X ∧ X < wx.heap.size ∧ BoxAt X V wx ∧ Below wr.heap.size wr wx
theorem CutR.new {wr W : World} (hb : Below wr.heap.size wr W) (V : Array Value) : CutR wr (W.alloc (.cells V 33)) W.heap.size V := ⟨hb.size, by rw [alloc_size']; omega, BoxAt.new _ _, hb.alloc hb.size _⟩
theorem CutR.old {wr W : World} (hb : Below wr.heap.size wr W) {X : Nat} (hX : wr.heap.size ≤ X) {V : Array Value} (h : BoxAt X V W) (hV : V.size = 6) (y0 y1 y2 y3 y4 y5 : Value) : CutR wr ((((((W.setCell ⟨X, 0, none⟩ y0).setCell ⟨X, 1, none⟩ y1).setCell ⟨X, 2, none⟩ y2).setCell ⟨X, 3, none⟩ y3).setCell ⟨X, 4, none⟩ y4).setCell ⟨X, 5, none⟩ y5) X #[y0, y1, y2, y3, y4, y5] :=
  ⟨hX, by
    have : X < W.heap.size := Nat.lt_of_not_le fun hg => by rw [BoxAt, Array.getElem?_eq_none hg] at h; cases h
    simpa [World.setCell] using this, h.old hV y0 y1 y2 y3 y4 y5, below_set6 hb hX y0 y1 y2 y3 y4 y5⟩
open Ps in
theorem skip_fewer {s : Ps.St} (g : Ps.Good s) (h : Ps.mark s ≠ []) {T : Lx.Tk} {s' : Ps.St} (e : skip s = (T, s')) : s'.toks.length + 1 ≤ s.toks.length := by
  have h1 := more_of g (mark_kind h)
  unfold skip at e
  rw [if_pos h1] at e
  obtain ⟨_, rfl⟩ := Prod.mk.inj e
  simp; omega
def FarX (F : Nat → Prop) (X : Nat) (W : World) : Prop := F X ∧ X < W.heap.size
/-- Six cells of a box that is another one's. -/
def Six (F : Nat → Prop) (X : Nat) (y0 y1 y2 y3 y4 y5 : Value) (W : World) : Prop := W.cell? ⟨X, 0, none⟩ = some y0 ∧ W.cell? ⟨X, 1, none⟩ = some y1 ∧ W.cell? ⟨X, 2, none⟩ = some y2 ∧ W.cell? ⟨X, 3, none⟩ = some y3 ∧ W.cell? ⟨X, 4, none⟩ = some y4 ∧ W.cell? ⟨X, 5, none⟩ = some y5 ∧ Hid (FarX F X W)
theorem Six.of {F : Nat → Prop} {X : Nat} {y0 y1 y2 y3 y4 y5 : Value} {W : World} (h : BoxAt X #[y0, y1, y2, y3, y4, y5] W) (hF : F X) : Six F X y0 y1 y2 y3 y4 y5 W := by
  unfold BoxAt at h
  refine ⟨?_, ?_, ?_, ?_, ?_, ?_, ⟨hF, Nat.lt_of_not_le fun hg => by rw [Array.getElem?_eq_none hg] at h; cases h⟩⟩ <;> simp [World.cell?, h]
theorem Six.go {F : Nat → Prop} {X : Nat} {y0 y1 y2 y3 y4 y5 : Value} {W W' : World} (h : Six F X y0 y1 y2 y3 y4 y5 W) (hs : W.heap.size ≤ W'.heap.size) (hb : W'.heap[X]? = W.heap[X]?) : Six F X y0 y1 y2 y3 y4 y5 W' := by
  obtain ⟨a0, a1, a2, a3, a4, a5, h1⟩ := h
  exact ⟨(cell_of_block hb _).trans a0, (cell_of_block hb _).trans a1, (cell_of_block hb _).trans a2, (cell_of_block hb _).trans a3, (cell_of_block hb _).trans a4, (cell_of_block hb _).trans a5, ⟨h1.out.1, Nat.lt_of_lt_of_le h1.out.2 hs⟩⟩
theorem Six.drew {F : Nat → Prop} {X : Nat} {y0 y1 y2 y3 y4 y5 : Value} {W : World} (h : Six F X y0 y1 y2 y3 y4 y5 W) : Six F X y0 y1 y2 y3 y4 y5 W.drew := h.go (Nat.le_refl _) rfl
theorem Six.alloc {F : Nat → Prop} {X : Nat} {y0 y1 y2 y3 y4 y5 : Value} {W : World} (h : Six F X y0 y1 y2 y3 y4 y5 W) (o : Obj) : Six F X y0 y1 y2 y3 y4 y5 (W.alloc o) := h.go (by rw [alloc_size']; omega) (Below.heap_alloc W o X h.2.2.2.2.2.2.out.2)
theorem Six.call {F : Nat → Prop} {base B dep : Nat} {s : Ps.St} {nv nv' : Value} {X : Nat} {y0 y1 y2 y3 y4 y5 : Value} {W W' : World} (h : Six F X y0 y1 y2 y3 y4 y5 W) (hr : RS F base B dep s nv W) (c : Chg B nv nv' W W') : Six F X y0 y1 y2 y3 y4 y5 W' := h.go c.size (hr.keepF c h.2.2.2.2.2.2.out.1)
end Go.Proofs.YtoeolonbkeldoaaDoor.R
