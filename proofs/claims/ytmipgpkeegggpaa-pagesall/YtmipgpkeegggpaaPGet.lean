-- PROVED: a cell of a book (5.1).
import Derived.Test.YtmipgpkeegggpaaPFresh2
namespace Go.Proofs.Ytmipgpkeegggpaa.P
open Go.RowKit
set_option linter.unusedVariables false
/-- Books in memory. -/
structure Sys (base : Nat) (w : World) (bs : List Bk) : Prop where
  bm : BM base w bs
  pm : PM base w bs (live bs)
  ok : ∀ (i : Nat) (b : Bk), bs[i]? = some b → b.len ≤ 4096 ∧ b.pgs.length = (b.len + 7) / 8 ∧ (b.opn = false → b.len = 0) ∧ b.slots.length = 8 * b.pgs.length
  few : bs.length ≤ 1000
  size : base ≤ w.heap.size
theorem Sys.below {base : Nat} {w w' : World} {bs : List Bk} (h : Sys base w bs) (hb : Below w.heap.size w w') : Sys base w' bs :=
  ⟨h.bm.keep (keepB h.size hb) (by simp), h.pm.keep (keepB h.size hb) (by simp), h.ok, h.few, Nat.le_trans h.size hb.size⟩
/-- Other things than books, pages, cells' lists are turned. -/
theorem Sys.other {S : List TypeId} {base : Nat} {w w' : World} {bs : List Bk} (h : Sys base w bs) (k : Keep S base w w') (hS : ∀ T, T ∈ S → (Mine T ∧ T ≠ 90 ∧ T ≠ 83) ∧ T ≠ 86 ∧ T ≠ 87) : Sys base w' bs :=
  ⟨h.bm.keep' k fun T hT => (hS T hT).2, h.pm.keep' k fun T hT => (hS T hT).1, h.ok, h.few, Nat.le_trans h.size k.size⟩
theorem Sys.row {base : Nat} {w : World} {bs : List Bk} (h : Sys base w bs) {i : Nat} {b : Bk} (hb : bs[i]? = some b) {j p : Nat} (hp : b.pgs[j]? = some p) :
    ∃ g cap, b.row = .slice (some ⟨g, 0, none⟩) b.pgs.length cap ∧ j < b.pgs.length ∧ b.pgs.length ≤ cap ∧ base ≤ g ∧ g < w.heap.size ∧ w.cell? ⟨g, j, none⟩ = some (ptr p) ∧ w.frozen? ⟨g, j, none⟩ = false ∧ ∃ arr, w.heap[g]? = some (.cells arr 87 (0, 0)) := by
  obtain ⟨h1, h2, h3⟩ := h.bm.book i b hb
  have hl := (List.getElem?_eq_some_iff.1 hp).1
  have hc := fun g hg => h3.cells (g := g) hg
  rcases h3.2 with ⟨h4, h5⟩ | ⟨g, cap, cur, h4, h5, h6, h7, _⟩
  · omega
  · refine ⟨g, cap, h4, hl, h7, h5, heap_lt h6, ?_, by simp [World.frozen?, h6], cur, h6⟩
    have := hc g (by rw [h4]; rfl) j (ptr p) (by simp [ptrs, hp])
    rw [Go.WideShapes.add_plain, Nat.zero_add] at this
    exact this
def zeroC : Value := .agg #[.int .i64 0, .int .i64 0, .int .i64 0, .slice none 0 0, .slice none 0 0]
set_option maxRecDepth 100000 in
set_option maxHeartbeats 2000000 in
theorem get_none (k : Int) (w : World) : Calls Try.prog 36 #[.pointer none, .int .i64 k] w fun e w' => e = .returned (.tuple #[.agg #[.int .i64 0, .int .i64 0, .int .i64 0, .slice none 0 0, .slice none 0 0], .int .i64 2]) ∧ Below w.heap.size w w' := by
  go_enter Try.func36, Try.ntmps36
  go_wp2_with (go_at_call 47; refine (has_none _ _).mono ?_; rintro e w' ⟨rfl, rfl⟩)
  exact bodyPost_ret (v := .tuple #[.agg #[.int .i64 0, .int .i64 0, .int .i64 0, .slice none 0 0, .slice none 0 0], .int .i64 2]) (by simp [results, Try.results36, go_sem]) rfl ⟨rfl, (Below.refl _ _).alloc (Nat.le_refl _) _⟩
set_option maxRecDepth 100000 in
set_option maxHeartbeats 2000000 in
theorem get_no {base : Nat} {w : World} {bs : List Bk} (h : Sys base w bs) {i : Nat} {b : Bk} (hb : bs[i]? = some b) (k : Int) (hk : ¬ (0 ≤ k ∧ k < b.len)) :
    Calls Try.prog 36 #[.pointer (some ⟨b.at_, 0, none⟩), .int .i64 k] w fun e w' => e = .returned (.tuple #[.agg #[.int .i64 0, .int .i64 0, .int .i64 0, .slice none 0 0, .slice none 0 0], .int .i64 2]) ∧ Below w.heap.size w w' := by
  obtain ⟨h1, h2, _⟩ := h.bm.book i b hb
  have HH : Hid (∀ W, Below w.heap.size w W → Calls Try.prog 47 #[.pointer (some ⟨b.at_, 0, none⟩), .int .i64 k] W fun e w' => e = .returned (.bool false) ∧ w' = W) := fun W hW => by
    have := has_any ((hW.block _ (heap_lt h2)).trans h2) k
    rwa [decide_eq_false hk] at this
  clear h hb h2 hk h1
  generalize b.at_ = B at *
  go_enter Try.func36, Try.ntmps36
  go_wp2_with (go_at_call 47; refine Calls.mono (HH.out _ ((Below.refl _ _).alloc (Nat.le_refl _) _)) ?_; rintro e w' ⟨rfl, rfl⟩)
  exact bodyPost_ret (v := .tuple #[.agg #[.int .i64 0, .int .i64 0, .int .i64 0, .slice none 0 0, .slice none 0 0], .int .i64 2]) (by simp [results, Try.results36, go_sem]) rfl ⟨rfl, (Below.refl _ _).alloc (Nat.le_refl _) _⟩
set_option maxRecDepth 100000 in
set_option maxHeartbeats 2000000 in
theorem get_yes {base : Nat} {w : World} {bs : List Bk} (h : Sys base w bs) {i : Nat} {b : Bk} (hb : bs[i]? = some b) (k : Nat) (hk : k < b.len) :
    Calls Try.prog 36 #[.pointer (some ⟨b.at_, 0, none⟩), .int .i64 (k : Int)] w fun e w' => ∃ vK vV c, b.slots[k]? = some c ∧ e = .returned (.tuple #[.agg #[.int .i64 c.kind, .int .i64 c.a, .int .i64 c.b, vK, vV], .int .i64 0]) ∧ Parts base w' vK vV c ∧ Below w.heap.size w w' := by
  have hbel0 : Below w.heap.size w (w.alloc (.cells #[.int .i64 0, .int .i64 0, .int .i64 0, .slice none 0 0, .slice none 0 0] 30)) := (Below.refl _ _).alloc (Nat.le_refl _) _
  have HBS := h.size
  have h := h.below hbel0
  obtain ⟨h1, h2, _⟩ := h.bm.book i b hb
  obtain ⟨o1, o2, _⟩ := h.ok i b hb
  have hj : k / 8 < b.pgs.length := by omega
  obtain ⟨g, cap, hrow, _, hcap, _, hgl, hgc, hgf, -, -⟩ := h.row hb (List.getElem?_eq_getElem hj)
  obtain ⟨_, arr, hp, hsz, _, hcs⟩ := h.pm.page i b (k / 8) _ hb (List.getElem?_eq_getElem hj)
  obtain ⟨c, hc, vK, vV, c0, c1, c2, c3, c4, hparts⟩ := hcs (k % 8) (by omega)
  have HH : Hid (_) := has_any h2 (k : Int)
  rw [decide_eq_true (by omega)] at HH
  have HC : Hid (b.slots[k]? = some c) := by rw [← hc]; congr 1; omega
  have HP : Hid (_) := hparts
  have hfr := fun W (hW : Below (w.alloc (.cells #[.int .i64 0, .int .i64 0, .int .i64 0, .slice none 0 0, .slice none 0 0] 30)).heap.size (w.alloc (.cells #[.int .i64 0, .int .i64 0, .int .i64 0, .slice none 0 0, .slice none 0 0] 30)) W) => fresh_any (hparts.keep (keepB h.size hW) (by simp)) (Nat.le_trans h.size hW.size)
  have HF : Hid (_) := hfr
  obtain ⟨aK, kK, rfl, -⟩ := hparts.1
  obtain ⟨aV, kV, rfl, -⟩ := hparts.2.1
  have p0 := (cellsOf hp (k % 8 * 5)).trans c0
  have p1 := (cellsOf hp (k % 8 * 5 + 1)).trans c1
  have p2 := (cellsOf hp (k % 8 * 5 + 2)).trans c2
  have p3 := (cellsOf hp (k % 8 * 5 + 3)).trans c3
  have p4 := (cellsOf hp (k % 8 * 5 + 4)).trans c4
  have lp := heap_lt hp
  rw [hrow] at h2
  obtain ⟨b0, b1, b2, b3, f0, f1, f2, f3, lb⟩ := blk4 h2
  have HY : Hid (_) := heap_alloc_new w (.cells #[.int .i64 0, .int .i64 0, .int .i64 0, .slice none 0 0, .slice none 0 0] 30)
  unfold ptr at hgc
  have hq : (k : Int) / 8 = ((k / 8 : Nat) : Int) := by omega
  have hr : (k : Int) % 8 = ((k % 8 : Nat) : Int) := by omega
  have hr8 : k % 8 < 8 := by omega
  clear h2 hp hrow hcs hc c0 c1 c2 c3 c4 hparts hsz h hb hfr hbel0
  generalize b.pgs[k / 8] = p at *
  generalize b.at_ = B at *
  generalize hJ : k / 8 = J at *
  generalize hR : k % 8 = r at *
  clear hJ hR
  generalize b.pgs.length = n at *
  have hj' : (J : Int) < n := by omega
  have hr' : (r : Int) < 8 := by omega
  go_enter Try.func36, Try.ntmps36
  go_wp2_with (first | (go_at_call 47; refine Calls.mono HH.out ?_; rintro e w' ⟨rfl, rfl⟩))
  refine Calls.mono (HF.out _ (Below.refl _ _)) ?_
  rintro e w1 ⟨vK', vV', rfl, hp1, hb1⟩
  have HP1 : Hid (Parts base w1 vK' vV' c) := hp1
  obtain ⟨aK', kK', rfl, -⟩ := hp1.1
  obtain ⟨aV', kV', rfl, -⟩ := hp1.2.1
  have hy1 : w1.heap[w.heap.size]? = some (.cells #[.int .i64 0, .int .i64 0, .int .i64 0, .slice none 0 0, .slice none 0 0] 30) := (hb1.block _ (by simp)).trans HY.out
  have HB1 : Hid (Below w.heap.size w w1) := Below.chain ((Below.refl _ _).alloc (Nat.le_refl _) _) hb1 (by simp)
  have e0 := Lib.heap_setCell_same (i := 0) hy1 (.int .i64 c.kind)
  have e1 := Lib.heap_setCell_same (i := 1) e0 (.int .i64 c.a)
  have e2 := Lib.heap_setCell_same (i := 2) e1 (.int .i64 c.b)
  have e3 := Lib.heap_setCell_same (i := 3) e2 (.slice aK' c.keys.length kK')
  have Q3 : Hid (_) := (((((Keep.refl [30] base w1).set (p := ⟨w.heap.size, 0, none⟩) hy1 (by simp) HBS (.int .i64 c.kind)).set (p := ⟨w.heap.size, 1, none⟩) e0 (by simp) HBS (.int .i64 c.a)).set (p := ⟨w.heap.size, 2, none⟩) e1 (by simp) HBS (.int .i64 c.b)).set (p := ⟨w.heap.size, 3, none⟩) e2 (by simp) HBS (.slice aK' c.keys.length kK')).set (p := ⟨w.heap.size, 4, none⟩) e3 (by simp) HBS (.slice aV' c.vals.length kV')
  obtain ⟨y0, y1, y2, y3, y4, g0, g1, g2, g3, g4, ly⟩ := blk5 hy1
  clear hp1 hb1 hy1 e0 e1 e2 e3 HF HP p0 p1 p2 p3 p4 b0 b1 b2 b3 f0 f1 f2 f3 lb lp hgc hgf hgl
  generalize c.keys.length = nK, c.vals.length = nV at *
  go_wp2_with fail
  exact bodyPost_ret (v := .tuple #[.agg #[.int .i64 c.kind, .int .i64 c.a, .int .i64 c.b, .slice aK' nK kK', .slice aV' nV kV'], .int .i64 0]) (by simp [results, Try.results36, go_sem, *]) rfl ⟨_, _, c, HC.out, rfl, HP1.out.keep Q3.out (by simp [Mine]), (((((HB1.out.setCell (by simp) _).setCell (by simp) _).setCell (by simp) _).setCell (by simp) _).setCell (by simp) _)⟩
end Go.Proofs.Ytmipgpkeegggpaa.P
