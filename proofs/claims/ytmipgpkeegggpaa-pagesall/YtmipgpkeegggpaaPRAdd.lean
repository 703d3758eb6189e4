-- PROVED: the reference's Add.
import Derived.Test.YtmipgpkeegggpaaPRMark
namespace Go.Proofs.Ytmipgpkeegggpaa.P
open Go.RowKit
set_option linter.unusedVariables false
section
variable {base fB nx : Nat} {w : World} {rs : List Rb}
set_option maxRecDepth 100000 in
set_option maxHeartbeats 4000000 in
theorem radd_gone (h : Fam base w fB rs nx) {b : Nat} {r : Rb} (hr : rs[b]? = some r) (hg : r.gone = true) {vK vV : Value} {c : Cl} (hc : Parts base w vK vV c) :
    Calls Try.prog 27 #[.pointer (some ⟨fB, 0, none⟩), .int .i64 (b : Int), .agg #[.int .i64 c.kind, .int .i64 c.a, .int .i64 c.b, vK, vV]] w fun e w' => e = .returned (.int .i64 2) ∧ Below w.heap.size w w' := by
  obtain ⟨aK, kK, rfl, -⟩ := hc.1
  obtain ⟨aV, kV, rfl, -⟩ := hc.2.1
  have hbel0 : Below w.heap.size w (w.alloc (.cells #[.int .i64 c.kind, .int .i64 c.a, .int .i64 c.b, .slice aK c.keys.length kK, .slice aV c.vals.length kV] 30)) := (Below.refl _ _).alloc (Nat.le_refl _) _
  obtain ⟨g, cap, c0, c1, lf, fz1, fz0, hbl, hcap, -, hgl, g0, g1, g2, -, -, -⟩ := h.at_ hr
  rw [hg] at g2
  have hfew := h.few
  have hbl' : (b : Int) < (rs.length : Int) := by omega
  have HB0 : Hid (_) := hbel0
  clear h hc hbel0 g0 g1 c1
  go_enter Try.func27, Try.ntmps27
  go_wp2_with fail
  go_ret
  exact ⟨rfl, HB0.out⟩
/-- A copy behind an empty row of one's own, wherever it lies. -/
theorem Cells.copy3 {L : List Cl} {xs : List Value} {a0 : Option Addr} {c0 : Nat} {B eB : Nat} (hl : L.length ≤ 5000) (h1 : xs.length = L.length * 5) (h3 : ∀ u ∈ xs, u.oneCell' = true) {W : World} (h4 : L.length = 0 ∨ ∃ b off, a0 = some ⟨b, off, none⟩ ∧ ∀ j u, xs[j]? = some u → W.cell? ⟨b, off + j, none⟩ = some u) (he : W.heap[eB]? = some (.cells #[] 30 (0, 0))) (hB : B ≤ eB) (hBW : B ≤ W.heap.size) (ty : TypeId) :
    ∃ v' w', (Builtin.append_ #[22, 22] ty #[.slice (some ⟨eB, 0, none⟩) 0 0, .slice a0 L.length c0]).run Try.prog W = .ok v' w' ∧ ∃ a cap, v' = .slice a L.length cap ∧ w'.ownsRow B 30 5 (.slice a L.length cap) L.length xs ∧ Below B W w' ∧ (∀ k, k < W.heap.size → k ≠ eB → w'.heap[k]? = W.heap[k]?) := by
  obtain ⟨i0, hi, hz0, hz1, hz2⟩ := info_parts infoCL
  have hown : W.ownsRow B 30 5 (.slice (some ⟨eB, 0, none⟩) 0 0) 0 [] := ⟨by simp, .inr ⟨eB, 0, #[], rfl, hB, he, Nat.le_refl _, by unfold maxLen; omega, by simp, by simp⟩⟩
  by_cases h0 : L.length = 0
  · have hX : xs = [] := List.length_eq_zero_iff.1 (by omega)
    subst hX
    refine ⟨.slice (some ⟨eB, 0, none⟩) 0 0, W, ?_, some ⟨eB, 0, none⟩, 0, by rw [h0], by rw [h0]; exact hown, Below.refl _ _, fun _ _ _ => rfl⟩
    rw [h0]
    exact run_append_nothing W 22 22 ty 30 i0 Try.underlying22 hi (some ⟨eB, 0, none⟩) 0 0 (Nat.le_refl _) _ (src_nothing Try.underlying22 a0 c0 _ W)
  · obtain ⟨b, off, rfl, hc⟩ := h4.resolve_left h0
    obtain ⟨v', w', g1, g2, g3, _⟩ := run_append_own (P := Try.prog) W B 22 ty 30 i0 (.agg #[.int .i64 0, .int .i64 0, .int .i64 0, .slice none 0 0, .slice none 0 0]) 5 72 Try.underlying22 hi hz0 hz1 hz2 rfl (by decide) _ 0 [] hown ⟨b, off, none⟩ L.length c0 xs h1 (by
        intro j u hj
        rw [Go.WideShapes.add_plain]; exact hc j u hj) h3 (by unfold maxLen; omega) (by omega) hBW
    rw [Nat.zero_add, List.nil_append] at g2
    obtain ⟨a, cap, rfl⟩ : ∃ a cap, v' = .slice a L.length cap := by
      rcases g2.2 with ⟨h4, h5⟩ | ⟨g, cap, cur, h4, _⟩
      · exact ⟨none, 0, by rw [h4, h5]⟩
      · exact ⟨_, _, h4⟩
    exact ⟨_, w', g1, a, cap, rfl, g2, (Below.refl _ _).grown g3 hBW (by simp [Value.ownBlock]; exact hB), fun k hk hne => g3.block k hk (by simp [Value.ownBlock]; exact fun e => hne e)⟩
/-- One cell more behind a row of one's own. -/
theorem Cells.push3 {L : List Cl} {xs : List Value} {a : Option Addr} {cap B tB : Nat} {W : World} {v0 v1 v2 v3 v4 : Value} (hl : L.length ≤ 5000) (ho : W.ownsRow B 30 5 (.slice a L.length cap) L.length xs) (hBW : B ≤ W.heap.size) (ht : W.heap[tB]? = some (.cells #[v0, v1, v2, v3, v4] 30 (0, 0))) (h1 : v0.oneCell' = true ∧ v1.oneCell' = true ∧ v2.oneCell' = true ∧ v3.oneCell' = true ∧ v4.oneCell' = true) (ty : TypeId) :
    ∃ v' w', (Builtin.append_ #[22, 22] ty #[.slice a L.length cap, .slice (some ⟨tB, 0, none⟩) 1 1]).run Try.prog W = .ok v' w' ∧ ∃ a' cap', v' = .slice a' (L.length + 1) cap' ∧ w'.ownsRow B 30 5 (.slice a' (L.length + 1) cap') (L.length + 1) (xs ++ [v0, v1, v2, v3, v4]) ∧ Below B W w' := by
  obtain ⟨i0, hi, hz0, hz1, hz2⟩ := info_parts infoCL
  obtain ⟨v', w', g1, g2, g3, _⟩ := run_append_own (P := Try.prog) W B 22 ty 30 i0 (.agg #[.int .i64 0, .int .i64 0, .int .i64 0, .slice none 0 0, .slice none 0 0]) 5 72 Try.underlying22 hi hz0 hz1 hz2 rfl (by decide) _ L.length xs ho ⟨tB, 0, none⟩ 1 1 [v0, v1, v2, v3, v4] rfl (by
      intro j u hj
      rw [Go.WideShapes.add_plain, Nat.zero_add, cellsOf ht]
      simpa using hj) (by
      intro u hu
      simp at hu
      obtain ⟨a0, a1, a2, a3, a4⟩ := h1
      rcases hu with rfl | rfl | rfl | rfl | rfl <;> assumption) (by unfold maxLen; omega) (by omega) hBW
  obtain ⟨a', cap', rfl⟩ : ∃ a cap, v' = .slice a (L.length + 1) cap := by
    rcases g2.2 with ⟨_, e⟩ | ⟨g, cap, cur, e, _⟩
    · omega
    · exact ⟨_, _, e⟩
  exact ⟨_, w', g1, a', cap', rfl, g2, (Below.refl _ _).grown g3 hBW fun k hk => (ho.lt k hk).1⟩
def AddS (fB bx g : Nat) (vB v0 v1 v2 v3 v4 : Value) (W1 W : World) : Prop := W.cell? ⟨fB, 0, none⟩ = some vB ∧ W.cell? ⟨bx, 0, none⟩ = some v0 ∧ W.cell? ⟨bx, 1, none⟩ = some v1 ∧ W.cell? ⟨bx, 2, none⟩ = some v2 ∧ W.cell? ⟨bx, 3, none⟩ = some v3 ∧ W.cell? ⟨bx, 4, none⟩ = some v4 ∧ Hid (fB < W1.heap.size ∧ bx < W1.heap.size ∧ fB ≠ g ∧ bx ≠ g) ∧ Hid ((∀ k, k < W1.heap.size → k ≠ g → W.heap[k]? = W1.heap[k]?) ∧ W1.heap.size ≤ W.heap.size)
section
variable {fB bx g : Nat} {vB v0 v1 v2 v3 v4 : Value} {W1 W W' : World}
theorem AddS.move (h : AddS fB bx g vB v0 v1 v2 v3 v4 W1 W) (hs : W.heap.size ≤ W'.heap.size) (hk : ∀ k, k < W1.heap.size → k ≠ g → W'.heap[k]? = W.heap[k]?) : AddS fB bx g vB v0 v1 v2 v3 v4 W1 W' := by
  obtain ⟨h0, h1, h2, h3, h4, h5, h6, h7⟩ := h
  obtain ⟨a1, a2, a3, a4⟩ := h6.out
  have ef := hk fB a1 a3
  have eb := hk bx a2 a4
  exact ⟨(World.cell?_of_block (a := ⟨fB, 0, none⟩) ef).trans h0, (World.cell?_of_block (a := ⟨bx, 0, none⟩) eb).trans h1, (World.cell?_of_block (a := ⟨bx, 1, none⟩) eb).trans h2, (World.cell?_of_block (a := ⟨bx, 2, none⟩) eb).trans h3, (World.cell?_of_block (a := ⟨bx, 3, none⟩) eb).trans h4, (World.cell?_of_block (a := ⟨bx, 4, none⟩) eb).trans h5, h6, fun k h1 h2 => (hk k h1 h2).trans (h7.out.1 k h1 h2), Nat.le_trans h7.out.2 hs⟩
theorem AddS.below (h : AddS fB bx g vB v0 v1 v2 v3 v4 W1 W) (hb : Below W1.heap.size W W') : AddS fB bx g vB v0 v1 v2 v3 v4 W1 W' := h.move hb.size fun k h1 _ => hb.block k h1
theorem AddS.drew (h : AddS fB bx g vB v0 v1 v2 v3 v4 W1 W) : AddS fB bx g vB v0 v1 v2 v3 v4 W1 W.drew := h.below (Below.refl _ _).drew
theorem AddS.alloc (h : AddS fB bx g vB v0 v1 v2 v3 v4 W1 W) (o : Obj) : AddS fB bx g vB v0 v1 v2 v3 v4 W1 (W.alloc o) := h.below ((Below.refl _ _).alloc h.2.2.2.2.2.2.2.out.2 _)
theorem AddS.set (h : AddS fB bx g vB v0 v1 v2 v3 v4 W1 W) (i : Nat) (v : Value) : AddS fB bx g vB v0 v1 v2 v3 v4 W1 (W.setCell ⟨g, i, none⟩ v) := h.move (by rw [size_set]; exact Nat.le_refl _) fun k _ hne => heap_set_ne hne
end
/-- Behind the copy. -/
def CopyR (B : Nat) (W1 W : World) (eB n : Nat) (xs : List Value) (v' : Value) (w' : World) : Prop :=
  ∃ a cap, v' = .slice a n cap ∧ Hid (w'.ownsRow B 30 5 (.slice a n cap) n xs) ∧ Hid (Below B W1 w') ∧ Hid (∀ k, k < W.heap.size → k ≠ eB → w'.heap[k]? = W.heap[k]?) ∧ Hid (W.heap.size ≤ w'.heap.size) ∧ (∀ p : Addr, p.block < B → w'.cell? p = W1.cell? p) ∧ (∀ p : Addr, p.block < B → w'.frozen? p = W1.frozen? p)
def PushR (B : Nat) (W1 : World) (n : Nat) (xs : List Value) (v' : Value) (w' : World) : Prop :=
  ∃ a cap, v' = .slice a n cap ∧ Hid (w'.ownsRow B 30 5 (.slice a n cap) n xs) ∧ Hid (Below B W1 w') ∧ (∀ p : Addr, p.block < B → w'.cell? p = W1.cell? p) ∧ (∀ p : Addr, p.block < B → w'.frozen? p = W1.frozen? p) ∧ B ≤ w'.heap.size
theorem below_al {B : Nat} {a w : World} (h : Below B a w) (hB : B ≤ a.heap.size) (o : Obj) : Below B a (w.alloc o) := h.alloc (Nat.le_trans hB h.size) _
set_option maxRecDepth 100000 in
set_option maxHeartbeats 8000000 in
theorem radd_yes (h : Fam base w fB rs nx) (hnx : nx ≤ 100000) (hB : base ≤ w.heap.size) {b : Nat} {r : Rb} (hr : rs[b]? = some r) (hg : r.gone = false) (hk : r.cells.length < 4096) (hp : r.cells.length / 8 ≤ r.pgs.length) (hlt : r.pgs.length < 1000) {vK vV : Value} {c : Cl} (hc : Parts base w vK vV c) :
    Calls Try.prog 27 #[.pointer (some ⟨fB, 0, none⟩), .int .i64 (b : Int), .agg #[.int .i64 c.kind, .int .i64 c.a, .int .i64 c.b, vK, vV]] w fun e w' => e = .returned (.int .i64 0) ∧
      ∃ r1 nx1 v1, OwnD rs b r (r.cells.length / 8) nx r1 nx1 ∧ Fam base w' fB (rs.set b (withC r1 (r.cells ++ [c]) v1)) nx1 ∧ Keep [58, 55] base w w' := by
  obtain ⟨aK, kK, rfl, -⟩ := hc.1
  obtain ⟨aV, kV, rfl, -⟩ := hc.2.1
  have hbel0 : Below w.heap.size w (w.alloc (.cells #[.int .i64 c.kind, .int .i64 c.a, .int .i64 c.b, .slice aK c.keys.length kK, .slice aV c.vals.length kV] 30)) := (Below.refl _ _).alloc (Nat.le_refl _) _
  have hk0 := keepB hB hbel0
  have h0 := h.keep hk0 (by simp)
  have hx0 := heap_alloc_new w (.cells #[.int .i64 c.kind, .int .i64 c.a, .int .i64 c.b, .slice aK c.keys.length kK, .slice aV c.vals.length kV] 30)
  have HC0 : Hid (Parts base _ (.slice aK c.keys.length kK) (.slice aV c.vals.length kV) c) := hc.keep hk0 (by simp)
  have hB0 : base ≤ (w.alloc (.cells #[.int .i64 c.kind, .int .i64 c.a, .int .i64 c.b, .slice aK c.keys.length kK, .slice aV c.vals.length kV] 30)).heap.size := Nat.le_trans hB hk0.size
  obtain ⟨g, cap, c0, c1, lf, fz1, fz0, hbl, hcap, -, hgl, g0, g1, g2, -, -, -⟩ := h0.at_ hr
  obtain ⟨ca, cc, e1, -⟩ := (h0.book b r hr).1
  rw [e1] at g0
  rw [hg] at g2
  have hfew := h.few
  have hbl' : (b : Int) < (rs.length : Int) := by omega
  have hk8 : (r.cells.length : Int) / 8 = ((r.cells.length / 8 : Nat) : Int) := by omega
  have HO : Hid (_) := own_any h0 hnx hB0 hr hp hlt (P := (r.cells.length : Int) / 8) hk8.symm
  have HX0 : Hid (_) := hx0
  have HK0 : Hid (_) := hk0
  have HR : Hid (rs[b]? = some r) := hr
  have HE : Hid (r.vC = .slice ca r.cells.length cc) := e1
  have hkl : (r.cells.length : Int) < 4096 := by omega
  clear h h0 hc e1 hbel0 g1 c1 hx0 hk0 hk8 hr hp
  generalize hWW : w.alloc (.cells #[.int .i64 c.kind, .int .i64 c.a, .int .i64 c.b, .slice aK c.keys.length kK, .slice aV c.vals.length kV] 30) = W0 at *
  have hl0 : w.heap.size < W0.heap.size := heap_lt HX0.out
  go_enter Try.func27, Try.ntmps27
  go_upto_region 1 with fail
  clear hWW
  go_wp2_with fail
  refine Calls.mono HO.out ?_
  rintro e W1 ⟨rfl, r1, nx1, HOD, HF1, HK1⟩
  clear c0 lf fz1 fz0 hgl g0 g2
  have hX1 := (HK1.out.same _ _ _ _ HX0.out (by simp)).trans HX0.out
  have hB1 := Nat.le_trans hB0 HK1.out.size
  have hr1 := rset_same (r1 := r1) HR.out
  obtain ⟨g', cap', c0, c1, lf, fz1, fz0, -, hcap', hbg, hgl, g0, g1, g2, hfzg, ⟨cur, hcur⟩, -⟩ := HF1.out.at_ hr1
  have hI := (HF1.out.book b r1 hr1).1
  rw [HOD.out.vC, HE.out] at g0 hI
  rw [HOD.out.cells] at hI
  rw [List.length_set] at c0 hcap'
  obtain ⟨xs, hxl, hlst, hone, hraw⟩ := hI.raw
  obtain ⟨x0, x1, x2, x3, x4, -, -, -, -, -, lx⟩ := blk5 hX1
  obtain ⟨vfam, hfam, -⟩ := HF1.out.fam
  have hfg : fB ≠ g' := type_ne hfam hcur (by decide)
  have hbg' : w.heap.size ≠ g' := type_ne hX1 hcur (by decide)
  have HP52 : Hid (∀ W eB, Below W1.heap.size W1 W → W.heap[eB]? = some (.cells #[] 30 (0, 0)) → W1.heap.size ≤ eB → ∀ ty, ∃ v' w', (Builtin.append_ #[22, 22] ty #[.slice (some ⟨eB, 0, none⟩) 0 0, .slice ca r.cells.length cc]).run Try.prog W = .ok v' w' ∧ CopyR W1.heap.size W1 W eB r.cells.length xs v' w') := fun W eB hW he hle ty => by
    obtain ⟨v', w', q1, a, cap, q2, q3, q4, q5⟩ := Cells.copy3 (c0 := cc) (B := W1.heap.size) (by omega) hxl hone (hraw.imp id fun ⟨b, off, e1, e2⟩ => ⟨b, off, e1, fun j u hj => (hW.cell (p := ⟨b, off + j, none⟩) (cell_lt (e2 j u hj))).trans (e2 j u hj)⟩) he hle hW.size ty
    have q6 := hW.trans q4
    exact ⟨v', w', q1, a, cap, q2, q3, q6, q5, q4.size, fun p hp => q6.cell hp, fun p hp => q6.frozen hp⟩
  have HP55 : Hid (∀ W a cap tB, W.ownsRow W1.heap.size 30 5 (.slice a r.cells.length cap) r.cells.length xs → Below W1.heap.size W1 W → W.heap[tB]? = some (.cells #[.int .i64 c.kind, .int .i64 c.a, .int .i64 c.b, .slice aK c.keys.length kK, .slice aV c.vals.length kV] 30 (0, 0)) → ∀ ty, ∃ v' w', (Builtin.append_ #[22, 22] ty #[.slice a r.cells.length cap, .slice (some ⟨tB, 0, none⟩) 1 1]).run Try.prog W = .ok v' w' ∧ PushR W1.heap.size W1 (r.cells.length + 1) (xs ++ [.int .i64 c.kind, .int .i64 c.a, .int .i64 c.b, .slice aK c.keys.length kK, .slice aV c.vals.length kV]) v' w') := fun W a cap tB ho hW ht ty => by
    obtain ⟨v', w', q1, a', cap', q2, q3, q4⟩ := Cells.push3 (L := r.cells) (by omega) ho hW.size ht ⟨rfl, rfl, rfl, rfl, rfl⟩ ty
    have q6 := hW.trans q4
    exact ⟨v', w', q1, a', cap', q2, q3, q6, fun p hp => q6.cell hp, fun p hp => q6.frozen hp, q6.size⟩
  have hS : AddS fB w.heap.size g' (.slice (some ⟨g', 0, none⟩) rs.length cap') (.int .i64 c.kind) (.int .i64 c.a) (.int .i64 c.b) (.slice aK c.keys.length kK) (.slice aV c.vals.length kV) W1 W1 := ⟨c0, x0, x1, x2, x3, x4, ⟨lf, lx, hfg, hbg'⟩, ⟨fun _ _ _ => rfl, Nat.le_refl _⟩⟩
  have HEND : Hid (∀ (W3 : World) (ra : Option Addr) (rcap : Nat), W3.ownsRow W1.heap.size 30 5 (.slice ra (r.cells.length + 1) rcap) (r.cells.length + 1) (xs ++ [.int .i64 c.kind, .int .i64 c.a, .int .i64 c.b, .slice aK c.keys.length kK, .slice aV c.vals.length kV]) → Below W1.heap.size W1 W3 → Fam base (W3.setCell ⟨g', b * 3, none⟩ (.slice ra (r.cells.length + 1) rcap)) fB (rs.set b (withC r1 (r.cells ++ [c]) (.slice ra (r.cells.length + 1) rcap))) nx1 ∧ Keep [58, 55] base w (W3.setCell ⟨g', b * 3, none⟩ (.slice ra (r.cells.length + 1) rcap))) := fun W3 ra rcap ho hb => by
    have k3 := keepB hB1 hb
    have hf3 := HF1.out.keep k3 (by simp)
    have hpc := (HC0.out.keep HK1.out (by simp [Mine])).keep k3 (by simp)
    have hls := (hlst.keep k3 (by simp)).push hxl hpc
    have hcs : Cells base W3 (.slice ra (r.cells.length + 1) rcap) (r.cells ++ [c]) := Cells.own ho hls (by simp)
    have hb3 := hf3.book b r1 hr1
    have c03 : W3.cell? ⟨fB, 0, none⟩ = some (.slice (some ⟨g', 0, none⟩) (rs.set b r1).length cap') := by rw [List.length_set]; exact (hb.cell (p := ⟨fB, 0, none⟩) lf).trans c0
    have hput := hf3.put hr1 (r' := withC r1 (r.cells ++ [c]) (.slice ra (r.cells.length + 1) rcap)) c03 _ (rcells_C _ _ _ _ _ hr1) ⟨hcs, hb3.2.1, by unfold withC; simp; omega, hb3.2.2.2⟩
    rw [List.set_set] at hput
    exact ⟨hput.1, (((HK0.out.mono (by simp)).trans HK1.out).trans (k3.mono (by simp))).trans (hput.2.mono (by simp))⟩
  clear hlst hxl hone hraw hI hfam hcur hX1 c1 g1 g2 hfg hbg' HF1 HC0 HX0 HK0 HK1 hr1
  go_upto_region 6 with fail
  have hb0 : (0 : Int) ≤ (b : Int) := by omega
  refine wp_region_noPanic ?_
  refine wp_region_held_drew (S := (fun W => W.cell? ⟨fB, 0, none⟩ = some (.slice (some ⟨g', 0, none⟩) rs.length cap') ∧ W.cell? ⟨w.heap.size, 0, none⟩ = some (.int .i64 c.kind) ∧ W.cell? ⟨w.heap.size, 1, none⟩ = some (.int .i64 c.a) ∧ W.cell? ⟨w.heap.size, 2, none⟩ = some (.int .i64 c.b) ∧ W.cell? ⟨w.heap.size, 3, none⟩ = some (.slice aK c.keys.length kK) ∧ W.cell? ⟨w.heap.size, 4, none⟩ = some (.slice aV c.vals.length kV) ∧ Hid (fB < W1.heap.size ∧ w.heap.size < W1.heap.size ∧ fB ≠ g' ∧ w.heap.size ≠ g') ∧ Hid ((∀ k, k < W1.heap.size → k ≠ g' → W.heap[k]? = W1.heap[k]?) ∧ W1.heap.size ≤ W.heap.size))) (by kernel_rfl) ?_ (fun hHeld0 => ?_)
  · (try dsimp only)
    ((show AddS fB w.heap.size g' (.slice (some ⟨g', 0, none⟩) rs.length cap') (.int .i64 c.kind) (.int .i64 c.a) (.int .i64 c.b) (.slice aK c.keys.length kK) (.slice aV c.vals.length kV) W1 _; repeat (first | with_reducible assumption | with_reducible refine AddS.drew ?_ | with_reducible refine AddS.alloc ?_ _ | with_reducible refine AddS.set ?_ _ _ | with_reducible exact hS8 | with_reducible exact hS7)))
  refine wpAnyH_take (i := 0) (oi := _) (v := .pointer (some ⟨fB, 0, none⟩)) rfl (by kernel_rfl) (by kernel_rfl) (by kernel_rfl) (fun _ _ _ h => h) (Or.inl ⟨by rfl, fun w hSw => ?_⟩) (by assumption) ?_
  · (try dsimp only at hSw); go_simp
  try simp only [Act.put, List.setIfInBounds_toArray]
  refine wpAnyH_take (i := 1) (oi := _) (v := .pointer (some ⟨fB, 0, none⟩)) rfl (by kernel_rfl) (by kernel_rfl) (by kernel_rfl) (fun _ _ _ h => h) (Or.inl ⟨by rfl, fun w hSw => ?_⟩) (by assumption) ?_
  · (try dsimp only at hSw); go_simp
  try simp only [Act.put]
  refine wpAnyH_take (i := 2) (oi := _) (v := .pointer (some ⟨fB, 0, none⟩)) rfl (by kernel_rfl) (by kernel_rfl) (by kernel_rfl) (fun _ _ _ h => h) (Or.inl ⟨by rfl, fun w hSw => ?_⟩) (by assumption) ?_
  · (try dsimp only at hSw); go_simp
  try simp only [Act.put]
  refine wpAnyH_take (i := 3) (oi := _) (v := .slice (some ⟨g', 0, none⟩) rs.length cap') rfl (by kernel_rfl) (by kernel_rfl) (by kernel_rfl) (fun _ _ _ h => h) (Or.inl ⟨by rfl, fun w hSw => ?_⟩) (by assumption) ?_
  · (try dsimp only at hSw); go_simp
  try simp only [Act.put]
  refine wpAnyH_take (i := 4) (oi := _) (v := .int .i64 (b : Int)) rfl (by kernel_rfl) (by kernel_rfl) (by kernel_rfl) (fun _ _ _ h => h) (Or.inl ⟨by rfl, fun w hSw => ?_⟩) (by assumption) ?_
  · (try dsimp only at hSw); go_simp
  try simp only [Act.put]
  refine wpAnyH_take (i := 6) (oi := _) (v := .pointer (some ⟨fB, 0, none⟩)) rfl (by kernel_rfl) (by kernel_rfl) (by kernel_rfl) (fun _ _ _ h => h) (Or.inl ⟨by rfl, fun w hSw => ?_⟩) (by assumption) ?_
  · (try dsimp only at hSw); go_simp
  try simp only [Act.put]
  refine wpAnyH_take (i := 7) (oi := _) (v := .pointer (some ⟨fB, 0, none⟩)) rfl (by kernel_rfl) (by kernel_rfl) (by kernel_rfl) (fun _ _ _ h => h) (Or.inl ⟨by rfl, fun w hSw => ?_⟩) (by assumption) ?_
  · (try dsimp only at hSw); go_simp
  try simp only [Act.put]
  refine wpAnyH_take (i := 8) (oi := _) (v := .pointer (some ⟨fB, 0, none⟩)) rfl (by kernel_rfl) (by kernel_rfl) (by kernel_rfl) (fun _ _ _ h => h) (Or.inl ⟨by rfl, fun w hSw => ?_⟩) (by assumption) ?_
  · (try dsimp only at hSw); go_simp
  try simp only [Act.put]
  refine wpAnyH_take (i := 9) (oi := _) (v := .slice (some ⟨g', 0, none⟩) rs.length cap') rfl (by kernel_rfl) (by kernel_rfl) (by kernel_rfl) (fun _ _ _ h => h) (Or.inl ⟨by rfl, fun w hSw => ?_⟩) (by assumption) ?_
  · (try dsimp only at hSw); go_simp
  try simp only [Act.put]
  refine wpAnyH_take (i := 10) (oi := _) (v := .int .i64 (b : Int)) rfl (by kernel_rfl) (by kernel_rfl) (by kernel_rfl) (fun _ _ _ h => h) (Or.inl ⟨by rfl, fun w hSw => ?_⟩) (by assumption) ?_
  · (try dsimp only at hSw); go_simp
  try simp only [Act.put]
  refine wpAnyH_take (i := 11) (oi := _) (v := .pointer (some ⟨g', b * 3, none⟩)) rfl (by kernel_rfl) (by kernel_rfl) (by kernel_rfl) (fun _ _ _ h => h) (Or.inl ⟨by rfl, fun w hSw => ?_⟩) (by assumption) ?_
  · (try dsimp only at hSw); go_simp
  try simp only [Act.put]
  refine wpAnyH_take (i := 12) (oi := _) (v := .pointer (some ⟨g', b * 3, none⟩)) rfl (by kernel_rfl) (by kernel_rfl) (by kernel_rfl) (fun _ _ _ h => h) (Or.inl ⟨by rfl, fun w hSw => ?_⟩) (by assumption) ?_
  · (try dsimp only at hSw); go_simp
  try simp only [Act.put]
  refine wpAnyH_take (i := 15) (oi := _) (v := .agg #[.int .i64 c.kind, .int .i64 c.a, .int .i64 c.b, .slice aK c.keys.length kK, .slice aV c.vals.length kV]) rfl (by kernel_rfl) (by kernel_rfl) (by kernel_rfl) (fun _ _ _ h => h) (Or.inl ⟨by rfl, fun w hSw => ?_⟩) (by assumption) ?_
  · (try dsimp only at hSw); go_simp
  try simp only [Act.put]
  refine wpAnyH_ready (rs := [5, 13, 16]) (by kernel_rfl) (by simp) ?_
  refine AllReadyH.cons (o := _) rfl (fun K hK => ?_) ?_
  · skip
    go_simp
    refine hK.out _ _ ?_ (fun hHeld1 => ?_)
    · (try dsimp only)
      ((show AddS fB w.heap.size g' (.slice (some ⟨g', 0, none⟩) rs.length cap') (.int .i64 c.kind) (.int .i64 c.a) (.int .i64 c.b) (.slice aK c.keys.length kK) (.slice aV c.vals.length kV) W1 _; repeat (first | with_reducible assumption | with_reducible refine AddS.drew ?_ | with_reducible refine AddS.alloc ?_ _ | with_reducible refine AddS.set ?_ _ _ | with_reducible exact hS8 | with_reducible exact hS7)))
    clear hK K hHeld0
    try simp only [Act.put, List.setIfInBounds_toArray, List.set_cons_zero, List.set_cons_succ]
    refine wpAnyH_ready (rs := [13, 16]) (by kernel_rfl) (by simp) ?_
    refine AllReadyH.cons (o := _) rfl (fun K hK => ?_) ?_
    · skip
      go_simp
      refine hK.out _ _ ?_ (fun hHeld2 => ?_)
      · (try dsimp only)
        ((show AddS fB w.heap.size g' (.slice (some ⟨g', 0, none⟩) rs.length cap') (.int .i64 c.kind) (.int .i64 c.a) (.int .i64 c.b) (.slice aK c.keys.length kK) (.slice aV c.vals.length kV) W1 _; repeat (first | with_reducible assumption | with_reducible refine AddS.drew ?_ | with_reducible refine AddS.alloc ?_ _ | with_reducible refine AddS.set ?_ _ _ | with_reducible exact hS8 | with_reducible exact hS7)))
      clear hK K hHeld1
      try simp only [Act.put, List.setIfInBounds_toArray, List.set_cons_zero, List.set_cons_succ]
      refine wpAnyH_ready (rs := [14, 16]) (by kernel_rfl) (by simp) ?_
      refine AllReadyH.cons (o := _) rfl (fun K hK => ?_) ?_
      · skip
        (refine step_append_ex (by rfl) _ _ 22 (by rfl) _ _ (by rfl) (by rfl) (CopyR W1.heap.size W1 _ _ r.cells.length xs) (HP52.out _ _ (by repeat (first | with_reducible exact HB8.out | with_reducible exact HB7.out | with_reducible exact Below.refl _ _ | with_reducible refine Below.drew ?_ | with_reducible refine below_al ?_ (Nat.le_refl _) _)) (by first | exact heap_alloc_new _ _ | exact alloc_drew_new _ _ | exact two_first _ _ _ | exact two_second _ _ _) (by first | exact Nat.le_refl _ | simp) _) ?_; rintro v7 w7 ⟨a7, cap7, rfl, HO7, HB7, HS7, HZ7, hc7, hf7⟩; have hS7 : AddS fB w.heap.size g' (.slice (some ⟨g', 0, none⟩) rs.length cap') (.int .i64 c.kind) (.int .i64 c.a) (.int .i64 c.b) (.slice aK c.keys.length kK) (.slice aV c.vals.length kV) W1 w7 := hS.below HB7.out)
        refine hK.out _ _ ?_ (fun hHeld3 => ?_)
        · (try dsimp only)
          ((show AddS fB w.heap.size g' (.slice (some ⟨g', 0, none⟩) rs.length cap') (.int .i64 c.kind) (.int .i64 c.a) (.int .i64 c.b) (.slice aK c.keys.length kK) (.slice aV c.vals.length kV) W1 _; repeat (first | with_reducible assumption | with_reducible refine AddS.drew ?_ | with_reducible refine AddS.alloc ?_ _ | with_reducible refine AddS.set ?_ _ _ | with_reducible exact hS8 | with_reducible exact hS7)))
        clear hK K hHeld2
        try simp only [Act.put, List.setIfInBounds_toArray]
        refine wpAnyH_ready (rs := [16]) (by kernel_rfl) (by simp) ?_
        refine AllReadyH.cons (o := _) rfl (fun K hK => ?_) ?_
        · skip
          go_simp
          refine hK.out _ _ ?_ (fun hHeld4 => ?_)
          · (try dsimp only)
            ((show AddS fB w.heap.size g' (.slice (some ⟨g', 0, none⟩) rs.length cap') (.int .i64 c.kind) (.int .i64 c.a) (.int .i64 c.b) (.slice aK c.keys.length kK) (.slice aV c.vals.length kV) W1 _; repeat (first | with_reducible assumption | with_reducible refine AddS.drew ?_ | with_reducible refine AddS.alloc ?_ _ | with_reducible refine AddS.set ?_ _ _ | with_reducible exact hS8 | with_reducible exact hS7)))
          clear hK K hHeld3
          try simp only [Act.put, List.setIfInBounds_toArray, List.set_cons_zero, List.set_cons_succ]
          refine wpAnyH_ready (rs := [17]) (by kernel_rfl) (by simp) ?_
          refine AllReadyH.cons (o := _) rfl (fun K hK => ?_) ?_
          · skip
            (refine step_append_ex (by rfl) _ _ 22 (by rfl) _ _ (by rfl) (by rfl) (PushR W1.heap.size W1 (r.cells.length + 1) (xs ++ [.int .i64 c.kind, .int .i64 c.a, .int .i64 c.b, .slice aK c.keys.length kK, .slice aV c.vals.length kV])) (HP55.out _ _ _ _ (by first | exact HO7.out | exact own_same HO7.out (fun g cur _ hg => Below.heap_alloc _ _ _ (heap_lt hg))) (by repeat (first | with_reducible exact HB8.out | with_reducible exact HB7.out | with_reducible exact Below.refl _ _ | with_reducible refine Below.drew ?_ | with_reducible refine below_al ?_ (Nat.le_refl _) _)) (by first | exact heap_alloc_new _ _ | exact alloc_drew_new _ _ | (refine (HS7.out _ (by simp <;> omega) (by simp <;> omega)).trans ?_; first | exact heap_alloc_new _ _ | exact alloc_drew_new _ _ | exact two_first _ _ _ | exact two_second _ _ _)) _) ?_; rintro v8 w8 ⟨a8, cap8, rfl, HO8, HB8, hc8, hf8, hz8⟩; have hS8 : AddS fB w.heap.size g' (.slice (some ⟨g', 0, none⟩) rs.length cap') (.int .i64 c.kind) (.int .i64 c.a) (.int .i64 c.b) (.slice aK c.keys.length kK) (.slice aV c.vals.length kV) W1 w8 := hS.below HB8.out)
            refine hK.out _ _ ?_ (fun hHeld5 => ?_)
            · (try dsimp only)
              ((show AddS fB w.heap.size g' (.slice (some ⟨g', 0, none⟩) rs.length cap') (.int .i64 c.kind) (.int .i64 c.a) (.int .i64 c.b) (.slice aK c.keys.length kK) (.slice aV c.vals.length kV) W1 _; repeat (first | with_reducible assumption | with_reducible refine AddS.drew ?_ | with_reducible refine AddS.alloc ?_ _ | with_reducible refine AddS.set ?_ _ _ | with_reducible exact hS8 | with_reducible exact hS7)))
            clear hK K hHeld4
            try simp only [Act.put, List.setIfInBounds_toArray]
            refine wpAnyH_take (i := 18) (oi := _) (v := .pointer (some ⟨g', b * 3, none⟩)) rfl (by kernel_rfl) (by kernel_rfl) (by kernel_rfl) (fun _ _ _ h => h) (Or.inl ⟨by rfl, fun w hSw => ?_⟩) (by assumption) ?_
            · (try dsimp only at hSw); go_simp
            try simp only [Act.put]
            refine wpAnyH_take (i := 19) (oi := _) (v := .pointer (some ⟨g', b * 3, none⟩)) rfl (by kernel_rfl) (by kernel_rfl) (by kernel_rfl) (fun _ _ _ h => h) (Or.inl ⟨by rfl, fun w hSw => ?_⟩) (by assumption) ?_
            · (try dsimp only at hSw); go_simp
            try simp only [Act.put]
            refine wpAnyH_ready (rs := [20]) (by kernel_rfl) (by simp) ?_
            refine AllReadyH.cons (o := _) rfl (fun K hK => ?_) ?_
            · skip
              go_simp
              refine hK.out _ _ ?_ (fun hHeld6 => ?_)
              · (try dsimp only)
                ((show AddS fB w.heap.size g' (.slice (some ⟨g', 0, none⟩) rs.length cap') (.int .i64 c.kind) (.int .i64 c.a) (.int .i64 c.b) (.slice aK c.keys.length kK) (.slice aV c.vals.length kV) W1 _; repeat (first | with_reducible assumption | with_reducible refine AddS.drew ?_ | with_reducible refine AddS.alloc ?_ _ | with_reducible refine AddS.set ?_ _ _ | with_reducible exact hS8 | with_reducible exact hS7)))
              clear hK K hHeld5
              try simp only [Act.put, List.setIfInBounds_toArray, List.set_cons_zero, List.set_cons_succ]
              refine wpAnyH_done (by kernel_rfl) ?_ _
              refine NoPanic.normal ?_
              go_wp2_with fail
              go_ret
              exact ⟨rfl, r1, nx1, _, HOD.out, HEND.out _ _ _ HO8.out HB8.out⟩
            exact AllReadyH.nil
          exact AllReadyH.nil
        exact AllReadyH.nil
      refine AllReadyH.cons (o := _) rfl (fun K hK => ?_) ?_
      · skip
        go_simp
        refine hK.out _ _ ?_ (fun hHeld3 => ?_)
        · (try dsimp only)
          ((show AddS fB w.heap.size g' (.slice (some ⟨g', 0, none⟩) rs.length cap') (.int .i64 c.kind) (.int .i64 c.a) (.int .i64 c.b) (.slice aK c.keys.length kK) (.slice aV c.vals.length kV) W1 _; repeat (first | with_reducible assumption | with_reducible refine AddS.drew ?_ | with_reducible refine AddS.alloc ?_ _ | with_reducible refine AddS.set ?_ _ _ | with_reducible exact hS8 | with_reducible exact hS7)))
        clear hK K hHeld2
        try simp only [Act.put, List.setIfInBounds_toArray, List.set_cons_zero, List.set_cons_succ]
        refine wpAnyH_ready (rs := [14]) (by kernel_rfl) (by simp) ?_
        refine AllReadyH.cons (o := _) rfl (fun K hK => ?_) ?_
        · skip
          (refine step_append_ex (by rfl) _ _ 22 (by rfl) _ _ (by rfl) (by rfl) (CopyR W1.heap.size W1 _ _ r.cells.length xs) (HP52.out _ _ (by repeat (first | with_reducible exact HB8.out | with_reducible exact HB7.out | with_reducible exact Below.refl _ _ | with_reducible refine Below.drew ?_ | with_reducible refine below_al ?_ (Nat.le_refl _) _)) (by first | exact heap_alloc_new _ _ | exact alloc_drew_new _ _ | exact two_first _ _ _ | exact two_second _ _ _) (by first | exact Nat.le_refl _ | simp) _) ?_; rintro v7 w7 ⟨a7, cap7, rfl, HO7, HB7, HS7, HZ7, hc7, hf7⟩; have hS7 : AddS fB w.heap.size g' (.slice (some ⟨g', 0, none⟩) rs.length cap') (.int .i64 c.kind) (.int .i64 c.a) (.int .i64 c.b) (.slice aK c.keys.length kK) (.slice aV c.vals.length kV) W1 w7 := hS.below HB7.out)
          refine hK.out _ _ ?_ (fun hHeld4 => ?_)
          · (try dsimp only)
            ((show AddS fB w.heap.size g' (.slice (some ⟨g', 0, none⟩) rs.length cap') (.int .i64 c.kind) (.int .i64 c.a) (.int .i64 c.b) (.slice aK c.keys.length kK) (.slice aV c.vals.length kV) W1 _; repeat (first | with_reducible assumption | with_reducible refine AddS.drew ?_ | with_reducible refine AddS.alloc ?_ _ | with_reducible refine AddS.set ?_ _ _ | with_reducible exact hS8 | with_reducible exact hS7)))
          clear hK K hHeld3
          try simp only [Act.put, List.setIfInBounds_toArray]
          refine wpAnyH_ready (rs := [17]) (by kernel_rfl) (by simp) ?_
          refine AllReadyH.cons (o := _) rfl (fun K hK => ?_) ?_
          · skip
            (refine step_append_ex (by rfl) _ _ 22 (by rfl) _ _ (by rfl) (by rfl) (PushR W1.heap.size W1 (r.cells.length + 1) (xs ++ [.int .i64 c.kind, .int .i64 c.a, .int .i64 c.b, .slice aK c.keys.length kK, .slice aV c.vals.length kV])) (HP55.out _ _ _ _ (by first | exact HO7.out | exact own_same HO7.out (fun g cur _ hg => Below.heap_alloc _ _ _ (heap_lt hg))) (by repeat (first | with_reducible exact HB8.out | with_reducible exact HB7.out | with_reducible exact Below.refl _ _ | with_reducible refine Below.drew ?_ | with_reducible refine below_al ?_ (Nat.le_refl _) _)) (by first | exact heap_alloc_new _ _ | exact alloc_drew_new _ _ | (refine (HS7.out _ (by simp <;> omega) (by simp <;> omega)).trans ?_; first | exact heap_alloc_new _ _ | exact alloc_drew_new _ _ | exact two_first _ _ _ | exact two_second _ _ _)) _) ?_; rintro v8 w8 ⟨a8, cap8, rfl, HO8, HB8, hc8, hf8, hz8⟩; have hS8 : AddS fB w.heap.size g' (.slice (some ⟨g', 0, none⟩) rs.length cap') (.int .i64 c.kind) (.int .i64 c.a) (.int .i64 c.b) (.slice aK c.keys.length kK) (.slice aV c.vals.length kV) W1 w8 := hS.below HB8.out)
            refine hK.out _ _ ?_ (fun hHeld5 => ?_)
            · (try dsimp only)
              ((show AddS fB w.heap.size g' (.slice (some ⟨g', 0, none⟩) rs.length cap') (.int .i64 c.kind) (.int .i64 c.a) (.int .i64 c.b) (.slice aK c.keys.length kK) (.slice aV c.vals.length kV) W1 _; repeat (first | with_reducible assumption | with_reducible refine AddS.drew ?_ | with_reducible refine AddS.alloc ?_ _ | with_reducible refine AddS.set ?_ _ _ | with_reducible exact hS8 | with_reducible exact hS7)))
            clear hK K hHeld4
            try simp only [Act.put]
            refine wpAnyH_take (i := 18) (oi := _) (v := .pointer (some ⟨g', b * 3, none⟩)) rfl (by kernel_rfl) (by kernel_rfl) (by kernel_rfl) (fun _ _ _ h => h) (Or.inl ⟨by rfl, fun w hSw => ?_⟩) (by assumption) ?_
            · (try dsimp only at hSw); go_simp
            try simp only [Act.put]
            refine wpAnyH_take (i := 19) (oi := _) (v := .pointer (some ⟨g', b * 3, none⟩)) rfl (by kernel_rfl) (by kernel_rfl) (by kernel_rfl) (fun _ _ _ h => h) (Or.inl ⟨by rfl, fun w hSw => ?_⟩) (by assumption) ?_
            · (try dsimp only at hSw); go_simp
            try simp only [Act.put]
            refine wpAnyH_ready (rs := [20]) (by kernel_rfl) (by simp) ?_
            refine AllReadyH.cons (o := _) rfl (fun K hK => ?_) ?_
            · skip
              go_simp
              refine hK.out _ _ ?_ (fun hHeld6 => ?_)
              · (try dsimp only)
                ((show AddS fB w.heap.size g' (.slice (some ⟨g', 0, none⟩) rs.length cap') (.int .i64 c.kind) (.int .i64 c.a) (.int .i64 c.b) (.slice aK c.keys.length kK) (.slice aV c.vals.length kV) W1 _; repeat (first | with_reducible assumption | with_reducible refine AddS.drew ?_ | with_reducible refine AddS.alloc ?_ _ | with_reducible refine AddS.set ?_ _ _ | with_reducible exact hS8 | with_reducible exact hS7)))
              clear hK K hHeld5
              try simp only [Act.put, List.setIfInBounds_toArray, List.set_cons_zero, List.set_cons_succ]
              refine wpAnyH_done (by kernel_rfl) ?_ _
              refine NoPanic.normal ?_
              go_wp2_with fail
              go_ret
              exact ⟨rfl, r1, nx1, _, HOD.out, HEND.out _ _ _ HO8.out HB8.out⟩
            exact AllReadyH.nil
          exact AllReadyH.nil
        exact AllReadyH.nil
      exact AllReadyH.nil
    refine AllReadyH.cons (o := _) rfl (fun K hK => ?_) ?_
    · skip
      go_simp
      refine hK.out _ _ ?_ (fun hHeld2 => ?_)
      · (try dsimp only)
        ((show AddS fB w.heap.size g' (.slice (some ⟨g', 0, none⟩) rs.length cap') (.int .i64 c.kind) (.int .i64 c.a) (.int .i64 c.b) (.slice aK c.keys.length kK) (.slice aV c.vals.length kV) W1 _; repeat (first | with_reducible assumption | with_reducible refine AddS.drew ?_ | with_reducible refine AddS.alloc ?_ _ | with_reducible refine AddS.set ?_ _ _ | with_reducible exact hS8 | with_reducible exact hS7)))
      clear hK K hHeld1
      try simp only [Act.put, List.setIfInBounds_toArray, List.set_cons_zero, List.set_cons_succ]
      refine wpAnyH_ready (rs := [13]) (by kernel_rfl) (by simp) ?_
      refine AllReadyH.cons (o := _) rfl (fun K hK => ?_) ?_
      · skip
        go_simp
        refine hK.out _ _ ?_ (fun hHeld3 => ?_)
        · (try dsimp only)
          ((show AddS fB w.heap.size g' (.slice (some ⟨g', 0, none⟩) rs.length cap') (.int .i64 c.kind) (.int .i64 c.a) (.int .i64 c.b) (.slice aK c.keys.length kK) (.slice aV c.vals.length kV) W1 _; repeat (first | with_reducible assumption | with_reducible refine AddS.drew ?_ | with_reducible refine AddS.alloc ?_ _ | with_reducible refine AddS.set ?_ _ _ | with_reducible exact hS8 | with_reducible exact hS7)))
        clear hK K hHeld2
        try simp only [Act.put, List.setIfInBounds_toArray, List.set_cons_zero, List.set_cons_succ]
        refine wpAnyH_ready (rs := [14]) (by kernel_rfl) (by simp) ?_
        refine AllReadyH.cons (o := _) rfl (fun K hK => ?_) ?_
        · skip
          (refine step_append_ex (by rfl) _ _ 22 (by rfl) _ _ (by rfl) (by rfl) (CopyR W1.heap.size W1 _ _ r.cells.length xs) (HP52.out _ _ (by repeat (first | with_reducible exact HB8.out | with_reducible exact HB7.out | with_reducible exact Below.refl _ _ | with_reducible refine Below.drew ?_ | with_reducible refine below_al ?_ (Nat.le_refl _) _)) (by first | exact heap_alloc_new _ _ | exact alloc_drew_new _ _ | exact two_first _ _ _ | exact two_second _ _ _) (by first | exact Nat.le_refl _ | simp) _) ?_; rintro v7 w7 ⟨a7, cap7, rfl, HO7, HB7, HS7, HZ7, hc7, hf7⟩; have hS7 : AddS fB w.heap.size g' (.slice (some ⟨g', 0, none⟩) rs.length cap') (.int .i64 c.kind) (.int .i64 c.a) (.int .i64 c.b) (.slice aK c.keys.length kK) (.slice aV c.vals.length kV) W1 w7 := hS.below HB7.out)
          refine hK.out _ _ ?_ (fun hHeld4 => ?_)
          · (try dsimp only)
            ((show AddS fB w.heap.size g' (.slice (some ⟨g', 0, none⟩) rs.length cap') (.int .i64 c.kind) (.int .i64 c.a) (.int .i64 c.b) (.slice aK c.keys.length kK) (.slice aV c.vals.length kV) W1 _; repeat (first | with_reducible assumption | with_reducible refine AddS.drew ?_ | with_reducible refine AddS.alloc ?_ _ | with_reducible refine AddS.set ?_ _ _ | with_reducible exact hS8 | with_reducible exact hS7)))
          clear hK K hHeld3
          try simp only [Act.put, List.setIfInBounds_toArray]
          refine wpAnyH_ready (rs := [17]) (by kernel_rfl) (by simp) ?_
          refine AllReadyH.cons (o := _) rfl (fun K hK => ?_) ?_
          · skip
            (refine step_append_ex (by rfl) _ _ 22 (by rfl) _ _ (by rfl) (by rfl) (PushR W1.heap.size W1 (r.cells.length + 1) (xs ++ [.int .i64 c.kind, .int .i64 c.a, .int .i64 c.b, .slice aK c.keys.length kK, .slice aV c.vals.length kV])) (HP55.out _ _ _ _ (by first | exact HO7.out | exact own_same HO7.out (fun g cur _ hg => Below.heap_alloc _ _ _ (heap_lt hg))) (by repeat (first | with_reducible exact HB8.out | with_reducible exact HB7.out | with_reducible exact Below.refl _ _ | with_reducible refine Below.drew ?_ | with_reducible refine below_al ?_ (Nat.le_refl _) _)) (by first | exact heap_alloc_new _ _ | exact alloc_drew_new _ _ | (refine (HS7.out _ (by simp <;> omega) (by simp <;> omega)).trans ?_; first | exact heap_alloc_new _ _ | exact alloc_drew_new _ _ | exact two_first _ _ _ | exact two_second _ _ _)) _) ?_; rintro v8 w8 ⟨a8, cap8, rfl, HO8, HB8, hc8, hf8, hz8⟩; have hS8 : AddS fB w.heap.size g' (.slice (some ⟨g', 0, none⟩) rs.length cap') (.int .i64 c.kind) (.int .i64 c.a) (.int .i64 c.b) (.slice aK c.keys.length kK) (.slice aV c.vals.length kV) W1 w8 := hS.below HB8.out)
            refine hK.out _ _ ?_ (fun hHeld5 => ?_)
            · (try dsimp only)
              ((show AddS fB w.heap.size g' (.slice (some ⟨g', 0, none⟩) rs.length cap') (.int .i64 c.kind) (.int .i64 c.a) (.int .i64 c.b) (.slice aK c.keys.length kK) (.slice aV c.vals.length kV) W1 _; repeat (first | with_reducible assumption | with_reducible refine AddS.drew ?_ | with_reducible refine AddS.alloc ?_ _ | with_reducible refine AddS.set ?_ _ _ | with_reducible exact hS8 | with_reducible exact hS7)))
            clear hK K hHeld4
            try simp only [Act.put]
            refine wpAnyH_take (i := 18) (oi := _) (v := .pointer (some ⟨g', b * 3, none⟩)) rfl (by kernel_rfl) (by kernel_rfl) (by kernel_rfl) (fun _ _ _ h => h) (Or.inl ⟨by rfl, fun w hSw => ?_⟩) (by assumption) ?_
            · (try dsimp only at hSw); go_simp
            try simp only [Act.put]
            refine wpAnyH_take (i := 19) (oi := _) (v := .pointer (some ⟨g', b * 3, none⟩)) rfl (by kernel_rfl) (by kernel_rfl) (by kernel_rfl) (fun _ _ _ h => h) (Or.inl ⟨by rfl, fun w hSw => ?_⟩) (by assumption) ?_
            · (try dsimp only at hSw); go_simp
            try simp only [Act.put]
            refine wpAnyH_ready (rs := [20]) (by kernel_rfl) (by simp) ?_
            refine AllReadyH.cons (o := _) rfl (fun K hK => ?_) ?_
            · skip
              go_simp
              refine hK.out _ _ ?_ (fun hHeld6 => ?_)
              · (try dsimp only)
                ((show AddS fB w.heap.size g' (.slice (some ⟨g', 0, none⟩) rs.length cap') (.int .i64 c.kind) (.int .i64 c.a) (.int .i64 c.b) (.slice aK c.keys.length kK) (.slice aV c.vals.length kV) W1 _; repeat (first | with_reducible assumption | with_reducible refine AddS.drew ?_ | with_reducible refine AddS.alloc ?_ _ | with_reducible refine AddS.set ?_ _ _ | with_reducible exact hS8 | with_reducible exact hS7)))
              clear hK K hHeld5
              try simp only [Act.put, List.setIfInBounds_toArray, List.set_cons_zero, List.set_cons_succ]
              refine wpAnyH_done (by kernel_rfl) ?_ _
              refine NoPanic.normal ?_
              go_wp2_with fail
              go_ret
              exact ⟨rfl, r1, nx1, _, HOD.out, HEND.out _ _ _ HO8.out HB8.out⟩
            exact AllReadyH.nil
          exact AllReadyH.nil
        exact AllReadyH.nil
      exact AllReadyH.nil
    exact AllReadyH.nil
  refine AllReadyH.cons (o := _) rfl (fun K hK => ?_) ?_
  · skip
    go_simp
    refine hK.out _ _ ?_ (fun hHeld1 => ?_)
    · (try dsimp only)
      ((show AddS fB w.heap.size g' (.slice (some ⟨g', 0, none⟩) rs.length cap') (.int .i64 c.kind) (.int .i64 c.a) (.int .i64 c.b) (.slice aK c.keys.length kK) (.slice aV c.vals.length kV) W1 _; repeat (first | with_reducible assumption | with_reducible refine AddS.drew ?_ | with_reducible refine AddS.alloc ?_ _ | with_reducible refine AddS.set ?_ _ _ | with_reducible exact hS8 | with_reducible exact hS7)))
    clear hK K hHeld0
    try simp only [Act.put, List.setIfInBounds_toArray, List.set_cons_zero, List.set_cons_succ]
    refine wpAnyH_ready (rs := [5, 16]) (by kernel_rfl) (by simp) ?_
    refine AllReadyH.cons (o := _) rfl (fun K hK => ?_) ?_
    · skip
      go_simp
      refine hK.out _ _ ?_ (fun hHeld2 => ?_)
      · (try dsimp only)
        ((show AddS fB w.heap.size g' (.slice (some ⟨g', 0, none⟩) rs.length cap') (.int .i64 c.kind) (.int .i64 c.a) (.int .i64 c.b) (.slice aK c.keys.length kK) (.slice aV c.vals.length kV) W1 _; repeat (first | with_reducible assumption | with_reducible refine AddS.drew ?_ | with_reducible refine AddS.alloc ?_ _ | with_reducible refine AddS.set ?_ _ _ | with_reducible exact hS8 | with_reducible exact hS7)))
      clear hK K hHeld1
      try simp only [Act.put, List.setIfInBounds_toArray, List.set_cons_zero, List.set_cons_succ]
      refine wpAnyH_ready (rs := [14, 16]) (by kernel_rfl) (by simp) ?_
      refine AllReadyH.cons (o := _) rfl (fun K hK => ?_) ?_
      · skip
        (refine step_append_ex (by rfl) _ _ 22 (by rfl) _ _ (by rfl) (by rfl) (CopyR W1.heap.size W1 _ _ r.cells.length xs) (HP52.out _ _ (by repeat (first | with_reducible exact HB8.out | with_reducible exact HB7.out | with_reducible exact Below.refl _ _ | with_reducible refine Below.drew ?_ | with_reducible refine below_al ?_ (Nat.le_refl _) _)) (by first | exact heap_alloc_new _ _ | exact alloc_drew_new _ _ | exact two_first _ _ _ | exact two_second _ _ _) (by first | exact Nat.le_refl _ | simp) _) ?_; rintro v7 w7 ⟨a7, cap7, rfl, HO7, HB7, HS7, HZ7, hc7, hf7⟩; have hS7 : AddS fB w.heap.size g' (.slice (some ⟨g', 0, none⟩) rs.length cap') (.int .i64 c.kind) (.int .i64 c.a) (.int .i64 c.b) (.slice aK c.keys.length kK) (.slice aV c.vals.length kV) W1 w7 := hS.below HB7.out)
        refine hK.out _ _ ?_ (fun hHeld3 => ?_)
        · (try dsimp only)
          ((show AddS fB w.heap.size g' (.slice (some ⟨g', 0, none⟩) rs.length cap') (.int .i64 c.kind) (.int .i64 c.a) (.int .i64 c.b) (.slice aK c.keys.length kK) (.slice aV c.vals.length kV) W1 _; repeat (first | with_reducible assumption | with_reducible refine AddS.drew ?_ | with_reducible refine AddS.alloc ?_ _ | with_reducible refine AddS.set ?_ _ _ | with_reducible exact hS8 | with_reducible exact hS7)))
        clear hK K hHeld2
        try simp only [Act.put, List.setIfInBounds_toArray]
        refine wpAnyH_ready (rs := [16]) (by kernel_rfl) (by simp) ?_
        refine AllReadyH.cons (o := _) rfl (fun K hK => ?_) ?_
        · skip
          go_simp
          refine hK.out _ _ ?_ (fun hHeld4 => ?_)
          · (try dsimp only)
            ((show AddS fB w.heap.size g' (.slice (some ⟨g', 0, none⟩) rs.length cap') (.int .i64 c.kind) (.int .i64 c.a) (.int .i64 c.b) (.slice aK c.keys.length kK) (.slice aV c.vals.length kV) W1 _; repeat (first | with_reducible assumption | with_reducible refine AddS.drew ?_ | with_reducible refine AddS.alloc ?_ _ | with_reducible refine AddS.set ?_ _ _ | with_reducible exact hS8 | with_reducible exact hS7)))
          clear hK K hHeld3
          try simp only [Act.put, List.setIfInBounds_toArray, List.set_cons_zero, List.set_cons_succ]
          refine wpAnyH_ready (rs := [17]) (by kernel_rfl) (by simp) ?_
          refine AllReadyH.cons (o := _) rfl (fun K hK => ?_) ?_
          · skip
            (refine step_append_ex (by rfl) _ _ 22 (by rfl) _ _ (by rfl) (by rfl) (PushR W1.heap.size W1 (r.cells.length + 1) (xs ++ [.int .i64 c.kind, .int .i64 c.a, .int .i64 c.b, .slice aK c.keys.length kK, .slice aV c.vals.length kV])) (HP55.out _ _ _ _ (by first | exact HO7.out | exact own_same HO7.out (fun g cur _ hg => Below.heap_alloc _ _ _ (heap_lt hg))) (by repeat (first | with_reducible exact HB8.out | with_reducible exact HB7.out | with_reducible exact Below.refl _ _ | with_reducible refine Below.drew ?_ | with_reducible refine below_al ?_ (Nat.le_refl _) _)) (by first | exact heap_alloc_new _ _ | exact alloc_drew_new _ _ | (refine (HS7.out _ (by simp <;> omega) (by simp <;> omega)).trans ?_; first | exact heap_alloc_new _ _ | exact alloc_drew_new _ _ | exact two_first _ _ _ | exact two_second _ _ _)) _) ?_; rintro v8 w8 ⟨a8, cap8, rfl, HO8, HB8, hc8, hf8, hz8⟩; have hS8 : AddS fB w.heap.size g' (.slice (some ⟨g', 0, none⟩) rs.length cap') (.int .i64 c.kind) (.int .i64 c.a) (.int .i64 c.b) (.slice aK c.keys.length kK) (.slice aV c.vals.length kV) W1 w8 := hS.below HB8.out)
            refine hK.out _ _ ?_ (fun hHeld5 => ?_)
            · (try dsimp only)
              ((show AddS fB w.heap.size g' (.slice (some ⟨g', 0, none⟩) rs.length cap') (.int .i64 c.kind) (.int .i64 c.a) (.int .i64 c.b) (.slice aK c.keys.length kK) (.slice aV c.vals.length kV) W1 _; repeat (first | with_reducible assumption | with_reducible refine AddS.drew ?_ | with_reducible refine AddS.alloc ?_ _ | with_reducible refine AddS.set ?_ _ _ | with_reducible exact hS8 | with_reducible exact hS7)))
            clear hK K hHeld4
            try simp only [Act.put, List.setIfInBounds_toArray]
            refine wpAnyH_take (i := 18) (oi := _) (v := .pointer (some ⟨g', b * 3, none⟩)) rfl (by kernel_rfl) (by kernel_rfl) (by kernel_rfl) (fun _ _ _ h => h) (Or.inl ⟨by rfl, fun w hSw => ?_⟩) (by assumption) ?_
            · (try dsimp only at hSw); go_simp
            try simp only [Act.put]
            refine wpAnyH_take (i := 19) (oi := _) (v := .pointer (some ⟨g', b * 3, none⟩)) rfl (by kernel_rfl) (by kernel_rfl) (by kernel_rfl) (fun _ _ _ h => h) (Or.inl ⟨by rfl, fun w hSw => ?_⟩) (by assumption) ?_
            · (try dsimp only at hSw); go_simp
            try simp only [Act.put]
            refine wpAnyH_ready (rs := [20]) (by kernel_rfl) (by simp) ?_
            refine AllReadyH.cons (o := _) rfl (fun K hK => ?_) ?_
            · skip
              go_simp
              refine hK.out _ _ ?_ (fun hHeld6 => ?_)
              · (try dsimp only)
                ((show AddS fB w.heap.size g' (.slice (some ⟨g', 0, none⟩) rs.length cap') (.int .i64 c.kind) (.int .i64 c.a) (.int .i64 c.b) (.slice aK c.keys.length kK) (.slice aV c.vals.length kV) W1 _; repeat (first | with_reducible assumption | with_reducible refine AddS.drew ?_ | with_reducible refine AddS.alloc ?_ _ | with_reducible refine AddS.set ?_ _ _ | with_reducible exact hS8 | with_reducible exact hS7)))
              clear hK K hHeld5
              try simp only [Act.put, List.setIfInBounds_toArray, List.set_cons_zero, List.set_cons_succ]
              refine wpAnyH_done (by kernel_rfl) ?_ _
              refine NoPanic.normal ?_
              go_wp2_with fail
              go_ret
              exact ⟨rfl, r1, nx1, _, HOD.out, HEND.out _ _ _ HO8.out HB8.out⟩
            exact AllReadyH.nil
          exact AllReadyH.nil
        exact AllReadyH.nil
      refine AllReadyH.cons (o := _) rfl (fun K hK => ?_) ?_
      · skip
        go_simp
        refine hK.out _ _ ?_ (fun hHeld3 => ?_)
        · (try dsimp only)
          ((show AddS fB w.heap.size g' (.slice (some ⟨g', 0, none⟩) rs.length cap') (.int .i64 c.kind) (.int .i64 c.a) (.int .i64 c.b) (.slice aK c.keys.length kK) (.slice aV c.vals.length kV) W1 _; repeat (first | with_reducible assumption | with_reducible refine AddS.drew ?_ | with_reducible refine AddS.alloc ?_ _ | with_reducible refine AddS.set ?_ _ _ | with_reducible exact hS8 | with_reducible exact hS7)))
        clear hK K hHeld2
        try simp only [Act.put, List.setIfInBounds_toArray, List.set_cons_zero, List.set_cons_succ]
        refine wpAnyH_ready (rs := [14]) (by kernel_rfl) (by simp) ?_
        refine AllReadyH.cons (o := _) rfl (fun K hK => ?_) ?_
        · skip
          (refine step_append_ex (by rfl) _ _ 22 (by rfl) _ _ (by rfl) (by rfl) (CopyR W1.heap.size W1 _ _ r.cells.length xs) (HP52.out _ _ (by repeat (first | with_reducible exact HB8.out | with_reducible exact HB7.out | with_reducible exact Below.refl _ _ | with_reducible refine Below.drew ?_ | with_reducible refine below_al ?_ (Nat.le_refl _) _)) (by first | exact heap_alloc_new _ _ | exact alloc_drew_new _ _ | exact two_first _ _ _ | exact two_second _ _ _) (by first | exact Nat.le_refl _ | simp) _) ?_; rintro v7 w7 ⟨a7, cap7, rfl, HO7, HB7, HS7, HZ7, hc7, hf7⟩; have hS7 : AddS fB w.heap.size g' (.slice (some ⟨g', 0, none⟩) rs.length cap') (.int .i64 c.kind) (.int .i64 c.a) (.int .i64 c.b) (.slice aK c.keys.length kK) (.slice aV c.vals.length kV) W1 w7 := hS.below HB7.out)
          refine hK.out _ _ ?_ (fun hHeld4 => ?_)
          · (try dsimp only)
            ((show AddS fB w.heap.size g' (.slice (some ⟨g', 0, none⟩) rs.length cap') (.int .i64 c.kind) (.int .i64 c.a) (.int .i64 c.b) (.slice aK c.keys.length kK) (.slice aV c.vals.length kV) W1 _; repeat (first | with_reducible assumption | with_reducible refine AddS.drew ?_ | with_reducible refine AddS.alloc ?_ _ | with_reducible refine AddS.set ?_ _ _ | with_reducible exact hS8 | with_reducible exact hS7)))
          clear hK K hHeld3
          try simp only [Act.put, List.setIfInBounds_toArray]
          refine wpAnyH_ready (rs := [17]) (by kernel_rfl) (by simp) ?_
          refine AllReadyH.cons (o := _) rfl (fun K hK => ?_) ?_
          · skip
            (refine step_append_ex (by rfl) _ _ 22 (by rfl) _ _ (by rfl) (by rfl) (PushR W1.heap.size W1 (r.cells.length + 1) (xs ++ [.int .i64 c.kind, .int .i64 c.a, .int .i64 c.b, .slice aK c.keys.length kK, .slice aV c.vals.length kV])) (HP55.out _ _ _ _ (by first | exact HO7.out | exact own_same HO7.out (fun g cur _ hg => Below.heap_alloc _ _ _ (heap_lt hg))) (by repeat (first | with_reducible exact HB8.out | with_reducible exact HB7.out | with_reducible exact Below.refl _ _ | with_reducible refine Below.drew ?_ | with_reducible refine below_al ?_ (Nat.le_refl _) _)) (by first | exact heap_alloc_new _ _ | exact alloc_drew_new _ _ | (refine (HS7.out _ (by simp <;> omega) (by simp <;> omega)).trans ?_; first | exact heap_alloc_new _ _ | exact alloc_drew_new _ _ | exact two_first _ _ _ | exact two_second _ _ _)) _) ?_; rintro v8 w8 ⟨a8, cap8, rfl, HO8, HB8, hc8, hf8, hz8⟩; have hS8 : AddS fB w.heap.size g' (.slice (some ⟨g', 0, none⟩) rs.length cap') (.int .i64 c.kind) (.int .i64 c.a) (.int .i64 c.b) (.slice aK c.keys.length kK) (.slice aV c.vals.length kV) W1 w8 := hS.below HB8.out)
            refine hK.out _ _ ?_ (fun hHeld5 => ?_)
            · (try dsimp only)
              ((show AddS fB w.heap.size g' (.slice (some ⟨g', 0, none⟩) rs.length cap') (.int .i64 c.kind) (.int .i64 c.a) (.int .i64 c.b) (.slice aK c.keys.length kK) (.slice aV c.vals.length kV) W1 _; repeat (first | with_reducible assumption | with_reducible refine AddS.drew ?_ | with_reducible refine AddS.alloc ?_ _ | with_reducible refine AddS.set ?_ _ _ | with_reducible exact hS8 | with_reducible exact hS7)))
            clear hK K hHeld4
            try simp only [Act.put]
            refine wpAnyH_take (i := 18) (oi := _) (v := .pointer (some ⟨g', b * 3, none⟩)) rfl (by kernel_rfl) (by kernel_rfl) (by kernel_rfl) (fun _ _ _ h => h) (Or.inl ⟨by rfl, fun w hSw => ?_⟩) (by assumption) ?_
            · (try dsimp only at hSw); go_simp
            try simp only [Act.put]
            refine wpAnyH_take (i := 19) (oi := _) (v := .pointer (some ⟨g', b * 3, none⟩)) rfl (by kernel_rfl) (by kernel_rfl) (by kernel_rfl) (fun _ _ _ h => h) (Or.inl ⟨by rfl, fun w hSw => ?_⟩) (by assumption) ?_
            · (try dsimp only at hSw); go_simp
            try simp only [Act.put]
            refine wpAnyH_ready (rs := [20]) (by kernel_rfl) (by simp) ?_
            refine AllReadyH.cons (o := _) rfl (fun K hK => ?_) ?_
            · skip
              go_simp
              refine hK.out _ _ ?_ (fun hHeld6 => ?_)
              · (try dsimp only)
                ((show AddS fB w.heap.size g' (.slice (some ⟨g', 0, none⟩) rs.length cap') (.int .i64 c.kind) (.int .i64 c.a) (.int .i64 c.b) (.slice aK c.keys.length kK) (.slice aV c.vals.length kV) W1 _; repeat (first | with_reducible assumption | with_reducible refine AddS.drew ?_ | with_reducible refine AddS.alloc ?_ _ | with_reducible refine AddS.set ?_ _ _ | with_reducible exact hS8 | with_reducible exact hS7)))
              clear hK K hHeld5
              try simp only [Act.put, List.setIfInBounds_toArray, List.set_cons_zero, List.set_cons_succ]
              refine wpAnyH_done (by kernel_rfl) ?_ _
              refine NoPanic.normal ?_
              go_wp2_with fail
              go_ret
              exact ⟨rfl, r1, nx1, _, HOD.out, HEND.out _ _ _ HO8.out HB8.out⟩
            exact AllReadyH.nil
          exact AllReadyH.nil
        exact AllReadyH.nil
      exact AllReadyH.nil
    refine AllReadyH.cons (o := _) rfl (fun K hK => ?_) ?_
    · skip
      go_simp
      refine hK.out _ _ ?_ (fun hHeld2 => ?_)
      · (try dsimp only)
        ((show AddS fB w.heap.size g' (.slice (some ⟨g', 0, none⟩) rs.length cap') (.int .i64 c.kind) (.int .i64 c.a) (.int .i64 c.b) (.slice aK c.keys.length kK) (.slice aV c.vals.length kV) W1 _; repeat (first | with_reducible assumption | with_reducible refine AddS.drew ?_ | with_reducible refine AddS.alloc ?_ _ | with_reducible refine AddS.set ?_ _ _ | with_reducible exact hS8 | with_reducible exact hS7)))
      clear hK K hHeld1
      try simp only [Act.put, List.setIfInBounds_toArray, List.set_cons_zero, List.set_cons_succ]
      refine wpAnyH_ready (rs := [5]) (by kernel_rfl) (by simp) ?_
      refine AllReadyH.cons (o := _) rfl (fun K hK => ?_) ?_
      · skip
        go_simp
        refine hK.out _ _ ?_ (fun hHeld3 => ?_)
        · (try dsimp only)
          ((show AddS fB w.heap.size g' (.slice (some ⟨g', 0, none⟩) rs.length cap') (.int .i64 c.kind) (.int .i64 c.a) (.int .i64 c.b) (.slice aK c.keys.length kK) (.slice aV c.vals.length kV) W1 _; repeat (first | with_reducible assumption | with_reducible refine AddS.drew ?_ | with_reducible refine AddS.alloc ?_ _ | with_reducible refine AddS.set ?_ _ _ | with_reducible exact hS8 | with_reducible exact hS7)))
        clear hK K hHeld2
        try simp only [Act.put, List.setIfInBounds_toArray, List.set_cons_zero, List.set_cons_succ]
        refine wpAnyH_ready (rs := [14]) (by kernel_rfl) (by simp) ?_
        refine AllReadyH.cons (o := _) rfl (fun K hK => ?_) ?_
        · skip
          (refine step_append_ex (by rfl) _ _ 22 (by rfl) _ _ (by rfl) (by rfl) (CopyR W1.heap.size W1 _ _ r.cells.length xs) (HP52.out _ _ (by repeat (first | with_reducible exact HB8.out | with_reducible exact HB7.out | with_reducible exact Below.refl _ _ | with_reducible refine Below.drew ?_ | with_reducible refine below_al ?_ (Nat.le_refl _) _)) (by first | exact heap_alloc_new _ _ | exact alloc_drew_new _ _ | exact two_first _ _ _ | exact two_second _ _ _) (by first | exact Nat.le_refl _ | simp) _) ?_; rintro v7 w7 ⟨a7, cap7, rfl, HO7, HB7, HS7, HZ7, hc7, hf7⟩; have hS7 : AddS fB w.heap.size g' (.slice (some ⟨g', 0, none⟩) rs.length cap') (.int .i64 c.kind) (.int .i64 c.a) (.int .i64 c.b) (.slice aK c.keys.length kK) (.slice aV c.vals.length kV) W1 w7 := hS.below HB7.out)
          refine hK.out _ _ ?_ (fun hHeld4 => ?_)
          · (try dsimp only)
            ((show AddS fB w.heap.size g' (.slice (some ⟨g', 0, none⟩) rs.length cap') (.int .i64 c.kind) (.int .i64 c.a) (.int .i64 c.b) (.slice aK c.keys.length kK) (.slice aV c.vals.length kV) W1 _; repeat (first | with_reducible assumption | with_reducible refine AddS.drew ?_ | with_reducible refine AddS.alloc ?_ _ | with_reducible refine AddS.set ?_ _ _ | with_reducible exact hS8 | with_reducible exact hS7)))
          clear hK K hHeld3
          try simp only [Act.put, List.setIfInBounds_toArray]
          refine wpAnyH_ready (rs := [17]) (by kernel_rfl) (by simp) ?_
          refine AllReadyH.cons (o := _) rfl (fun K hK => ?_) ?_
          · skip
            (refine step_append_ex (by rfl) _ _ 22 (by rfl) _ _ (by rfl) (by rfl) (PushR W1.heap.size W1 (r.cells.length + 1) (xs ++ [.int .i64 c.kind, .int .i64 c.a, .int .i64 c.b, .slice aK c.keys.length kK, .slice aV c.vals.length kV])) (HP55.out _ _ _ _ (by first | exact HO7.out | exact own_same HO7.out (fun g cur _ hg => Below.heap_alloc _ _ _ (heap_lt hg))) (by repeat (first | with_reducible exact HB8.out | with_reducible exact HB7.out | with_reducible exact Below.refl _ _ | with_reducible refine Below.drew ?_ | with_reducible refine below_al ?_ (Nat.le_refl _) _)) (by first | exact heap_alloc_new _ _ | exact alloc_drew_new _ _ | (refine (HS7.out _ (by simp <;> omega) (by simp <;> omega)).trans ?_; first | exact heap_alloc_new _ _ | exact alloc_drew_new _ _ | exact two_first _ _ _ | exact two_second _ _ _)) _) ?_; rintro v8 w8 ⟨a8, cap8, rfl, HO8, HB8, hc8, hf8, hz8⟩; have hS8 : AddS fB w.heap.size g' (.slice (some ⟨g', 0, none⟩) rs.length cap') (.int .i64 c.kind) (.int .i64 c.a) (.int .i64 c.b) (.slice aK c.keys.length kK) (.slice aV c.vals.length kV) W1 w8 := hS.below HB8.out)
            refine hK.out _ _ ?_ (fun hHeld5 => ?_)
            · (try dsimp only)
              ((show AddS fB w.heap.size g' (.slice (some ⟨g', 0, none⟩) rs.length cap') (.int .i64 c.kind) (.int .i64 c.a) (.int .i64 c.b) (.slice aK c.keys.length kK) (.slice aV c.vals.length kV) W1 _; repeat (first | with_reducible assumption | with_reducible refine AddS.drew ?_ | with_reducible refine AddS.alloc ?_ _ | with_reducible refine AddS.set ?_ _ _ | with_reducible exact hS8 | with_reducible exact hS7)))
            clear hK K hHeld4
            try simp only [Act.put]
            refine wpAnyH_take (i := 18) (oi := _) (v := .pointer (some ⟨g', b * 3, none⟩)) rfl (by kernel_rfl) (by kernel_rfl) (by kernel_rfl) (fun _ _ _ h => h) (Or.inl ⟨by rfl, fun w hSw => ?_⟩) (by assumption) ?_
            · (try dsimp only at hSw); go_simp
            try simp only [Act.put]
            refine wpAnyH_take (i := 19) (oi := _) (v := .pointer (some ⟨g', b * 3, none⟩)) rfl (by kernel_rfl) (by kernel_rfl) (by kernel_rfl) (fun _ _ _ h => h) (Or.inl ⟨by rfl, fun w hSw => ?_⟩) (by assumption) ?_
            · (try dsimp only at hSw); go_simp
            try simp only [Act.put]
            refine wpAnyH_ready (rs := [20]) (by kernel_rfl) (by simp) ?_
            refine AllReadyH.cons (o := _) rfl (fun K hK => ?_) ?_
            · skip
              go_simp
              refine hK.out _ _ ?_ (fun hHeld6 => ?_)
              · (try dsimp only)
                ((show AddS fB w.heap.size g' (.slice (some ⟨g', 0, none⟩) rs.length cap') (.int .i64 c.kind) (.int .i64 c.a) (.int .i64 c.b) (.slice aK c.keys.length kK) (.slice aV c.vals.length kV) W1 _; repeat (first | with_reducible assumption | with_reducible refine AddS.drew ?_ | with_reducible refine AddS.alloc ?_ _ | with_reducible refine AddS.set ?_ _ _ | with_reducible exact hS8 | with_reducible exact hS7)))
              clear hK K hHeld5
              try simp only [Act.put, List.setIfInBounds_toArray, List.set_cons_zero, List.set_cons_succ]
              refine wpAnyH_done (by kernel_rfl) ?_ _
              refine NoPanic.normal ?_
              go_wp2_with fail
              go_ret
              exact ⟨rfl, r1, nx1, _, HOD.out, HEND.out _ _ _ HO8.out HB8.out⟩
            exact AllReadyH.nil
          exact AllReadyH.nil
        exact AllReadyH.nil
      exact AllReadyH.nil
    exact AllReadyH.nil
  refine AllReadyH.cons (o := _) rfl (fun K hK => ?_) ?_
  · skip
    go_simp
    refine hK.out _ _ ?_ (fun hHeld1 => ?_)
    · (try dsimp only)
      ((show AddS fB w.heap.size g' (.slice (some ⟨g', 0, none⟩) rs.length cap') (.int .i64 c.kind) (.int .i64 c.a) (.int .i64 c.b) (.slice aK c.keys.length kK) (.slice aV c.vals.length kV) W1 _; repeat (first | with_reducible assumption | with_reducible refine AddS.drew ?_ | with_reducible refine AddS.alloc ?_ _ | with_reducible refine AddS.set ?_ _ _ | with_reducible exact hS8 | with_reducible exact hS7)))
    clear hK K hHeld0
    try simp only [Act.put, List.setIfInBounds_toArray, List.set_cons_zero, List.set_cons_succ]
    refine wpAnyH_ready (rs := [5, 13]) (by kernel_rfl) (by simp) ?_
    refine AllReadyH.cons (o := _) rfl (fun K hK => ?_) ?_
    · skip
      go_simp
      refine hK.out _ _ ?_ (fun hHeld2 => ?_)
      · (try dsimp only)
        ((show AddS fB w.heap.size g' (.slice (some ⟨g', 0, none⟩) rs.length cap') (.int .i64 c.kind) (.int .i64 c.a) (.int .i64 c.b) (.slice aK c.keys.length kK) (.slice aV c.vals.length kV) W1 _; repeat (first | with_reducible assumption | with_reducible refine AddS.drew ?_ | with_reducible refine AddS.alloc ?_ _ | with_reducible refine AddS.set ?_ _ _ | with_reducible exact hS8 | with_reducible exact hS7)))
      clear hK K hHeld1
      try simp only [Act.put, List.setIfInBounds_toArray, List.set_cons_zero, List.set_cons_succ]
      refine wpAnyH_ready (rs := [13]) (by kernel_rfl) (by simp) ?_
      refine AllReadyH.cons (o := _) rfl (fun K hK => ?_) ?_
      · skip
        go_simp
        refine hK.out _ _ ?_ (fun hHeld3 => ?_)
        · (try dsimp only)
          ((show AddS fB w.heap.size g' (.slice (some ⟨g', 0, none⟩) rs.length cap') (.int .i64 c.kind) (.int .i64 c.a) (.int .i64 c.b) (.slice aK c.keys.length kK) (.slice aV c.vals.length kV) W1 _; repeat (first | with_reducible assumption | with_reducible refine AddS.drew ?_ | with_reducible refine AddS.alloc ?_ _ | with_reducible refine AddS.set ?_ _ _ | with_reducible exact hS8 | with_reducible exact hS7)))
        clear hK K hHeld2
        try simp only [Act.put, List.setIfInBounds_toArray, List.set_cons_zero, List.set_cons_succ]
        refine wpAnyH_ready (rs := [14]) (by kernel_rfl) (by simp) ?_
        refine AllReadyH.cons (o := _) rfl (fun K hK => ?_) ?_
        · skip
          (refine step_append_ex (by rfl) _ _ 22 (by rfl) _ _ (by rfl) (by rfl) (CopyR W1.heap.size W1 _ _ r.cells.length xs) (HP52.out _ _ (by repeat (first | with_reducible exact HB8.out | with_reducible exact HB7.out | with_reducible exact Below.refl _ _ | with_reducible refine Below.drew ?_ | with_reducible refine below_al ?_ (Nat.le_refl _) _)) (by first | exact heap_alloc_new _ _ | exact alloc_drew_new _ _ | exact two_first _ _ _ | exact two_second _ _ _) (by first | exact Nat.le_refl _ | simp) _) ?_; rintro v7 w7 ⟨a7, cap7, rfl, HO7, HB7, HS7, HZ7, hc7, hf7⟩; have hS7 : AddS fB w.heap.size g' (.slice (some ⟨g', 0, none⟩) rs.length cap') (.int .i64 c.kind) (.int .i64 c.a) (.int .i64 c.b) (.slice aK c.keys.length kK) (.slice aV c.vals.length kV) W1 w7 := hS.below HB7.out)
          refine hK.out _ _ ?_ (fun hHeld4 => ?_)
          · (try dsimp only)
            ((show AddS fB w.heap.size g' (.slice (some ⟨g', 0, none⟩) rs.length cap') (.int .i64 c.kind) (.int .i64 c.a) (.int .i64 c.b) (.slice aK c.keys.length kK) (.slice aV c.vals.length kV) W1 _; repeat (first | with_reducible assumption | with_reducible refine AddS.drew ?_ | with_reducible refine AddS.alloc ?_ _ | with_reducible refine AddS.set ?_ _ _ | with_reducible exact hS8 | with_reducible exact hS7)))
          clear hK K hHeld3
          try simp only [Act.put, List.setIfInBounds_toArray]
          refine wpAnyH_ready (rs := [17]) (by kernel_rfl) (by simp) ?_
          refine AllReadyH.cons (o := _) rfl (fun K hK => ?_) ?_
          · skip
            (refine step_append_ex (by rfl) _ _ 22 (by rfl) _ _ (by rfl) (by rfl) (PushR W1.heap.size W1 (r.cells.length + 1) (xs ++ [.int .i64 c.kind, .int .i64 c.a, .int .i64 c.b, .slice aK c.keys.length kK, .slice aV c.vals.length kV])) (HP55.out _ _ _ _ (by first | exact HO7.out | exact own_same HO7.out (fun g cur _ hg => Below.heap_alloc _ _ _ (heap_lt hg))) (by repeat (first | with_reducible exact HB8.out | with_reducible exact HB7.out | with_reducible exact Below.refl _ _ | with_reducible refine Below.drew ?_ | with_reducible refine below_al ?_ (Nat.le_refl _) _)) (by first | exact heap_alloc_new _ _ | exact alloc_drew_new _ _ | (refine (HS7.out _ (by simp <;> omega) (by simp <;> omega)).trans ?_; first | exact heap_alloc_new _ _ | exact alloc_drew_new _ _ | exact two_first _ _ _ | exact two_second _ _ _)) _) ?_; rintro v8 w8 ⟨a8, cap8, rfl, HO8, HB8, hc8, hf8, hz8⟩; have hS8 : AddS fB w.heap.size g' (.slice (some ⟨g', 0, none⟩) rs.length cap') (.int .i64 c.kind) (.int .i64 c.a) (.int .i64 c.b) (.slice aK c.keys.length kK) (.slice aV c.vals.length kV) W1 w8 := hS.below HB8.out)
            refine hK.out _ _ ?_ (fun hHeld5 => ?_)
            · (try dsimp only)
              ((show AddS fB w.heap.size g' (.slice (some ⟨g', 0, none⟩) rs.length cap') (.int .i64 c.kind) (.int .i64 c.a) (.int .i64 c.b) (.slice aK c.keys.length kK) (.slice aV c.vals.length kV) W1 _; repeat (first | with_reducible assumption | with_reducible refine AddS.drew ?_ | with_reducible refine AddS.alloc ?_ _ | with_reducible refine AddS.set ?_ _ _ | with_reducible exact hS8 | with_reducible exact hS7)))
            clear hK K hHeld4
            try simp only [Act.put]
            refine wpAnyH_take (i := 18) (oi := _) (v := .pointer (some ⟨g', b * 3, none⟩)) rfl (by kernel_rfl) (by kernel_rfl) (by kernel_rfl) (fun _ _ _ h => h) (Or.inl ⟨by rfl, fun w hSw => ?_⟩) (by assumption) ?_
            · (try dsimp only at hSw); go_simp
            try simp only [Act.put]
            refine wpAnyH_take (i := 19) (oi := _) (v := .pointer (some ⟨g', b * 3, none⟩)) rfl (by kernel_rfl) (by kernel_rfl) (by kernel_rfl) (fun _ _ _ h => h) (Or.inl ⟨by rfl, fun w hSw => ?_⟩) (by assumption) ?_
            · (try dsimp only at hSw); go_simp
            try simp only [Act.put]
            refine wpAnyH_ready (rs := [20]) (by kernel_rfl) (by simp) ?_
            refine AllReadyH.cons (o := _) rfl (fun K hK => ?_) ?_
            · skip
              go_simp
              refine hK.out _ _ ?_ (fun hHeld6 => ?_)
              · (try dsimp only)
                ((show AddS fB w.heap.size g' (.slice (some ⟨g', 0, none⟩) rs.length cap') (.int .i64 c.kind) (.int .i64 c.a) (.int .i64 c.b) (.slice aK c.keys.length kK) (.slice aV c.vals.length kV) W1 _; repeat (first | with_reducible assumption | with_reducible refine AddS.drew ?_ | with_reducible refine AddS.alloc ?_ _ | with_reducible refine AddS.set ?_ _ _ | with_reducible exact hS8 | with_reducible exact hS7)))
              clear hK K hHeld5
              try simp only [Act.put, List.setIfInBounds_toArray, List.set_cons_zero, List.set_cons_succ]
              refine wpAnyH_done (by kernel_rfl) ?_ _
              refine NoPanic.normal ?_
              go_wp2_with fail
              go_ret
              exact ⟨rfl, r1, nx1, _, HOD.out, HEND.out _ _ _ HO8.out HB8.out⟩
            exact AllReadyH.nil
          exact AllReadyH.nil
        exact AllReadyH.nil
      exact AllReadyH.nil
    refine AllReadyH.cons (o := _) rfl (fun K hK => ?_) ?_
    · skip
      go_simp
      refine hK.out _ _ ?_ (fun hHeld2 => ?_)
      · (try dsimp only)
        ((show AddS fB w.heap.size g' (.slice (some ⟨g', 0, none⟩) rs.length cap') (.int .i64 c.kind) (.int .i64 c.a) (.int .i64 c.b) (.slice aK c.keys.length kK) (.slice aV c.vals.length kV) W1 _; repeat (first | with_reducible assumption | with_reducible refine AddS.drew ?_ | with_reducible refine AddS.alloc ?_ _ | with_reducible refine AddS.set ?_ _ _ | with_reducible exact hS8 | with_reducible exact hS7)))
      clear hK K hHeld1
      try simp only [Act.put, List.setIfInBounds_toArray, List.set_cons_zero, List.set_cons_succ]
      refine wpAnyH_ready (rs := [5]) (by kernel_rfl) (by simp) ?_
      refine AllReadyH.cons (o := _) rfl (fun K hK => ?_) ?_
      · skip
        go_simp
        refine hK.out _ _ ?_ (fun hHeld3 => ?_)
        · (try dsimp only)
          ((show AddS fB w.heap.size g' (.slice (some ⟨g', 0, none⟩) rs.length cap') (.int .i64 c.kind) (.int .i64 c.a) (.int .i64 c.b) (.slice aK c.keys.length kK) (.slice aV c.vals.length kV) W1 _; repeat (first | with_reducible assumption | with_reducible refine AddS.drew ?_ | with_reducible refine AddS.alloc ?_ _ | with_reducible refine AddS.set ?_ _ _ | with_reducible exact hS8 | with_reducible exact hS7)))
        clear hK K hHeld2
        try simp only [Act.put, List.setIfInBounds_toArray, List.set_cons_zero, List.set_cons_succ]
        refine wpAnyH_ready (rs := [14]) (by kernel_rfl) (by simp) ?_
        refine AllReadyH.cons (o := _) rfl (fun K hK => ?_) ?_
        · skip
          (refine step_append_ex (by rfl) _ _ 22 (by rfl) _ _ (by rfl) (by rfl) (CopyR W1.heap.size W1 _ _ r.cells.length xs) (HP52.out _ _ (by repeat (first | with_reducible exact HB8.out | with_reducible exact HB7.out | with_reducible exact Below.refl _ _ | with_reducible refine Below.drew ?_ | with_reducible refine below_al ?_ (Nat.le_refl _) _)) (by first | exact heap_alloc_new _ _ | exact alloc_drew_new _ _ | exact two_first _ _ _ | exact two_second _ _ _) (by first | exact Nat.le_refl _ | simp) _) ?_; rintro v7 w7 ⟨a7, cap7, rfl, HO7, HB7, HS7, HZ7, hc7, hf7⟩; have hS7 : AddS fB w.heap.size g' (.slice (some ⟨g', 0, none⟩) rs.length cap') (.int .i64 c.kind) (.int .i64 c.a) (.int .i64 c.b) (.slice aK c.keys.length kK) (.slice aV c.vals.length kV) W1 w7 := hS.below HB7.out)
          refine hK.out _ _ ?_ (fun hHeld4 => ?_)
          · (try dsimp only)
            ((show AddS fB w.heap.size g' (.slice (some ⟨g', 0, none⟩) rs.length cap') (.int .i64 c.kind) (.int .i64 c.a) (.int .i64 c.b) (.slice aK c.keys.length kK) (.slice aV c.vals.length kV) W1 _; repeat (first | with_reducible assumption | with_reducible refine AddS.drew ?_ | with_reducible refine AddS.alloc ?_ _ | with_reducible refine AddS.set ?_ _ _ | with_reducible exact hS8 | with_reducible exact hS7)))
          clear hK K hHeld3
          try simp only [Act.put, List.setIfInBounds_toArray]
          refine wpAnyH_ready (rs := [17]) (by kernel_rfl) (by simp) ?_
          refine AllReadyH.cons (o := _) rfl (fun K hK => ?_) ?_
          · skip
            (refine step_append_ex (by rfl) _ _ 22 (by rfl) _ _ (by rfl) (by rfl) (PushR W1.heap.size W1 (r.cells.length + 1) (xs ++ [.int .i64 c.kind, .int .i64 c.a, .int .i64 c.b, .slice aK c.keys.length kK, .slice aV c.vals.length kV])) (HP55.out _ _ _ _ (by first | exact HO7.out | exact own_same HO7.out (fun g cur _ hg => Below.heap_alloc _ _ _ (heap_lt hg))) (by repeat (first | with_reducible exact HB8.out | with_reducible exact HB7.out | with_reducible exact Below.refl _ _ | with_reducible refine Below.drew ?_ | with_reducible refine below_al ?_ (Nat.le_refl _) _)) (by first | exact heap_alloc_new _ _ | exact alloc_drew_new _ _ | (refine (HS7.out _ (by simp <;> omega) (by simp <;> omega)).trans ?_; first | exact heap_alloc_new _ _ | exact alloc_drew_new _ _ | exact two_first _ _ _ | exact two_second _ _ _)) _) ?_; rintro v8 w8 ⟨a8, cap8, rfl, HO8, HB8, hc8, hf8, hz8⟩; have hS8 : AddS fB w.heap.size g' (.slice (some ⟨g', 0, none⟩) rs.length cap') (.int .i64 c.kind) (.int .i64 c.a) (.int .i64 c.b) (.slice aK c.keys.length kK) (.slice aV c.vals.length kV) W1 w8 := hS.below HB8.out)
            refine hK.out _ _ ?_ (fun hHeld5 => ?_)
            · (try dsimp only)
              ((show AddS fB w.heap.size g' (.slice (some ⟨g', 0, none⟩) rs.length cap') (.int .i64 c.kind) (.int .i64 c.a) (.int .i64 c.b) (.slice aK c.keys.length kK) (.slice aV c.vals.length kV) W1 _; repeat (first | with_reducible assumption | with_reducible refine AddS.drew ?_ | with_reducible refine AddS.alloc ?_ _ | with_reducible refine AddS.set ?_ _ _ | with_reducible exact hS8 | with_reducible exact hS7)))
            clear hK K hHeld4
            try simp only [Act.put]
            refine wpAnyH_take (i := 18) (oi := _) (v := .pointer (some ⟨g', b * 3, none⟩)) rfl (by kernel_rfl) (by kernel_rfl) (by kernel_rfl) (fun _ _ _ h => h) (Or.inl ⟨by rfl, fun w hSw => ?_⟩) (by assumption) ?_
            · (try dsimp only at hSw); go_simp
            try simp only [Act.put]
            refine wpAnyH_take (i := 19) (oi := _) (v := .pointer (some ⟨g', b * 3, none⟩)) rfl (by kernel_rfl) (by kernel_rfl) (by kernel_rfl) (fun _ _ _ h => h) (Or.inl ⟨by rfl, fun w hSw => ?_⟩) (by assumption) ?_
            · (try dsimp only at hSw); go_simp
            try simp only [Act.put]
            refine wpAnyH_ready (rs := [20]) (by kernel_rfl) (by simp) ?_
            refine AllReadyH.cons (o := _) rfl (fun K hK => ?_) ?_
            · skip
              go_simp
              refine hK.out _ _ ?_ (fun hHeld6 => ?_)
              · (try dsimp only)
                ((show AddS fB w.heap.size g' (.slice (some ⟨g', 0, none⟩) rs.length cap') (.int .i64 c.kind) (.int .i64 c.a) (.int .i64 c.b) (.slice aK c.keys.length kK) (.slice aV c.vals.length kV) W1 _; repeat (first | with_reducible assumption | with_reducible refine AddS.drew ?_ | with_reducible refine AddS.alloc ?_ _ | with_reducible refine AddS.set ?_ _ _ | with_reducible exact hS8 | with_reducible exact hS7)))
              clear hK K hHeld5
              try simp only [Act.put, List.setIfInBounds_toArray, List.set_cons_zero, List.set_cons_succ]
              refine wpAnyH_done (by kernel_rfl) ?_ _
              refine NoPanic.normal ?_
              go_wp2_with fail
              go_ret
              exact ⟨rfl, r1, nx1, _, HOD.out, HEND.out _ _ _ HO8.out HB8.out⟩
            exact AllReadyH.nil
          exact AllReadyH.nil
        exact AllReadyH.nil
      exact AllReadyH.nil
    exact AllReadyH.nil
  exact AllReadyH.nil
end
end Go.Proofs.Ytmipgpkeegggpaa.P
