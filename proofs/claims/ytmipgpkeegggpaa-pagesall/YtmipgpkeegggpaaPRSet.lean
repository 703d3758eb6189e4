-- PROVED: the reference's Set.
import Derived.Test.YtmipgpkeegggpaaPCells
namespace Go.Proofs.Ytmipgpkeegggpaa.P
open Go.RowKit
set_option linter.unusedVariables false
def Shd (rs : List Rb) (b n : Nat) : Prop := ∃ i r', i ≠ b ∧ rs[i]? = some r' ∧ n ∈ r'.pgs
/-- What 'own' makes of a book. -/
structure OwnD (rs : List Rb) (b : Nat) (r : Rb) (p nx : Nat) (r1 : Rb) (nx1 : Nat) : Prop where
  cells : r1.cells = r.cells
  vC : r1.vC = r.vC
  gone : r1.gone = r.gone
  pg : (p = r.pgs.length ∧ r1.pgs = r.pgs ++ [nx + 1] ∧ nx1 = nx + 1) ∨ (∃ n, r.pgs[p]? = some n ∧ Shd rs b n ∧ r1.pgs = r.pgs.set p (nx + 1) ∧ nx1 = nx + 1) ∨ (∃ n, r.pgs[p]? = some n ∧ ¬ Shd rs b n ∧ r1.pgs = r.pgs ∧ nx1 = nx)
theorem rset_id {rs : List Rb} {b : Nat} {r : Rb} (h : rs[b]? = some r) : rs.set b r = rs := by
  obtain ⟨hl, rfl⟩ := List.getElem?_eq_some_iff.1 h
  exact List.set_getElem_self hl
section
variable {base fB nx : Nat} {w : World} {rs : List Rb}
theorem own_any (h : Fam base w fB rs nx) (hnx : nx ≤ 100000) (hB : base ≤ w.heap.size) {b p : Nat} {r : Rb} (hr : rs[b]? = some r) (hp : p ≤ r.pgs.length) (hlt : r.pgs.length < 1000) {P : Int} (hP : (p : Int) = P) :
    Calls Try.prog 46 #[.pointer (some ⟨fB, 0, none⟩), .int .i64 (b : Int), .int .i64 P] w fun e w' => e = .returned (.tuple #[]) ∧ ∃ r1 nx1, Hid (OwnD rs b r p nx r1 nx1) ∧ Hid (Fam base w' fB (rs.set b r1) nx1) ∧ Hid (Keep [58, 55] base w w') := by
  subst hP
  rcases Nat.lt_or_ge p r.pgs.length with hpl | hpl
  · have hpn : r.pgs[p]? = some r.pgs[p] := List.getElem?_eq_getElem hpl
    by_cases hs : Shd rs b r.pgs[p]
    · exact (own_set h hnx hB hr hpn hs).mono fun e w' ⟨he, v', h1, h2⟩ => ⟨he, withP r (r.pgs.set p (nx + 1)) v', nx + 1, ⟨rfl, rfl, rfl, .inr (.inl ⟨_, hpn, hs, rfl, rfl⟩)⟩, h1, h2⟩
    · exact (own_not h hr hpn hs).mono fun e w' ⟨he, hw⟩ => ⟨he, r, nx, ⟨rfl, rfl, rfl, .inr (.inr ⟨_, hpn, hs, rfl, rfl⟩)⟩, by subst hw; show Fam _ _ _ _ _; rw [rset_id hr]; exact h, by subst hw; exact Keep.refl _ _ _⟩
  · obtain rfl : p = r.pgs.length := by omega
    exact (own_new h hnx hB hr hlt).mono fun e w' ⟨he, v', h1, h2⟩ => ⟨he, withP r (r.pgs ++ [nx + 1]) v', nx + 1, ⟨rfl, rfl, rfl, .inl ⟨rfl, rfl, rfl⟩⟩, h1, h2⟩
theorem rset_same {b : Nat} {r r1 : Rb} (h : rs[b]? = some r) : (rs.set b r1)[b]? = some r1 := by
  have hl := (List.getElem?_eq_some_iff.1 h).1
  rw [List.getElem?_set, if_pos rfl, if_pos hl]
set_option maxRecDepth 100000 in
set_option maxHeartbeats 4000000 in
theorem rset_no (h : Fam base w fB rs nx) {b : Nat} {r : Rb} (hr : rs[b]? = some r) (k : Int) (hk : ¬ (0 ≤ k ∧ k < r.cells.length)) {vK vV : Value} {c : Cl} (hc : Parts base w vK vV c) :
    Calls Try.prog 29 #[.pointer (some ⟨fB, 0, none⟩), .int .i64 (b : Int), .int .i64 k, .agg #[.int .i64 c.kind, .int .i64 c.a, .int .i64 c.b, vK, vV]] w fun e w' => e = .returned (.int .i64 2) ∧ Below w.heap.size w w' := by
  obtain ⟨aK, kK, rfl, -⟩ := hc.1
  obtain ⟨aV, kV, rfl, -⟩ := hc.2.1
  have hbel0 : Below w.heap.size w (w.alloc (.cells #[.int .i64 c.kind, .int .i64 c.a, .int .i64 c.b, .slice aK c.keys.length kK, .slice aV c.vals.length kV] 30)) := (Below.refl _ _).alloc (Nat.le_refl _) _
  obtain ⟨g, cap, c0, c1, lf, fz1, fz0, hbl, hcap, -, hgl, g0, g1, g2, -, -, -⟩ := h.at_ hr
  obtain ⟨ca, cc, e1, -⟩ := (h.book b r hr).1
  have hcl := (h.book b r hr).2.2.1
  rw [e1] at g0
  have hfew := h.few
  have hbl' : (b : Int) < (rs.length : Int) := by omega
  have HB0 : Hid (_) := hbel0
  clear h hc e1 hbel0 g1 g2 c1
  by_cases h0 : k < 0
  · go_enter Try.func29, Try.ntmps29
    go_wp2_with fail
    go_ret
    exact ⟨rfl, HB0.out⟩
  · have h1 : ¬ k < (r.cells.length : Int) := fun e => hk ⟨by omega, e⟩
    have h2 : (r.cells.length : Int) ≤ k := by omega
    clear hk
    go_enter Try.func29, Try.ntmps29
    go_wp2_with fail
    go_ret
    exact ⟨rfl, HB0.out⟩
set_option maxRecDepth 100000 in
set_option maxHeartbeats 4000000 in
theorem rset_yes (h : Fam base w fB rs nx) (hnx : nx ≤ 100000) (hB : base ≤ w.heap.size) {b : Nat} {r : Rb} (hr : rs[b]? = some r) (k : Nat) (hk : k < r.cells.length) (hp : k / 8 ≤ r.pgs.length) (hlt : r.pgs.length < 1000) {vK vV : Value} {c : Cl} (hc : Parts base w vK vV c) :
    Calls Try.prog 29 #[.pointer (some ⟨fB, 0, none⟩), .int .i64 (b : Int), .int .i64 (k : Int), .agg #[.int .i64 c.kind, .int .i64 c.a, .int .i64 c.b, vK, vV]] w fun e w' => e = .returned (.int .i64 0) ∧
      ∃ r1 nx1 v1, OwnD rs b r (k / 8) nx r1 nx1 ∧ Fam base w' fB (rs.set b (withC r1 (r.cells.set k c) v1)) nx1 ∧ Keep [58, 55] base w w' := by
  obtain ⟨aK, kK, rfl, -⟩ := hc.1
  obtain ⟨aV, kV, rfl, -⟩ := hc.2.1
  have hbel0 : Below w.heap.size w (w.alloc (.cells #[.int .i64 c.kind, .int .i64 c.a, .int .i64 c.b, .slice aK c.keys.length kK, .slice aV c.vals.length kV] 30)) := (Below.refl _ _).alloc (Nat.le_refl _) _
  have hk0 := keepB hB hbel0
  have h0 := h.keep hk0 (by simp)
  have hx0 := heap_alloc_new w (.cells #[.int .i64 c.kind, .int .i64 c.a, .int .i64 c.b, .slice aK c.keys.length kK, .slice aV c.vals.length kV] 30)
  have HC0 : Hid (Parts base _ (.slice aK c.keys.length kK) (.slice aV c.vals.length kV) c) := hc.keep hk0 (by simp)
  have hB0 : base ≤ (w.alloc (.cells #[.int .i64 c.kind, .int .i64 c.a, .int .i64 c.b, .slice aK c.keys.length kK, .slice aV c.vals.length kV] 30)).heap.size := Nat.le_trans hB hk0.size
  obtain ⟨g, cap, c0, c1, lf, fz1, fz0, hbl, hcap, -, hgl, g0, g1, g2, -, -, -⟩ := h0.at_ hr
  obtain ⟨ca, cc, e1, -⟩ := (h0.book b r hr).1
  have hcl := (h0.book b r hr).2.2.1
  rw [e1] at g0
  have hfew := h.few
  have hbl' : (b : Int) < (rs.length : Int) := by omega
  have hk8 : (k : Int) / 8 = ((k / 8 : Nat) : Int) := by omega
  have HO : Hid (_) := own_any h0 hnx hB0 hr hp hlt (P := (k : Int) / 8) hk8.symm
  have HX0 : Hid (_) := hx0
  have HK0 : Hid (_) := hk0
  have HR : Hid (rs[b]? = some r) := hr
  have HE : Hid (r.vC = .slice ca r.cells.length cc) := e1
  have hkl : (k : Int) < (r.cells.length : Int) := by omega
  clear h h0 hc e1 hbel0 g1 g2 c1 hx0 hk0 hk8 hr hp
  generalize hWW : w.alloc (.cells #[.int .i64 c.kind, .int .i64 c.a, .int .i64 c.b, .slice aK c.keys.length kK, .slice aV c.vals.length kV] 30) = W0 at *
  have hl0 : w.heap.size < W0.heap.size := heap_lt HX0.out
  go_enter Try.func29, Try.ntmps29
  go_upto_region 1 with fail
  try rw [hWW]
  clear hWW
  go_wp2_with fail
  refine Calls.mono HO.out ?_
  rintro e W1 ⟨rfl, r1, nx1, HOD, HF1, HK1⟩
  clear c0 lf fz1 fz0 hgl g0
  have HX1 : Hid (W1.heap[w.heap.size]? = _) := (HK1.out.same _ _ _ _ HX0.out (by simp)).trans HX0.out
  have hB1 := Nat.le_trans hB0 HK1.out.size
  have hr1 := rset_same (r1 := r1) HR.out
  obtain ⟨g', cap', c0, c1, lf, fz1, fz0, -, hcap', -, hgl, g0, g1, g2, hfzg, -, -⟩ := HF1.out.at_ hr1
  have hI := (HF1.out.book b r1 hr1).1
  rw [HOD.out.vC, HE.out] at g0 hI
  rw [HOD.out.cells] at hI
  rw [List.length_set] at c0
  obtain ⟨ra, rcap, W2, xs, hrun, hown, hlst, hxl, hbel2⟩ := hI.copy (by omega) hB1 22
  have HRU : Hid (_) := hrun
  go_upto_region 5 with (at_builtin; refine wpList_append_run _ _ 22 rfl rfl _ _ _ _ rfl rfl HRU.out ?_)
  have hLpos : r.cells.length ≠ 0 := by omega
  obtain ⟨ag, hra, hagB, ⟨acur, hah, hasz⟩⟩ : ∃ ag, ra = some ⟨ag, 0, none⟩ ∧ W1.heap.size ≤ ag ∧ (∃ cur, W2.heap[ag]? = some (.cells cur 30 (0, 0)) ∧ r.cells.length * 5 ≤ cur.size) := by
    rcases hown.2 with ⟨e, e'⟩ | ⟨ag, cc, cur, e, e1, e2, e3, e4, e5, e6⟩
    · omega
    · injection e with e _ _
      refine ⟨ag, e, e1, cur, e2, ?_⟩
      have := congrArg List.length e6
      rw [List.length_take, hxl] at this
      simp at this
      omega
  subst hra
  have hfa : ∀ o, W2.frozen? ⟨ag, o, none⟩ = false := fun o => by simp [World.frozen?, hah]
  have hla := heap_lt hah
  have hcx : ∀ o, o < r.cells.length * 5 → ∃ u, W2.cell? ⟨ag, o, none⟩ = some u := fun o ho => ⟨_, by rw [cellsOf hah]; exact Array.getElem?_eq_getElem (by omega)⟩
  obtain ⟨u0, q0⟩ := hcx (k * 5) (by omega)
  obtain ⟨u1, q1⟩ := hcx (k * 5 + 1) (by omega)
  obtain ⟨u2, q2⟩ := hcx (k * 5 + 2) (by omega)
  obtain ⟨u3, q3⟩ := hcx (k * 5 + 3) (by omega)
  obtain ⟨u4, q4⟩ := hcx (k * 5 + 4) (by omega)
  have hX2 := (hbel2.block _ (heap_lt HX1.out)).trans HX1.out
  obtain ⟨x0, x1, x2, x3, x4, -, -, -, -, -, lx⟩ := blk5 hX2
  have HB2 : Hid (Below W1.heap.size W1 W2) := hbel2
  have HOW : Hid (_) := hown
  have HLS : Hid (Lst base W1 xs r.cells) := hlst
  have HXL : Hid (_) := hxl
  have HAG : Hid (W1.heap.size ≤ ag) := hagB
  clear hrun hbel2 hown hlst hxl hagB hcx hah hasz hX2 hI HRU HX1 HX0 c0 c1 lf fz1 fz0 hgl g0 g1 g2 hfzg
  go_upto_region 6 with fail
  have hbel3 := ((((HB2.out.setCell (p := ⟨ag, k * 5, none⟩) HAG.out (.int .i64 c.kind)).setCell (p := ⟨ag, k * 5 + 1, none⟩) HAG.out (.int .i64 c.a)).setCell (p := ⟨ag, k * 5 + 2, none⟩) HAG.out (.int .i64 c.b)).setCell (p := ⟨ag, k * 5 + 3, none⟩) HAG.out (.slice aK c.keys.length kK)).setCell (p := ⟨ag, k * 5 + 4, none⟩) HAG.out (.slice aV c.vals.length kV)
  have hown3 := own_putn (j := k * 5 + 4) (own_putn (j := k * 5 + 3) (own_putn (j := k * 5 + 2) (own_putn (j := k * 5 + 1) (own_putn (j := k * 5) HOW.out (.int .i64 c.kind)) (.int .i64 c.a)) (.int .i64 c.b)) (.slice aK c.keys.length kK)) (.slice aV c.vals.length kV)
  clear x0 x1 x2 x3 x4 lx q0 q1 q2 q3 q4 hfa hla HB2 HAG HOW
  generalize (((((W2.setCell ⟨ag, k * 5, none⟩ (.int .i64 c.kind)).setCell ⟨ag, k * 5 + 1, none⟩ (.int .i64 c.a)).setCell ⟨ag, k * 5 + 2, none⟩ (.int .i64 c.b)).setCell ⟨ag, k * 5 + 3, none⟩ (.slice aK c.keys.length kK)).setCell ⟨ag, k * 5 + 4, none⟩ (.slice aV c.vals.length kV)) = W3 at *
  have k3 := keepB hB1 hbel3
  have hf3 := HF1.out.keep k3 (by simp)
  have hpc := (HC0.out.keep HK1.out (by simp [Mine])).keep k3 (by simp)
  have hls := (HLS.out.keep k3 (by simp)).set HXL.out hk hpc
  have hcs : Cells base W3 (.slice (some ⟨ag, 0, none⟩) r.cells.length rcap) (r.cells.set k c) := Cells.own hown3 hls (by simp)
  obtain ⟨g4, cap4, c0, c1, lf, -, -, -, -, -, hgl, g0, g1, -, hfzg, -, -⟩ := hf3.at_ hr1
  have hb3 := hf3.book b r1 hr1
  have hput := hf3.put hr1 (r' := withC r1 (r.cells.set k c) (.slice (some ⟨ag, 0, none⟩) r.cells.length rcap)) c0 _ (rcells_C _ _ _ _ _ hr1) ⟨hcs, hb3.2.1, by unfold withC; simp; omega, hb3.2.2.2⟩
  rw [List.set_set] at hput
  rw [List.length_set] at c0
  have HPUT : Hid (_) := hput
  have HKK : Hid (Keep [58, 55] base w W3) := ((HK0.out.mono (by simp)).trans HK1.out).trans (k3.mono (by simp))
  rw [HOD.out.vC, HE.out] at g0
  clear hput hb3 hcs hls hpc hf3 k3 hown3 hbel3 HLS HXL HF1 HK0 HK1 HC0 hr1
  go_wp2_with fail
  go_ret
  exact ⟨rfl, r1, nx1, _, HOD.out, HPUT.out.1, HKK.out.trans (HPUT.out.2.mono (by simp))⟩
end
end Go.Proofs.Ytmipgpkeegggpaa.P
