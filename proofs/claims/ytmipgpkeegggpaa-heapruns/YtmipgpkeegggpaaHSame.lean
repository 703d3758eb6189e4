-- PROVED: SameCells of two rows; Cells of a heap (6.1).
import Derived.Test.YtmipgpkeegggpaaHCells
namespace Go.Proofs.Ytmipgpkeegggpaa.P
open Go.RowKit Hq
set_option linter.unusedVariables false
section
variable {base : Nat} {w w' : World} {v u : Value} {L : List Cl}
theorem OC.at_ (h : OC base w v L) {j : Nat} (hj : j < L.length) : ∃ g cap aK kK aV kV, v = .slice (some ⟨g, 0, none⟩) L.length cap ∧ g < w.heap.size ∧ w.cell? ⟨g, j * 5, none⟩ = some (.int .i64 L[j].kind) ∧ w.cell? ⟨g, j * 5 + 1, none⟩ = some (.int .i64 L[j].a) ∧ w.cell? ⟨g, j * 5 + 2, none⟩ = some (.int .i64 L[j].b) ∧ w.cell? ⟨g, j * 5 + 3, none⟩ = some (.slice aK L[j].keys.length kK) ∧ w.cell? ⟨g, j * 5 + 4, none⟩ = some (.slice aV L[j].vals.length kV) ∧ Parts base w (.slice aK L[j].keys.length kK) (.slice aV L[j].vals.length kV) L[j] := by
  obtain ⟨xs, ho, hL⟩ := h
  obtain ⟨g, cap, cur, rfl, e1, e2, e3, _⟩ := ho.2.resolve_left (fun h => by omega)
  have hcell : ∀ j u, xs[j]? = some u → w.cell? ⟨g, j, none⟩ = some u := fun j u hj => by
    have := ho.cells (g := g) rfl j u hj
    rw [Go.WideShapes.add_plain, Nat.zero_add] at this
    exact this
  obtain ⟨vK, vV, c0, c1, c2, c3, c4, c5⟩ := hL j hj
  obtain ⟨aK, kK, rfl, -⟩ := id c5.1
  obtain ⟨aV, kV, rfl, -⟩ := id c5.2.1
  exact ⟨g, cap, aK, kK, aV, kV, rfl, heap_lt e2, hcell _ _ c0, hcell _ _ c1, hcell _ _ c2, hcell _ _ c3, hcell _ _ c4, c5⟩
set_option maxRecDepth 100000 in
set_option maxHeartbeats 2000000 in
theorem sameCells (hB : base ≤ w.heap.size) (h1 : OC base w v L) (h2 : OC base w u L) (hl : L.length ≤ 5000) :
    Calls Try.prog 17 #[v, u] w fun e w' => e = .returned (.bool true) ∧ Below w.heap.size w w' := by
  have HI1 : Hid (OC base w v L) := h1
  have HI2 : Hid (OC base w u L) := h2
  obtain ⟨a1, c1, rfl⟩ := h1.form
  obtain ⟨a2, c2, rfl⟩ := h2.form
  have HZ : Hid (base ≤ w.heap.size) := hB
  clear h1 h2 hB
  go_enter Try.func17, Try.ntmps17
  go_wp2_with fail
  go_loopw [5] (fun i wr => ∃ t : Nat, i = .int .i64 (t : Int) ∧ t ≤ L.length ∧ Hid (Below w.heap.size w wr)) (fun i _ => L.length - (intOf i).toNat)
  case atStart => exact ⟨0, rfl, by omega, Below.refl _ _⟩
  case round =>
    obtain ⟨t, rfl, ht, HB⟩ := hrel
    by_cases hlt : t < L.length
    · have hlt' : (t : Int) < (L.length : Int) := by omega
      have kk : Keep [] base w wr := keepB HZ.out HB.out
      obtain ⟨g, cap, aK, kK, aV, kV, e, lg, x0, x1, x2, x3, x4, P1⟩ := (HI1.out.keep kk (by simp) (by simp)).at_ hlt
      obtain ⟨g', cap', aK', kK', aV', kV', e', lg', y0, y1, y2, y3, y4, P2⟩ := (HI2.out.keep kk (by simp) (by simp)).at_ hlt
      injection e with e1 _ e2
      injection e' with e1' _ e2'
      subst e1 e2 e1' e2'
      have HSC : Hid (∀ W, Below wr.heap.size wr W → Calls Try.prog 38 #[.agg #[.int .i64 L[t].kind, .int .i64 L[t].a, .int .i64 L[t].b, .slice aK L[t].keys.length kK, .slice aV L[t].vals.length kV], .agg #[.int .i64 L[t].kind, .int .i64 L[t].a, .int .i64 L[t].b, .slice aK' L[t].keys.length kK', .slice aV' L[t].vals.length kV']] W fun e w' => e = .returned (.bool true) ∧ Below W.heap.size W w') := fun W hW => by
        have k2 : Keep [] base wr W := keepB (Nat.le_trans HZ.out HB.out.size) hW
        exact cell_same (Nat.le_trans (Nat.le_trans HZ.out HB.out.size) hW.size) (P1.keep k2 (by simp)) (P2.keep k2 (by simp))
      clear P1 P2 kk
      generalize L[t] = c at *
      generalize c.keys.length = nk at *
      generalize c.vals.length = nv at *
      generalize c.kind = ckd at *
      generalize c.a = cca at *
      generalize c.b = ccb at *
      go_upto_region 6 with fail
      go_region_with (first | (go_at_call 38; refine Calls.mono (HSC.out _ (by first | exact Below.refl _ _ | exact (Below.refl _ _).drew | exact (Below.refl _ _).drew.drew | exact (Below.refl _ _).drew.drew.drew | exact (Below.refl _ _).drew.drew.drew.drew)) ?_; rintro e w7 ⟨rfl, hb7⟩))
      all_goals
        have HB7 : Hid (Below w.heap.size w w7) := Below.chain HB.out.drew hb7 HB.out.size
        clear hb7
        go_wp2_with fail
        go_roundw
        case rel => exact ⟨t + 1, by go_num, by omega, HB7⟩
        case measure => simp [intOf]; omega
    · have ht2 : t = L.length := by omega
      subst ht2
      go_wp2_with fail
      go_ret
      exact ⟨rfl, HB.out⟩
theorem makeC (W : World) (n : Nat) (hn : n ≤ 5000) (hB : base ≤ W.heap.size) : ∃ arr, (Instr.makeSlice 22 (.int .i64 (n : Int)) (.int .i64 (n : Int))).run Try.prog W = .ok (.slice (some ⟨W.heap.size, 0, none⟩) n n) (W.alloc (.cells arr 30)) ∧ OC base (W.alloc (.cells arr 30)) (.slice (some ⟨W.heap.size, 0, none⟩) n n) (List.replicate n Cl.zero) := by
  obtain ⟨i0, hi, hz0, hz1, hz2⟩ := info_parts infoCL
  have := run_make (P := Try.prog) W 22 30 i0 (.agg #[.int .i64 0, .int .i64 0, .int .i64 0, .slice none 0 0, .slice none 0 0]) Try.underlying22 hi hz0 .i64 .i64 n n (by omega) (by omega) (by rw [hz2]; omega) (by omega)
  rw [hz1] at this
  refine ⟨_, this, (madeCells #[.int .i64 0, .int .i64 0, .int .i64 0, .slice none 0 0, .slice none 0 0] (n * 5)).toList, ⟨by simp [size_madeCells], .inr ⟨_, n, _, by rw [List.length_replicate], hB, heap_alloc_new _ _, by rw [List.length_replicate]; exact Nat.le_refl _, by unfold maxLen; omega, size_madeCells _ _, ?_⟩⟩, fun j hj => ?_⟩
  · rw [List.length_replicate]
    exact List.take_of_length_le (by simp [size_madeCells])
  · rw [List.length_replicate] at hj
    have e : ∀ t, t < 5 → (madeCells #[Value.int .i64 0, .int .i64 0, .int .i64 0, .slice none 0 0, .slice none 0 0] (n * 5)).toList[j * 5 + t]? = some (#[Value.int .i64 0, .int .i64 0, .int .i64 0, .slice none 0 0, .slice none 0 0][t]!) := fun t ht => by
      have hlt : j * 5 + t < n * 5 := by omega
      simp only [madeCells, Array.getElem?_toList, Array.getElem?_map]
      rw [Array.getElem?_range]
      simp [hlt]
      rw [Nat.mod_eq_of_lt ht]
    rw [List.getElem_replicate]
    exact ⟨.slice none 0 0, .slice none 0 0, e 0 (by omega), e 1 (by omega), e 2 (by omega), e 3 (by omega), e 4 (by omega), Parts.nil _ _ _ _ _⟩
theorem fill_step {L : List Cl} {n j : Nat} (hn : L.length = n) (hj : j < n) : (L.take j ++ List.replicate (n - j) Cl.zero).set j (L[j]'(by omega)) = L.take (j + 1) ++ List.replicate (n - (j + 1)) Cl.zero := by
  rw [List.set_append_right _ _ (by rw [List.length_take]; omega), List.length_take, show j - min j L.length = 0 by omega, show n - j = (n - (j + 1)) + 1 by omega, List.replicate_succ, List.set_cons_zero, List.take_add_one, List.getElem?_eq_getElem (show j < L.length by omega), List.append_assoc]
  rfl
set_option maxRecDepth 100000 in
set_option maxHeartbeats 2000000 in
theorem hcells {bs : List Bk} (h : Sys base w bs) {i : Nat} {b : Bk} (hb : bs[i]? = some b) {H A : Nat} (hA : b.at_ = A) (hp : Hp w H A) (hn : L.length = b.len) (hc : ∀ k, k < b.len → b.slots[k]? = L[k]?) :
    Calls Try.prog 18 #[.pointer (some ⟨H, 0, none⟩)] w fun e w' => ∃ r, e = .returned r ∧ Hid (OC base w' r L) ∧ Hid (Below w.heap.size w w') := by
  subst hA
  have hle : L.length ≤ 4096 := by have := (h.ok i b hb).1; omega
  have HBO : Hid (_) := bookOf_any hp
  have HLE : Hid (_) := len_is h hb rfl (n := (L.length : Int)) (by rw [hn])
  obtain ⟨arr, hmk, hoc⟩ := makeC (base := base) w L.length (by omega) h.size
  have HOC : Hid (OC base (w.alloc (.cells arr 30)) (.slice (some ⟨w.heap.size, 0, none⟩) L.length L.length) (List.replicate L.length Cl.zero)) := hoc
  have HG : Hid (∀ (W : World) (k : Nat) (hk : k < L.length), Below w.heap.size w W → Calls Try.prog 36 #[.pointer (some ⟨b.at_, 0, none⟩), .int .i64 (k : Int)] W fun e w' => ∃ aK kK aV kV, e = .returned (.tuple #[.agg #[.int .i64 L[k].kind, .int .i64 L[k].a, .int .i64 L[k].b, .slice aK L[k].keys.length kK, .slice aV L[k].vals.length kV], .int .i64 0]) ∧ Hid (Parts base w' (.slice aK L[k].keys.length kK) (.slice aV L[k].vals.length kV) L[k]) ∧ Below W.heap.size W w') := fun W k hk hW =>
    get_at (h.below hW) hb k (by omega) (by rw [hc k (by omega), List.getElem?_eq_getElem hk])
  have HB1 : Hid (Below w.heap.size w (w.alloc (.cells arr 30))) := (Below.refl _ _).alloc (Nat.le_refl _) _
  have HSZ : Hid (base ≤ w.heap.size) := h.size
  clear h hb hp hoc hc hn
  generalize b.at_ = B at *
  go_enter Try.func18, Try.ntmps18
  go_wp2_with fail
  refine Calls.mono HBO.out ?_
  rintro e w1 ⟨rfl, rfl⟩
  go_wp2_with fail
  refine Calls.mono HLE.out ?_
  rintro e w1 ⟨rfl, rfl⟩
  go_upto_region 3 with fail
  generalize hq : w1.heap.size = q at *
  generalize w1.alloc (.cells arr 30) = w2 at *
  clear hmk HBO HLE
  go_wp2_with fail
  go_loopw [13] (fun i wr => ∃ j : Nat, i = .int .i64 (j : Int) ∧ j ≤ L.length ∧ Hid (OC base wr (.slice (some ⟨q, 0, none⟩) L.length L.length) (L.take j ++ List.replicate (L.length - j) Cl.zero)) ∧ Hid (Below q w1 wr)) (fun i _ => L.length - (intOf i).toNat)
  case atStart => exact ⟨0, rfl, by omega, by simpa using HOC, HB1⟩
  case round =>
    clear HOC HB1
    obtain ⟨j, rfl, hj, HO, HB⟩ := hrel
    by_cases hlt : j < L.length
    · have hlt' : (j : Int) < (L.length : Int) := by omega
      have HGj : Hid (_) := HG.out wr j hlt HB.out
      have HST : Hid (_) := fill_step (L := L) (n := L.length) rfl hlt
      clear HG
      go_wp2_with fail
      refine Calls.mono HGj.out ?_
      rintro e w4 ⟨aK, kK, aV, kV, rfl, HP4, hb4⟩
      have hqr : base ≤ wr.heap.size := by have h1 := HSZ.out; have h2 := HB.out.size; omega
      have hO4 := HO.out.keep (S := []) (keepB hqr hb4) (by simp) (by simp)
      have hlen : (L.take j ++ List.replicate (L.length - j) Cl.zero).length = L.length := by simp; omega
      obtain ⟨g, cap, e, hcap, lg, fz, cells, hO5, k5⟩ := hO4.set (i := j) (by omega) HP4.out
      rw [hlen] at e
      injection e with e1 e3 e4
      clear e3 e4
      injection e1 with e1
      injection e1 with e1 e3 e4
      clear e3 e4
      subst e1
      rw [HST.out] at hO5
      obtain ⟨u0, d0⟩ := cells 0 (by omega)
      obtain ⟨u1, d1⟩ := cells 1 (by omega)
      obtain ⟨u2, d2⟩ := cells 2 (by omega)
      obtain ⟨u3, d3⟩ := cells 3 (by omega)
      obtain ⟨u4, d4⟩ := cells 4 (by omega)
      rw [Nat.add_zero] at d0
      have z0 := fz (j * 5)
      have z1 := fz (j * 5 + 1)
      have z2 := fz (j * 5 + 2)
      have z3 := fz (j * 5 + 3)
      have z4 := fz (j * 5 + 4)
      have HO5 : Hid (OC base _ (.slice (some ⟨q, 0, none⟩) L.length L.length) (L.take (j + 1) ++ List.replicate (L.length - (j + 1)) Cl.zero)) := hO5
      have HB5 : Hid (Below q w1 (((((w4.setCell ⟨q, j * 5, none⟩ (.int .i64 L[j].kind)).setCell ⟨q, j * 5 + 1, none⟩ (.int .i64 L[j].a)).setCell ⟨q, j * 5 + 2, none⟩ (.int .i64 L[j].b)).setCell ⟨q, j * 5 + 3, none⟩ (.slice aK L[j].keys.length kK)).setCell ⟨q, j * 5 + 4, none⟩ (.slice aV L[j].vals.length kV))) := (((((HB.out.trans (hb4.mono (by have := HB.out.size; omega))).setCell (Nat.le_refl _) _).setCell (Nat.le_refl _) _).setCell (Nat.le_refl _) _).setCell (Nat.le_refl _) _).setCell (Nat.le_refl _) _
      clear hO5 hO4 k5 cells fz HP4 hb4 HO HB hlen hcap HGj HST HSZ hq hqr
      generalize L[j] = c at *
      generalize c.keys.length = nk at *
      generalize c.vals.length = nv at *
      go_wp2_with fail
      go_roundw
      case rel => exact ⟨j + 1, by go_num, by omega, HO5, HB5⟩
      case measure => simp [intOf]; omega
    · have hj2 : j = L.length := by omega
      subst hj2
      rw [Nat.sub_self, List.take_length] at HO
      go_wp2_with fail
      go_ret
      exact ⟨_, rfl, by simpa using HO, by rw [hq]; exact HB⟩
end
end Go.Proofs.Ytmipgpkeegggpaa.P
