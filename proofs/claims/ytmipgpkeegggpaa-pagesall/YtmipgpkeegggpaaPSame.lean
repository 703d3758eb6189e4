-- PROVED: 'SameTexts', 'SameVals', 'SameCell' of the reference at equal cells.
import Derived.Test.YtmipgpkeegggpaaPList
import Derived.BigRegion
namespace Go.Proofs.Ytmipgpkeegggpaa.P
open Go.RowKit
set_option linter.unusedVariables false
set_option maxRecDepth 100000 in
set_option maxHeartbeats 2000000 in
theorem texts_same {base : Nat} {w : World} {v1 v2 : Value} {L : List ByteArray} (h1 : Texts base w v1 L) (h2 : Texts base w v2 L) (hL : L.length ≤ 1000) :
    Calls Try.prog 51 #[v1, v2] w fun e w' => e = .returned (.bool true) ∧ Below w.heap.size w w' := by
  obtain ⟨ao, ca, rfl, -, h1⟩ := h1
  obtain ⟨bo, cb, rfl, -, h2⟩ := h2
  have HA : Hid (_) := h1
  have HB : Hid (_) := h2
  clear h1 h2
  generalize hn : L.length = n at hL ⊢
  have HN : Hid (L.length = n) := hn
  clear hn
  go_enter Try.func51, Try.ntmps51
  go_wp2_with fail
  go_loopw [5] (fun c wr => ∃ i : Nat, i ≤ n ∧ c = .int .i64 (i : Int) ∧ Hid (Below w.heap.size w wr)) (fun c _ => n - (intOf c).toNat)
  case atStart => exact ⟨0, by omega, rfl, Below.refl _ _⟩
  case round =>
    obtain ⟨i, hi, rfl, HBL⟩ := hrel
    by_cases hlt : i < n
    · have hlt' : (i : Int) < n := by omega
      have hiL : i < L.length := by rw [HN.out]; exact hlt
      obtain ⟨b1, o1, rfl, l1, c1⟩ := HA.out.resolve_left (by omega)
      obtain ⟨b2, o2, rfl, l2, c2⟩ := HB.out.resolve_left (by omega)
      have d0 := (HBL.out.cell (p := ⟨b1, o1 + i, none⟩) l1.lt).trans (c1 i hiL)
      have e0 := (HBL.out.cell (p := ⟨b2, o2 + i, none⟩) l2.lt).trans (c2 i hiL)
      clear c1 c2 HA HB l1 l2
      generalize L[i] = Y at *
      clear hiL HN
      go_wp2_with fail
      go_region
      go_wp2_with fail
      go_roundw
      case rel => exact ⟨i + 1, by omega, by go_num, HBL.out.drew⟩
      case measure => simp [intOf]; omega
    · have hlt' : ¬ (i : Int) < n := by omega
      go_wp2_with fail
      go_ret
      exact ⟨rfl, HBL.out⟩
set_option maxRecDepth 100000 in
set_option maxHeartbeats 2000000 in
theorem vals_same {base : Nat} {w : World} {v1 v2 : Value} {L : List Vl} (h1 : Vals base w v1 L) (h2 : Vals base w v2 L) (hL : L.length ≤ 1000) :
    Calls Try.prog 52 #[v1, v2] w fun e w' => e = .returned (.bool true) ∧ Below w.heap.size w w' := by
  obtain ⟨ao, ca, rfl, -, h1⟩ := h1
  obtain ⟨bo, cb, rfl, -, h2⟩ := h2
  have HA : Hid (_) := h1
  have HB : Hid (_) := h2
  clear h1 h2
  generalize hn : L.length = n at hL ⊢
  have HN : Hid (L.length = n) := hn
  clear hn
  go_enter Try.func52, Try.ntmps52
  go_wp2_with fail
  go_loopw [5] (fun c wr => ∃ i : Nat, i ≤ n ∧ c = .int .i64 (i : Int) ∧ Hid (Below w.heap.size w wr)) (fun c _ => n - (intOf c).toNat)
  case atStart => exact ⟨0, by omega, rfl, Below.refl _ _⟩
  case round =>
    obtain ⟨i, hi, rfl, HBL⟩ := hrel
    by_cases hlt : i < n
    · have hlt' : (i : Int) < n := by omega
      have hiL : i < L.length := by rw [HN.out]; exact hlt
      obtain ⟨b1, o1, rfl, l1, c1⟩ := HA.out.resolve_left (by omega)
      obtain ⟨b2, o2, rfl, l2, c2⟩ := HB.out.resolve_left (by omega)
      obtain ⟨d0, d1, d2⟩ := c1 i hiL
      obtain ⟨e0, e1, e2⟩ := c2 i hiL
      replace d0 := (HBL.out.cell (p := ⟨b1, o1 + i * 3, none⟩) l1.lt).trans d0
      replace d1 := (HBL.out.cell (p := ⟨b1, o1 + i * 3 + 1, none⟩) l1.lt).trans d1
      replace d2 := (HBL.out.cell (p := ⟨b1, o1 + i * 3 + 2, none⟩) l1.lt).trans d2
      replace e0 := (HBL.out.cell (p := ⟨b2, o2 + i * 3, none⟩) l2.lt).trans e0
      replace e1 := (HBL.out.cell (p := ⟨b2, o2 + i * 3 + 1, none⟩) l2.lt).trans e1
      replace e2 := (HBL.out.cell (p := ⟨b2, o2 + i * 3 + 2, none⟩) l2.lt).trans e2
      clear c1 c2 HA HB l1 l2
      generalize L[i].s = Y at *
      generalize L[i].kind = kd at *
      generalize L[i].n = nn at *
      clear hiL HN
      go_wp2_with fail
      go_region
      go_wp2_with fail
      go_roundw
      case rel => exact ⟨i + 1, by omega, by go_num, HBL.out.drew⟩
      case measure => simp [intOf]; omega
    · have hlt' : ¬ (i : Int) < n := by omega
      go_wp2_with fail
      go_ret
      exact ⟨rfl, HBL.out⟩
set_option maxRecDepth 100000 in
set_option maxHeartbeats 2000000 in
theorem cell_same {base : Nat} {w : World} (hB : base ≤ w.heap.size) {k1 v1 k2 v2 : Value} {c : Cl} (h1 : Parts base w k1 v1 c) (h2 : Parts base w k2 v2 c) :
    Calls Try.prog 38 #[.agg #[.int .i64 c.kind, .int .i64 c.a, .int .i64 c.b, k1, v1], .agg #[.int .i64 c.kind, .int .i64 c.a, .int .i64 c.b, k2, v2]] w fun e w' => e = .returned (.bool true) ∧ Below w.heap.size w w' := by
  obtain ⟨a1, ca1, e1, -⟩ := h1.1
  obtain ⟨a2, ca2, e2, -⟩ := h1.2.1
  obtain ⟨a3, ca3, e3, -⟩ := h2.1
  obtain ⟨a4, ca4, e4, -⟩ := h2.2.1
  subst e1 e2 e3 e4
  have HT : Hid (∀ W, Below w.heap.size w W → Calls Try.prog 51 #[.slice a1 c.keys.length ca1, .slice a3 c.keys.length ca3] W fun e w' => e = .returned (.bool true) ∧ Below W.heap.size W w') := fun W hW =>
    texts_same (h1.1.keep (keepB hB hW) (by simp)) (h2.1.keep (keepB hB hW) (by simp)) h1.2.2.1
  have HV : Hid (∀ W, Below w.heap.size w W → Calls Try.prog 52 #[.slice a2 c.vals.length ca2, .slice a4 c.vals.length ca4] W fun e w' => e = .returned (.bool true) ∧ Below W.heap.size W w') := fun W hW =>
    vals_same (h1.2.1.keep (keepB hB hW) (by simp)) (h2.2.1.keep (keepB hB hW) (by simp)) h1.2.2.2
  clear h1 h2
  generalize c.keys.length = nk at *
  generalize c.vals.length = nv at *
  generalize c.kind = kd at *
  generalize c.a = ca at *
  generalize c.b = cb at *
  have hx := two_first w (.cells #[.int .i64 kd, .int .i64 ca, .int .i64 cb, .slice a1 nk ca1, .slice a2 nv ca2] 30) (.cells #[.int .i64 kd, .int .i64 ca, .int .i64 cb, .slice a3 nk ca3, .slice a4 nv ca4] 30)
  have hy := two_second w (.cells #[.int .i64 kd, .int .i64 ca, .int .i64 cb, .slice a1 nk ca1, .slice a2 nv ca2] 30) (.cells #[.int .i64 kd, .int .i64 ca, .int .i64 cb, .slice a3 nk ca3, .slice a4 nv ca4] 30)
  have hb2 : Below w.heap.size w ((w.alloc (.cells #[.int .i64 kd, .int .i64 ca, .int .i64 cb, .slice a1 nk ca1, .slice a2 nv ca2] 30)).alloc (.cells #[.int .i64 kd, .int .i64 ca, .int .i64 cb, .slice a3 nk ca3, .slice a4 nv ca4] 30)) := ((Below.refl _ _).alloc (Nat.le_refl _) _).alloc (by simp) _
  have HT2 : Hid (_) := HT.out _ hb2
  have HXY : Hid (_) := And.intro hx hy
  have HB2 : Hid (_) := hb2
  clear HT hx hy hb2
  go_enter Try.func38, Try.ntmps38
  go_wp2_with fail
  refine Calls.mono HT2.out ?_
  rintro e w3 ⟨rfl, hb3⟩
  have x3 := (hb3.block _ (heap_lt HXY.out.1)).trans HXY.out.1
  have y3 := (hb3.block _ (heap_lt HXY.out.2)).trans HXY.out.2
  obtain ⟨x0, x1, x2, x3, x4, -, -, -, -, -, lx⟩ := blk5 x3
  obtain ⟨y0, y1, y2, y3, y4, -, -, -, -, -, ly⟩ := blk5 y3
  have hb4 := Below.chain HB2.out hb3 HB2.out.size
  have HV2 : Hid (_) := HV.out _ hb4
  have HB4 : Hid (_) := hb4
  clear HT2 HV HXY HB2 hb3 hb4
  go_wp2_with fail
  refine Calls.mono HV2.out ?_
  rintro e w5 ⟨rfl, hb5⟩
  have HB5 : Hid (_) := Below.chain HB4.out hb5 HB4.out.size
  clear hb5 HB4
  go_wp2_with fail
  go_ret
  exact ⟨rfl, HB5.out⟩
end Go.Proofs.Ytmipgpkeegggpaa.P
