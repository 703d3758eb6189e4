/- Texts: W8C. -/
import Derived.Test.YtkaacmghgobhmaaBn25
namespace Go.Proofs.Ytkaacmghgobhmaa.W8
open Go.RowKit
set_option linter.unusedVariables false
abbrev loopV : Array Value := #[.string ⟨#[98, 114, 101, 97, 107, 59, 10]⟩, .string ⟨#[99, 111, 110, 116, 105, 110, 117, 101, 10]⟩, .string ⟨#[105, 102, 32, 40, 97, 41, 32, 98, 114, 101, 97, 107, 59, 10]⟩]
theorem loop_at (r : Nat) (hr : r < 3) : ∃ s : ByteArray, (#[.string ⟨#[98, 114, 101, 97, 107, 59, 10]⟩, .string ⟨#[99, 111, 110, 116, 105, 110, 117, 101, 10]⟩, .string ⟨#[105, 102, 32, 40, 97, 41, 32, 98, 114, 101, 97, 107, 59, 10]⟩] : Array Value)[r]? = some (.string s) ∧ s.size ≤ 20 := lit_at (V := loopV) rfl (by decide +kernel) r hr
abbrev nobV : Array Value := #[.string ⟨#[110, 111, 98, 111, 100, 121]⟩, .string ⟨#[108, 97, 116, 101]⟩, .string ⟨#[107]⟩, .string ⟨#[120]⟩]
theorem nob_at (r : Nat) (hr : r < 4) : ∃ s : ByteArray, (#[.string ⟨#[110, 111, 98, 111, 100, 121]⟩, .string ⟨#[108, 97, 116, 101]⟩, .string ⟨#[107]⟩, .string ⟨#[120]⟩] : Array Value)[r]? = some (.string s) ∧ s.size ≤ 20 := lit_at (V := nobV) rfl (by decide +kernel) r hr
abbrev resV : Array Value := #[.string ⟨#[114, 101, 115, 111, 108, 118, 101]⟩, .string ⟨#[114, 101, 106, 101, 99, 116]⟩]
theorem res_at (r : Nat) (hr : r < 2) : ∃ s : ByteArray, (#[.string ⟨#[114, 101, 115, 111, 108, 118, 101]⟩, .string ⟨#[114, 101, 106, 101, 99, 116]⟩] : Array Value)[r]? = some (.string s) ∧ s.size ≤ 20 := lit_at (V := resV) rfl (by decide +kernel) r hr
section
variable {w0 W : World} {p n cap : Nat} {ad : Option Addr} {Z : List Nat}
set_option maxRecDepth 100000 in
set_option maxHeartbeats 4000000 in
theorem s_leaf (hst : St8 w0 p ad n cap Z) (h : Src8 w0 p ad n cap W) (b1 b2 b3 : Bool)
    (HE1 : Hid (∀ V, Hid (Src8 w0 p ad n cap V ∧ Fr p W V) → Calls Try.prog 30 #[.pointer (some ⟨p, 0, none⟩), .int .i64 1] V fun e w' => ∃ s : ByteArray, e = .returned (.string s) ∧ s.size ≤ 96 ∧ Hid (Src8 w0 p ad n cap w' ∧ Fr p W w') ∧ Hid (Fr p V w'))) :
    Calls Try.prog 19 #[.pointer (some ⟨p, 0, none⟩), .int .i64 0, .bool b1, .bool b2, .bool b3] W fun e w' => Tell w0 p ad n cap 120 W e w' := by
  have hpl := h.lt
  have hfew := hst.few
  obtain ⟨a, han, hX⟩ := h.box
  have c0 : W.cell? ⟨p, 0, none⟩ = some (.slice ad n cap) := by unfold World.cell?; rw [hX]; rfl
  have c1 : W.cell? ⟨p, 1, none⟩ = some (.int .i64 (a : Int)) := by unfold World.cell?; rw [hX]; rfl
  have HW : Hid (Src8 w0 p ad n cap W ∧ Fr p W W) := (show Src8 _ _ _ _ _ _ ∧ _ from ⟨h, Fr.refl p W⟩)
  clear hst h hX
  go_enter Try.func19, Try.ntmps19
  go_upto_region 1 with fail
  go_quiet (fail)
  have HSS : Hid (Src8 w0 p ad n cap (W.drewN nq) ∧ Fr p W (W.drewN nq)) := (show Src8 _ _ _ _ _ _ ∧ _ from ⟨HW.out.1.below (L.below_drewN _ _ nq), Fr.of (L.below_drewN _ _ nq)⟩)
  clear HW c0 c1 hpl
  generalize W.drewN nq = w2 at *
  go_wp2_with fail
  refine Calls.mono (HE1.out _ HSS) ?_
  rintro e wx ⟨x, rfl, hx, hSx, hfx⟩
  have g1 : ¬ 9223372036854775807 < 6 + x.size := by omega
  have g2 : ¬ 9223372036854775807 < 6 + x.size + 3 := by omega
  go_wp2_with fail
  go_ret
  exact ⟨_, rfl, by simp only [ByteArray.size_append', ByteArray.size_mk', List.size_toArray, List.length_cons, List.length_nil]; omega, fin8 (by repeat (first | (with_reducible assumption) | (with_reducible refine alloc8 ?_ _) | (with_reducible refine drew8 ?_)))⟩
set_option maxRecDepth 100000 in
set_option maxHeartbeats 400000000 in
theorem s_step (hst : St8 w0 p ad n cap Z) (h : Src8 w0 p ad n cap W) (b1 b2 b3 : Bool)
    (HE1 : Hid (∀ V, Hid (Src8 w0 p ad n cap V ∧ Fr p W V) → Calls Try.prog 30 #[.pointer (some ⟨p, 0, none⟩), .int .i64 1] V fun e w' => ∃ s : ByteArray, e = .returned (.string s) ∧ s.size ≤ 96 ∧ Hid (Src8 w0 p ad n cap w' ∧ Fr p W w') ∧ Hid (Fr p V w'))) (D M : Nat) (hD : D ≤ 10) (hM : M ≤ 200000) (hM2 : 120 ≤ M)
    (HE2 : Hid (∀ V, Hid (Src8 w0 p ad n cap V ∧ Fr p W V) → Calls Try.prog 30 #[.pointer (some ⟨p, 0, none⟩), .int .i64 2] V fun e w' => ∃ s : ByteArray, e = .returned (.string s) ∧ s.size ≤ 348 ∧ Hid (Src8 w0 p ad n cap w' ∧ Fr p W w') ∧ Hid (Fr p V w')))
    (HSS8 : Hid (∀ V c1 c2 c3, Hid (Src8 w0 p ad n cap V ∧ Fr p W V) → Calls Try.prog 19 #[.pointer (some ⟨p, 0, none⟩), .int .i64 (D : Int), .bool c1, .bool c2, .bool c3] V fun e w' => ∃ s : ByteArray, e = .returned (.string s) ∧ s.size ≤ M ∧ Hid (Src8 w0 p ad n cap w' ∧ Fr p W w') ∧ Hid (Fr p V w')))
    (HTK : Hid (∀ (m : Nat) V, 1 ≤ m → m ≤ 1000 → Hid (Src8 w0 p ad n cap V ∧ Fr p W V) → Calls Try.prog 31 #[.pointer (some ⟨p, 0, none⟩), .int .i64 (m : Int)] V fun e w' => ∃ r : Nat, e = .returned (.int .i64 (r : Int)) ∧ r < m ∧ Hid (Src8 w0 p ad n cap w' ∧ Fr p W w') ∧ Hid (Fr p V w')))
    (HDG : Hid (∀ (m : Nat) V, m ≤ 200 → Hid (Src8 w0 p ad n cap V ∧ Fr p W V) → Calls Try.prog 32 #[.int .i64 (m : Int)] V fun e w' => ∃ s : ByteArray, e = .returned (.string s) ∧ s.size ≤ 20 ∧ Hid (Src8 w0 p ad n cap w' ∧ Fr p W w') ∧ Hid (Fr p V w'))) :
    Calls Try.prog 19 #[.pointer (some ⟨p, 0, none⟩), .int .i64 ((D : Int) + 1), .bool b1, .bool b2, .bool b3] W fun e w' => Tell w0 p ad n cap (3 * M + 1000) W e w' := by
  have hd0 : ¬ (D : Int) + 1 ≤ 0 := by omega
  have hd1 : (D : Int) + 1 - 1 = D := by omega
  have hwr : IntKind.i64.wrap (D : Int) = D := by rw [IntKind.wrap_i64]; omega
  have hpl := h.lt
  have hfew := hst.few
  obtain ⟨a, han, hX⟩ := h.box
  have c0 : W.cell? ⟨p, 0, none⟩ = some (.slice ad n cap) := by unfold World.cell?; rw [hX]; rfl
  have c1 : W.cell? ⟨p, 1, none⟩ = some (.int .i64 (a : Int)) := by unfold World.cell?; rw [hX]; rfl
  have HW : Hid (Src8 w0 p ad n cap W ∧ Fr p W W) := (show Src8 _ _ _ _ _ _ ∧ _ from ⟨h, Fr.refl p W⟩)
  clear hst h hX
  go_enter Try.func19, Try.ntmps19
  by_cases ha : n ≤ a
  · have ha' : (n : Int) ≤ a := by omega
    go_upto_region 1 with fail
    go_quiet (fail)
    have HSS : Hid (Src8 w0 p ad n cap (W.drewN nq) ∧ Fr p W (W.drewN nq)) := (show Src8 _ _ _ _ _ _ ∧ _ from ⟨HW.out.1.below (L.below_drewN _ _ nq), Fr.of (L.below_drewN _ _ nq)⟩)
    clear HW c0 c1 hpl
    generalize W.drewN nq = w2 at *
    go_wp2_with fail
    refine Calls.mono (HE1.out _ HSS) ?_
    rintro e wx ⟨x, rfl, hx, hSx, hfx⟩
    have g1 : ¬ 9223372036854775807 < 6 + x.size := by omega
    have g2 : ¬ 9223372036854775807 < 6 + x.size + 3 := by omega
    go_wp2_with fail
    go_ret
    exact ⟨_, rfl, by simp only [ByteArray.size_append', ByteArray.size_mk', List.size_toArray, List.length_cons, List.length_nil]; omega, fin8 (by repeat (first | (with_reducible assumption) | (with_reducible refine alloc8 ?_ _) | (with_reducible refine drew8 ?_)))⟩
  · have ha' : ¬ (n : Int) ≤ a := by omega
    go_upto_region 1 with fail
    go_quiet (fail)
    have HSS : Hid (Src8 w0 p ad n cap (W.drewN nq) ∧ Fr p W (W.drewN nq)) := (show Src8 _ _ _ _ _ _ ∧ _ from ⟨HW.out.1.below (L.below_drewN _ _ nq), Fr.of (L.below_drewN _ _ nq)⟩)
    clear HW c0 c1 hpl
    generalize W.drewN nq = w2 at *
    go_wp2_with fail
    refine Calls.mono (HTK.out 26 _ (by omega) (by omega) HSS) ?_
    rintro e w3 ⟨t, rfl, ht, hS3, hf3⟩
    clear HSS hf3 han ha ha'
    have HSS : Hid (Src8 w0 p ad n cap w3 ∧ Fr p W w3) := hS3
    have HBP : Hid (w3.heap.size ≠ p) := (show w3.heap.size ≠ p from fun e => by have := HSS.out.1.lt; omega)
    clear hS3
    clear w2
    have ht26 : t = 0 ∨ t = 1 ∨ t = 2 ∨ t = 3 ∨ t = 4 ∨ t = 5 ∨ t = 6 ∨ t = 7 ∨ t = 8 ∨ t = 9 ∨ t = 10 ∨ t = 11 ∨ t = 12 ∨ t = 13 ∨ t = 14 ∨ t = 15 ∨ t = 16 ∨ t = 17 ∨ t = 18 ∨ t = 19 ∨ t = 20 ∨ t = 21 ∨ t = 22 ∨ t = 23 ∨ t = 24 ∨ t = 25 := by omega
    rcases ht26 with rfl | rfl | rfl | rfl | rfl | rfl | rfl | rfl | rfl | rfl | rfl | rfl | rfl | rfl | rfl | rfl | rfl | rfl | rfl | rfl | rfl | rfl | rfl | rfl | rfl | rfl
    · skip
      go_wp2_with fail
      refine Calls.mono (HE2.out _ HSS) ?_
      rintro e wx ⟨x, rfl, hx, hSx, hfx⟩
      have g1 : ¬ 9223372036854775807 < 6 + x.size := by omega
      have g2 : ¬ 9223372036854775807 < 6 + x.size + 2 := by omega
      go_wp2_with fail
      refine Calls.mono (HE1.out _ hSx) ?_
      rintro e wy ⟨y, rfl, hy, hSy, hfy⟩
      have g3 : ¬ 9223372036854775807 < 6 + x.size + 2 + y.size := by omega
      have g4 : ¬ 9223372036854775807 < 6 + x.size + 2 + y.size + 3 := by omega
      go_wp2_with fail
      go_ret
      exact ⟨_, rfl, by simp only [ByteArray.size_append', ByteArray.size_mk', List.size_toArray, List.length_cons, List.length_nil]; omega, fin8 (by repeat (first | (with_reducible assumption) | (with_reducible refine alloc8 ?_ _) | (with_reducible refine drew8 ?_)))⟩
    · skip
      go_wp2_with fail
      refine Calls.mono (HE2.out _ HSS) ?_
      rintro e wx ⟨x, rfl, hx, hSx, hfx⟩
      have g1 : ¬ 9223372036854775807 < 6 + x.size := by omega
      have g2 : ¬ 9223372036854775807 < 6 + x.size + 2 := by omega
      go_wp2_with fail
      refine Calls.mono (HE1.out _ hSx) ?_
      rintro e wy ⟨y, rfl, hy, hSy, hfy⟩
      have g3 : ¬ 9223372036854775807 < 6 + x.size + 2 + y.size := by omega
      have g4 : ¬ 9223372036854775807 < 6 + x.size + 2 + y.size + 3 := by omega
      go_wp2_with fail
      go_ret
      exact ⟨_, rfl, by simp only [ByteArray.size_append', ByteArray.size_mk', List.size_toArray, List.length_cons, List.length_nil]; omega, fin8 (by repeat (first | (with_reducible assumption) | (with_reducible refine alloc8 ?_ _) | (with_reducible refine drew8 ?_)))⟩
    · skip
      go_wp2_with fail
      refine Calls.mono (HE2.out _ HSS) ?_
      rintro e wx ⟨x, rfl, hx, hSx, hfx⟩
      have g1 : ¬ 9223372036854775807 < 4 + x.size := by omega
      have g2 : ¬ 9223372036854775807 < 4 + x.size + 1 := by omega
      go_wp2_with fail
      go_ret
      exact ⟨_, rfl, by simp only [ByteArray.size_append', ByteArray.size_mk', List.size_toArray, List.length_cons, List.length_nil]; omega, fin8 (by repeat (first | (with_reducible assumption) | (with_reducible refine alloc8 ?_ _) | (with_reducible refine drew8 ?_)))⟩
    · skip
      go_wp2_with fail
      refine Calls.mono (HE2.out _ HSS) ?_
      rintro e wx ⟨x, rfl, hx, hSx, hfx⟩
      have g1 : ¬ 9223372036854775807 < 4 + x.size := by omega
      have g2 : ¬ 9223372036854775807 < 4 + x.size + 4 := by omega
      go_wp2_with fail
      refine Calls.mono (HSS8.out _ _ _ _ hSx) ?_
      rintro e wy ⟨y, rfl, hy, hSy, hfy⟩
      have g3 : ¬ 9223372036854775807 < 4 + x.size + 4 + y.size := by omega
      have g4 : ¬ 9223372036854775807 < 4 + x.size + 4 + y.size + 9 := by omega
      go_wp2_with fail
      refine Calls.mono (HSS8.out _ _ _ _ hSy) ?_
      rintro e wz ⟨z, rfl, hz, hSz, hfz⟩
      have g5 : ¬ 9223372036854775807 < 4 + x.size + 4 + y.size + 9 + z.size := by omega
      have g6 : ¬ 9223372036854775807 < 4 + x.size + 4 + y.size + 9 + z.size + 2 := by omega
      go_wp2_with fail
      go_ret
      exact ⟨_, rfl, by simp only [ByteArray.size_append', ByteArray.size_mk', List.size_toArray, List.length_cons, List.length_nil]; omega, fin8 (by repeat (first | (with_reducible assumption) | (with_reducible refine alloc8 ?_ _) | (with_reducible refine drew8 ?_)))⟩
    · skip
      go_wp2_with fail
      refine Calls.mono (HTK.out 4 _ (by omega) (by omega) HSS) ?_
      rintro e wqu ⟨qu, rfl, hqu, hSqu, hfqu⟩
      go_wp2_with fail
      refine Calls.mono (HDG.out qu _ (by omega) hSqu) ?_
      rintro e wu ⟨u, rfl, hu, hSu, hfu⟩
      have g1 : ¬ 9223372036854775807 < 24 + u.size := by omega
      have g2 : ¬ 9223372036854775807 < 24 + u.size + 15 := by omega
      go_wp2_with fail
      refine Calls.mono (HSS8.out _ _ _ _ hSu) ?_
      rintro e wx ⟨x, rfl, hx, hSx, hfx⟩
      have g3 : ¬ 9223372036854775807 < 24 + u.size + 15 + x.size := by omega
      go_wp2_with fail
      refine Calls.mono (HSS8.out _ _ _ _ hSx) ?_
      rintro e wy ⟨y, rfl, hy, hSy, hfy⟩
      have g4 : ¬ 9223372036854775807 < 24 + u.size + 15 + x.size + y.size := by omega
      have g5 : ¬ 9223372036854775807 < 24 + u.size + 15 + x.size + y.size + 4 := by omega
      go_wp2_with fail
      go_ret
      exact ⟨_, rfl, by simp only [ByteArray.size_append', ByteArray.size_mk', List.size_toArray, List.length_cons, List.length_nil]; omega, fin8 (by repeat (first | (with_reducible assumption) | (with_reducible refine alloc8 ?_ _) | (with_reducible refine drew8 ?_)))⟩
    · skip
      go_wp2_with fail
      refine Calls.mono (HSS8.out _ _ _ _ HSS) ?_
      rintro e wx ⟨x, rfl, hx, hSx, hfx⟩
      have g1 : ¬ 9223372036854775807 < 6 + x.size := by omega
      have g2 : ¬ 9223372036854775807 < 6 + x.size + 6 := by omega
      go_wp2_with fail
      refine Calls.mono (HE1.out _ hSx) ?_
      rintro e wy ⟨y, rfl, hy, hSy, hfy⟩
      have g3 : ¬ 9223372036854775807 < 6 + x.size + 6 + y.size := by omega
      have g4 : ¬ 9223372036854775807 < 6 + x.size + 6 + y.size + 42 := by omega
      go_wp2_with fail
      refine Calls.mono (HSS8.out _ _ _ _ hSy) ?_
      rintro e wz ⟨z, rfl, hz, hSz, hfz⟩
      have g5 : ¬ 9223372036854775807 < 6 + x.size + 6 + y.size + 42 + z.size := by omega
      have g6 : ¬ 9223372036854775807 < 6 + x.size + 6 + y.size + 42 + z.size + 2 := by omega
      go_wp2_with fail
      go_ret
      exact ⟨_, rfl, by simp only [ByteArray.size_append', ByteArray.size_mk', List.size_toArray, List.length_cons, List.length_nil]; omega, fin8 (by repeat (first | (with_reducible assumption) | (with_reducible refine alloc8 ?_ _) | (with_reducible refine drew8 ?_)))⟩
    · skip
      go_wp2_with fail
      refine Calls.mono (HSS8.out _ _ _ _ HSS) ?_
      rintro e wx ⟨x, rfl, hx, hSx, hfx⟩
      have g1 : ¬ 9223372036854775807 < 6 + x.size := by omega
      go_wp2_with fail
      refine Calls.mono (HSS8.out _ _ _ _ hSx) ?_
      rintro e wy ⟨y, rfl, hy, hSy, hfy⟩
      have g2 : ¬ 9223372036854775807 < 6 + x.size + y.size := by omega
      have g3 : ¬ 9223372036854775807 < 6 + x.size + y.size + 31 := by omega
      go_wp2_with fail
      go_ret
      exact ⟨_, rfl, by simp only [ByteArray.size_append', ByteArray.size_mk', List.size_toArray, List.length_cons, List.length_nil]; omega, fin8 (by repeat (first | (with_reducible assumption) | (with_reducible refine alloc8 ?_ _) | (with_reducible refine drew8 ?_)))⟩
    · skip
      go_wp2_with fail
      refine Calls.mono (HE1.out _ HSS) ?_
      rintro e wx ⟨x, rfl, hx, hSx, hfx⟩
      have g1 : ¬ 9223372036854775807 < 10 + x.size := by omega
      have g2 : ¬ 9223372036854775807 < 10 + x.size + 15 := by omega
      go_wp2_with fail
      refine Calls.mono (HSS8.out _ _ _ _ hSx) ?_
      rintro e wy ⟨y, rfl, hy, hSy, hfy⟩
      have g3 : ¬ 9223372036854775807 < 10 + x.size + 15 + y.size := by omega
      have g4 : ¬ 9223372036854775807 < 10 + x.size + 15 + y.size + 12 := by omega
      go_wp2_with fail
      go_ret
      exact ⟨_, rfl, by simp only [ByteArray.size_append', ByteArray.size_mk', List.size_toArray, List.length_cons, List.length_nil]; omega, fin8 (by repeat (first | (with_reducible assumption) | (with_reducible refine alloc8 ?_ _) | (with_reducible refine drew8 ?_)))⟩
    · skip
      cases b1
      · skip
        go_wp2_with fail
        refine Calls.mono (HSS8.out _ _ _ _ HSS) ?_
        rintro e wx ⟨x, rfl, hx, hSx, hfx⟩
        have g1 : ¬ 9223372036854775807 < 19 + x.size := by omega
        have g2 : ¬ 9223372036854775807 < 19 + x.size + 13 := by omega
        go_wp2_with fail
        go_ret
        exact ⟨_, rfl, by simp only [ByteArray.size_append', ByteArray.size_mk', List.size_toArray, List.length_cons, List.length_nil]; omega, fin8 (by repeat (first | (with_reducible assumption) | (with_reducible refine alloc8 ?_ _) | (with_reducible refine drew8 ?_)))⟩
      · skip
        go_wp2_with fail
        refine Calls.mono (HTK.out 3 _ (by omega) (by omega) (alloc8 HSS _)) ?_
        rintro e wT ⟨r, rfl, hr, hST, hfT⟩
        obtain ⟨s, hs1, hs2⟩ := loop_at r hr
        obtain ⟨csT, hlT⟩ := lit_after hfT.out HBP.out hs1
        have hrr : (r : Int) < 3 := by omega
        have hr0 : (0 : Int) ≤ r := by omega
        go_wp2_with fail
        go_ret
        exact ⟨_, rfl, by omega, fin8 (by repeat (first | (with_reducible assumption) | (with_reducible refine alloc8 ?_ _) | (with_reducible refine drew8 ?_)))⟩
    · skip
      cases b3
      · skip
        go_wp2_with fail
        refine Calls.mono (HE1.out _ HSS) ?_
        rintro e wx ⟨x, rfl, hx, hSx, hfx⟩
        have g1 : ¬ 9223372036854775807 < 8 + x.size := by omega
        have g2 : ¬ 9223372036854775807 < 8 + x.size + 4 := by omega
        go_wp2_with fail
        go_ret
        exact ⟨_, rfl, by simp only [ByteArray.size_append', ByteArray.size_mk', List.size_toArray, List.length_cons, List.length_nil]; omega, fin8 (by repeat (first | (with_reducible assumption) | (with_reducible refine alloc8 ?_ _) | (with_reducible refine drew8 ?_)))⟩
      · skip
        go_wp2_with fail
        refine Calls.mono (HE1.out _ HSS) ?_
        rintro e wx ⟨x, rfl, hx, hSx, hfx⟩
        have g1 : ¬ 9223372036854775807 < 19 + x.size := by omega
        have g2 : ¬ 9223372036854775807 < 19 + x.size + 3 := by omega
        go_wp2_with fail
        go_ret
        exact ⟨_, rfl, by simp only [ByteArray.size_append', ByteArray.size_mk', List.size_toArray, List.length_cons, List.length_nil]; omega, fin8 (by repeat (first | (with_reducible assumption) | (with_reducible refine alloc8 ?_ _) | (with_reducible refine drew8 ?_)))⟩
    · skip
      cases b2
      · skip
        go_wp2_with fail
        refine Calls.mono (HE1.out _ HSS) ?_
        rintro e wx ⟨x, rfl, hx, hSx, hfx⟩
        have g1 : ¬ 9223372036854775807 < 6 + x.size := by omega
        have g2 : ¬ 9223372036854775807 < 6 + x.size + 2 := by omega
        go_wp2_with fail
        go_ret
        exact ⟨_, rfl, by simp only [ByteArray.size_append', ByteArray.size_mk', List.size_toArray, List.length_cons, List.length_nil]; omega, fin8 (by repeat (first | (with_reducible assumption) | (with_reducible refine alloc8 ?_ _) | (with_reducible refine drew8 ?_)))⟩
      · skip
        go_wp2_with fail
        refine Calls.mono (HE1.out _ HSS) ?_
        rintro e wx ⟨x, rfl, hx, hSx, hfx⟩
        have g1 : ¬ 9223372036854775807 < 7 + x.size := by omega
        have g2 : ¬ 9223372036854775807 < 7 + x.size + 2 := by omega
        go_wp2_with fail
        go_ret
        exact ⟨_, rfl, by simp only [ByteArray.size_append', ByteArray.size_mk', List.size_toArray, List.length_cons, List.length_nil]; omega, fin8 (by repeat (first | (with_reducible assumption) | (with_reducible refine alloc8 ?_ _) | (with_reducible refine drew8 ?_)))⟩
    · skip
      go_wp2_with fail
      refine Calls.mono (HTK.out 4 _ (by omega) (by omega) HSS) ?_
      rintro e wqu ⟨qu, rfl, hqu, hSqu, hfqu⟩
      go_wp2_with fail
      refine Calls.mono (HDG.out qu _ (by omega) hSqu) ?_
      rintro e wu ⟨u, rfl, hu, hSu, hfu⟩
      have g1 : ¬ 9223372036854775807 < 13 + u.size := by omega
      have g2 : ¬ 9223372036854775807 < 13 + u.size + 68 := by omega
      go_wp2_with fail
      refine Calls.mono (HE1.out _ hSu) ?_
      rintro e wx ⟨x, rfl, hx, hSx, hfx⟩
      have g3 : ¬ 9223372036854775807 < 13 + u.size + 68 + x.size := by omega
      have g4 : ¬ 9223372036854775807 < 13 + u.size + 68 + x.size + 23 := by omega
      go_wp2_with fail
      go_ret
      exact ⟨_, rfl, by simp only [ByteArray.size_append', ByteArray.size_mk', List.size_toArray, List.length_cons, List.length_nil]; omega, fin8 (by repeat (first | (with_reducible assumption) | (with_reducible refine alloc8 ?_ _) | (with_reducible refine drew8 ?_)))⟩
    · skip
      go_wp2_with fail
      refine Calls.mono (HSS8.out _ _ _ _ HSS) ?_
      rintro e wx ⟨x, rfl, hx, hSx, hfx⟩
      have g1 : ¬ 9223372036854775807 < 27 + x.size := by omega
      have g2 : ¬ 9223372036854775807 < 27 + x.size + 9 := by omega
      go_wp2_with fail
      refine Calls.mono (HSS8.out _ _ _ _ hSx) ?_
      rintro e wy ⟨y, rfl, hy, hSy, hfy⟩
      have g3 : ¬ 9223372036854775807 < 27 + x.size + 9 + y.size := by omega
      have g4 : ¬ 9223372036854775807 < 27 + x.size + 9 + y.size + 124 := by omega
      go_wp2_with fail
      go_ret
      exact ⟨_, rfl, by simp only [ByteArray.size_append', ByteArray.size_mk', List.size_toArray, List.length_cons, List.length_nil]; omega, fin8 (by repeat (first | (with_reducible assumption) | (with_reducible refine alloc8 ?_ _) | (with_reducible refine drew8 ?_)))⟩
    · skip
      go_wp2_with fail
      refine Calls.mono (HSS8.out _ _ _ _ HSS) ?_
      rintro e wx ⟨x, rfl, hx, hSx, hfx⟩
      have g1 : ¬ 9223372036854775807 < 25 + x.size := by omega
      have g2 : ¬ 9223372036854775807 < 25 + x.size + 3 := by omega
      go_wp2_with fail
      refine Calls.mono (HTK.out 9 _ (by omega) (by omega) hSx) ?_
      rintro e wqu ⟨qu, rfl, hqu, hSqu, hfqu⟩
      go_wp2_with fail
      refine Calls.mono (HDG.out qu _ (by omega) hSqu) ?_
      rintro e wu ⟨u, rfl, hu, hSu, hfu⟩
      have g3 : ¬ 9223372036854775807 < 25 + x.size + 3 + u.size := by omega
      have g4 : ¬ 9223372036854775807 < 25 + x.size + 3 + u.size + 3 := by omega
      go_wp2_with fail
      go_ret
      exact ⟨_, rfl, by simp only [ByteArray.size_append', ByteArray.size_mk', List.size_toArray, List.length_cons, List.length_nil]; omega, fin8 (by repeat (first | (with_reducible assumption) | (with_reducible refine alloc8 ?_ _) | (with_reducible refine drew8 ?_)))⟩
    · skip
      go_upto_region 42 with fail
      go_region_with (first | (go_at_call 19; refine Calls.mono (HSS8.out _ _ _ _ (by repeat (first | (with_reducible assumption) | (with_reducible refine alloc8 ?_ _) | (with_reducible refine drew8 ?_)))) ?_; rintro e wX ⟨x, rfl, hx, hSX, hfX⟩; have g1 : ¬ 9223372036854775807 < 61 + x.size := (by omega); have g2 : ¬ 9223372036854775807 < 61 + x.size + 91 := (by omega); skip) | (go_at_call 31; refine Calls.mono (HTK.out 2 _ (by omega) (by omega) (by repeat (first | (with_reducible assumption) | (with_reducible refine alloc8 ?_ _) | (with_reducible refine drew8 ?_)))) ?_; rintro e wT ⟨r, rfl, hr, hST, hfT⟩; obtain ⟨s, hs1, hs2⟩ := res_at r hr; have hlit := fun X : World => alloc_lit X (t := 9) hs1; have hrr : (r : Int) < 2 := (by omega); have hr0 : (0 : Int) ≤ r := (by omega); have hTP : wT.heap.size ≠ p := (fun e => by have := hST.out.1.lt; omega); have g3 : ¬ 9223372036854775807 < 61 + x.size + 91 + s.size := (by omega); have g4 : ¬ 9223372036854775807 < 61 + x.size + 91 + s.size + 1 := (by omega); have hXP : wX.heap.size ≠ p := (fun e => by have := hSX.out.1.lt; omega); first | (obtain ⟨csT, hlT⟩ := lit_after hfT.out hXP hs1) | (obtain ⟨csT, hlT⟩ := lit_after (Fr.trans hfX.out hfT.out) HBP.out hs1) | skip) | (go_at_call 30; refine Calls.mono (HE1.out _ (by repeat (first | (with_reducible assumption) | (with_reducible refine alloc8 ?_ _) | (with_reducible refine drew8 ?_)))) ?_; rintro e wE ⟨y, rfl, hy, hSE, hfE⟩; have g5 : ¬ 9223372036854775807 < 61 + x.size + 91 + s.size + 1 + y.size := (by omega); have g6 : ¬ 9223372036854775807 < 61 + x.size + 91 + s.size + 1 + y.size + 5 := (by omega); first | (have csE := (hfE.out.cell hlT hXP).trans csT) | (have csE := (hfE.out.cell hlT HBP.out).trans csT) | (obtain ⟨csE, hlE⟩ := lit_after hfE.out hTP hs1) | skip))
      all_goals
        go_wp2_with fail
        go_ret
        exact ⟨_, rfl, by simp only [ByteArray.size_append', ByteArray.size_mk', List.size_toArray, List.length_cons, List.length_nil]; omega, fin8 (by repeat (first | (with_reducible assumption) | (with_reducible refine alloc8 ?_ _) | (with_reducible refine drew8 ?_)))⟩
    · skip
      go_wp2_with fail
      refine Calls.mono (HE1.out _ HSS) ?_
      rintro e wx ⟨x, rfl, hx, hSx, hfx⟩
      have g1 : ¬ 9223372036854775807 < 9 + x.size := by omega
      have g2 : ¬ 9223372036854775807 < 9 + x.size + 101 := by omega
      go_wp2_with fail
      go_ret
      exact ⟨_, rfl, by simp only [ByteArray.size_append', ByteArray.size_mk', List.size_toArray, List.length_cons, List.length_nil]; omega, fin8 (by repeat (first | (with_reducible assumption) | (with_reducible refine alloc8 ?_ _) | (with_reducible refine drew8 ?_)))⟩
    · skip
      go_wp2_with fail
      refine Calls.mono (HSS8.out _ _ _ _ HSS) ?_
      rintro e wx ⟨x, rfl, hx, hSx, hfx⟩
      have g1 : ¬ 9223372036854775807 < 60 + x.size := by omega
      have g2 : ¬ 9223372036854775807 < 60 + x.size + 4 := by omega
      go_wp2_with fail
      go_ret
      exact ⟨_, rfl, by simp only [ByteArray.size_append', ByteArray.size_mk', List.size_toArray, List.length_cons, List.length_nil]; omega, fin8 (by repeat (first | (with_reducible assumption) | (with_reducible refine alloc8 ?_ _) | (with_reducible refine drew8 ?_)))⟩
    · skip
      go_wp2_with fail
      refine Calls.mono (HSS8.out _ _ _ _ HSS) ?_
      rintro e wx ⟨x, rfl, hx, hSx, hfx⟩
      have g1 : ¬ 9223372036854775807 < 37 + x.size := by omega
      have g2 : ¬ 9223372036854775807 < 37 + x.size + 4 := by omega
      go_wp2_with fail
      go_ret
      exact ⟨_, rfl, by simp only [ByteArray.size_append', ByteArray.size_mk', List.size_toArray, List.length_cons, List.length_nil]; omega, fin8 (by repeat (first | (with_reducible assumption) | (with_reducible refine alloc8 ?_ _) | (with_reducible refine drew8 ?_)))⟩
    · skip
      go_wp2_with fail
      go_ret
      exact ⟨_, rfl, Nat.le_trans (show _ ≤ 400 from by decide) (by omega), fin8 (by repeat (first | (with_reducible assumption) | (with_reducible refine alloc8 ?_ _) | (with_reducible refine drew8 ?_)))⟩
    · skip
      go_wp2_with fail
      refine Calls.mono (HTK.out 9 _ (by omega) (by omega) HSS) ?_
      rintro e wqu ⟨qu, rfl, hqu, hSqu, hfqu⟩
      go_wp2_with fail
      refine Calls.mono (HDG.out qu _ (by omega) hSqu) ?_
      rintro e wu ⟨u, rfl, hu, hSu, hfu⟩
      have g1 : ¬ 9223372036854775807 < 70 + u.size := by omega
      have g2 : ¬ 9223372036854775807 < 70 + u.size + 6 := by omega
      go_wp2_with fail
      go_ret
      exact ⟨_, rfl, by simp only [ByteArray.size_append', ByteArray.size_mk', List.size_toArray, List.length_cons, List.length_nil]; omega, fin8 (by repeat (first | (with_reducible assumption) | (with_reducible refine alloc8 ?_ _) | (with_reducible refine drew8 ?_)))⟩
    · skip
      go_wp2_with fail
      refine Calls.mono (HE1.out _ HSS) ?_
      rintro e wx ⟨x, rfl, hx, hSx, hfx⟩
      have g1 : ¬ 9223372036854775807 < 21 + x.size := by omega
      have g2 : ¬ 9223372036854775807 < 21 + x.size + 29 := by omega
      go_wp2_with fail
      go_ret
      exact ⟨_, rfl, by simp only [ByteArray.size_append', ByteArray.size_mk', List.size_toArray, List.length_cons, List.length_nil]; omega, fin8 (by repeat (first | (with_reducible assumption) | (with_reducible refine alloc8 ?_ _) | (with_reducible refine drew8 ?_)))⟩
    · skip
      go_wp2_with fail
      go_ret
      exact ⟨_, rfl, Nat.le_trans (show _ ≤ 400 from by decide) (by omega), fin8 (by repeat (first | (with_reducible assumption) | (with_reducible refine alloc8 ?_ _) | (with_reducible refine drew8 ?_)))⟩
    · skip
      obtain ⟨a3, ha3, hX3⟩ := HSS.out.1.box
      have d1 : w3.cell? ⟨p, 1, none⟩ = some (.int .i64 (a3 : Int)) := by unfold World.cell?; rw [hX3]; rfl
      have hpl3 : p < w3.heap.size := lt8 hX3
      clear hX3
      go_upto_region 58 with fail
      go_region_with (first | (go_at_call 32; have hchk := hu; refine Calls.mono (HDG.out _ _ (by omega) (by repeat (first | (with_reducible assumption) | (with_reducible refine alloc8 ?_ _) | (with_reducible refine drew8 ?_)))) ?_; rintro e wV ⟨v, rfl, hv, hSV, hfV⟩; have g3 : ¬ 9223372036854775807 < 13 + u.size + 37 + v.size := (by omega); have g4 : ¬ 9223372036854775807 < 13 + u.size + 37 + v.size + 4 := (by omega); skip) | (go_at_call 32; refine Calls.mono (HDG.out _ _ (by omega) (by repeat (first | (with_reducible assumption) | (with_reducible refine alloc8 ?_ _) | (with_reducible refine drew8 ?_)))) ?_; rintro e wU ⟨u, rfl, hu, hSU, hfU⟩; have g1 : ¬ 9223372036854775807 < 13 + u.size := (by omega); have g2 : ¬ 9223372036854775807 < 13 + u.size + 37 := (by omega); obtain ⟨aU, haU, hXU⟩ := hSU.out.1.box; have dU : wU.cell? ⟨p, 1, none⟩ = some (.int .i64 (aU : Int)) := (by unfold World.cell?; rw [hXU]; rfl); have hplU : p < wU.heap.size := lt8 hXU; clear hXU) | (go_at_call 30; refine Calls.mono (HE1.out _ (by repeat (first | (with_reducible assumption) | (with_reducible refine alloc8 ?_ _) | (with_reducible refine drew8 ?_)))) ?_; rintro e wE ⟨y, rfl, hy, hSE, hfE⟩; have g5 : ¬ 9223372036854775807 < 13 + u.size + 37 + v.size + 4 + y.size := (by omega); have g6 : ¬ 9223372036854775807 < 13 + u.size + 37 + v.size + 4 + y.size + 4 := (by omega); skip))
      all_goals
        go_wp2_with fail
        go_ret
        exact ⟨_, rfl, by simp only [ByteArray.size_append', ByteArray.size_mk', List.size_toArray, List.length_cons, List.length_nil]; omega, fin8 (by repeat (first | (with_reducible assumption) | (with_reducible refine alloc8 ?_ _) | (with_reducible refine drew8 ?_)))⟩
    · skip
      go_wp2_with fail
      refine Calls.mono (HTK.out 4 _ (by omega) (by omega) (alloc8 HSS _)) ?_
      rintro e wT ⟨r, rfl, hr, hST, hfT⟩
      obtain ⟨s, hs1, hs2⟩ := nob_at r hr
      obtain ⟨csT, hlT⟩ := lit_after hfT.out HBP.out hs1
      have hrr : (r : Int) < 4 := by omega
      have hr0 : (0 : Int) ≤ r := by omega
      have g1 : ¬ 9223372036854775807 < 6 + s.size := by omega
      have g2 : ¬ 9223372036854775807 < 6 + s.size + 3 := by omega
      go_wp2_with fail
      go_ret
      exact ⟨_, rfl, by simp only [ByteArray.size_append', ByteArray.size_mk', List.size_toArray, List.length_cons, List.length_nil]; omega, fin8 (by repeat (first | (with_reducible assumption) | (with_reducible refine alloc8 ?_ _) | (with_reducible refine drew8 ?_)))⟩
    · skip
      go_wp2_with fail
      go_ret
      exact ⟨_, rfl, Nat.le_trans (show _ ≤ 400 from by decide) (by omega), fin8 (by repeat (first | (with_reducible assumption) | (with_reducible refine alloc8 ?_ _) | (with_reducible refine drew8 ?_)))⟩
    · skip
      go_wp2_with fail
      refine Calls.mono (HE2.out _ HSS) ?_
      rintro e wx ⟨x, rfl, hx, hSx, hfx⟩
      have g1 : ¬ 9223372036854775807 < 4 + x.size := by omega
      have g2 : ¬ 9223372036854775807 < 4 + x.size + 2 := by omega
      go_wp2_with fail
      go_ret
      exact ⟨_, rfl, by simp only [ByteArray.size_append', ByteArray.size_mk', List.size_toArray, List.length_cons, List.length_nil]; omega, fin8 (by repeat (first | (with_reducible assumption) | (with_reducible refine alloc8 ?_ _) | (with_reducible refine drew8 ?_)))⟩
end
end Go.Proofs.Ytkaacmghgobhmaa.W8
