/- The law LexRows: its walk. -/
import Derived.Test.YtbciecmikcloaaaDoorLAllWalk
import Derived.Test.YtbciecmikcloaaaDoorLBits
import Derived.Test.YtbciecmikcloaaaDoorLxRw
import Derived.Deep.QuietTactic
import Derived.BigQuiet
import Derived.Deep.RegionHeld3
import Derived.BigRegion
namespace Go.Proofs.YtbciecmikcloaaaDoor.L
open Go.RowKit
set_option linter.unusedVariables false
theorem run_field0 (k : Int) (t : ByteArray) (n a : Int) (ln : Bool) (W : World) : (Instr.field 24 (.agg #[.int .i64 k, .string t, .int .i64 n, .int .i64 a, .bool ln]) 0).run Tryd.prog W = .ok (.int .i64 k) W := by
  simp [Instr.field, go_sem, asAgg]
theorem run_field3 (k : Int) (t : ByteArray) (n a : Int) (ln : Bool) (W : World) : (Instr.field 24 (.agg #[.int .i64 k, .string t, .int .i64 n, .int .i64 a, .bool ln]) 3).run Tryd.prog W = .ok (.int .i64 a) W := by
  simp [Instr.field, go_sem, asAgg]
/-- A token's kind and place stand in their cells. -/
def HeldW (X : Nat) (x y : Value) (w1 W : World) : Prop := W.cell? ⟨X, 0, none⟩ = some x ∧ W.cell? ⟨X, 3, none⟩ = some y ∧ Hid (X < W.heap.size) ∧ Hid (Below w1.heap.size w1 W)
theorem HeldW.go {X : Nat} {x y : Value} {w1 W w' : World} (h : HeldW X x y w1 W) (hb : Below W.heap.size W w') : HeldW X x y w1 w' :=
  have hl := h.2.2.1.out
  ⟨(hb.cell (p := ⟨X, 0, none⟩) hl).trans h.1, (hb.cell (p := ⟨X, 3, none⟩) hl).trans h.2.1, Nat.lt_of_lt_of_le hl hb.size, h.2.2.2.out.trans (hb.mono h.2.2.2.out.size)⟩
theorem HeldW.drew {X : Nat} {x y : Value} {w1 W : World} (h : HeldW X x y w1 W) : HeldW X x y w1 W.drew := h.go (Below.refl _ _).drew
theorem HeldW.drewN {X : Nat} {x y : Value} {w1 W : World} (h : HeldW X x y w1 W) (n : Nat) : HeldW X x y w1 (W.drewN n) := h.go (below_drewN _ _ _)
theorem HeldW.new {x y u v t : Value} {w1 W : World} (h : Below w1.heap.size w1 W) (ty : TypeId) : HeldW W.heap.size x y w1 (W.alloc (.cells #[x, u, v, y, t] ty)) :=
  ⟨by simp, by simp, (by show _ < _; simp), (show Below _ _ _ from h.alloc h.size _)⟩
/-- What is known of a token in its row. -/
structure RowS (s : ByteArray) (m i : Nat) (T : Lx.Tk) : Prop where
  at_ : T.a ≤ s.size
  kind : T.k ≤ 6
  last : (T.k = 0 ∨ T.k = 6) ↔ i = m
  text : T.k ≠ 2 → T.a + T.t.length ≤ s.size ∧ (s.data.toList.drop T.a).take T.t.length = T.t
  zero : T.k = 0 → T.a = s.size
set_option maxRecDepth 100000 in
set_option maxHeartbeats 4000000 in
theorem lexRows_core (ad0 : Option Addr) (len0 cap0 : Nat) (w : World)
    (HM : Hid (Calls Tryd.prog 17 #[.slice ad0 len0 cap0] w fun e w' => ∃ s : ByteArray, e = .returned (.string s) ∧ s.size ≤ 720 ∧ Below w.heap.size w w'))
    (HA : Hid (∀ s : ByteArray, s.size ≤ 720 → ∀ W, Below w.heap.size w W → Calls Tryd.prog 13 #[.string s] W fun e w' => ∃ (m : Nat) (L : Nat → Lx.Tk) (b cap : Nat), e = .returned (.slice (some ⟨b, 0, none⟩) (m + 1) cap) ∧ m ≤ 800 ∧ m + 1 ≤ cap ∧ b < w'.heap.size ∧ Hid (∀ j, j ≤ m → TokAt w' b (j * 5) (L j)) ∧ Hid (∀ j, j ≤ m → RowS s m j (L j)) ∧ Hid (∀ j, j < m → (L j).a < (L (j + 1)).a) ∧
      Hid (∀ j, j ≤ m → ∀ W, Below w.heap.size w W → Calls Tryd.prog 10 #[.string s, .int .i64 ((L j).a : Int)] W fun e w' => ∃ (t : ByteArray) (n : Nat) (ln : Bool), e = .returned (.agg #[.int .i64 ((L j).k : Int), .string t, .int .i64 (n : Int), .int .i64 ((L j).a : Int), .bool ln]) ∧ Below W.heap.size W w' ∧ Below w.heap.size w w') ∧ Below w.heap.size w w'))
    (HK : Hid (∀ W, Below w.heap.size w W → Calls Tryd.prog 9 #[] W fun e w' => e = .returned (.bool true) ∧ Below w.heap.size w w')) :
    Calls Tryd.prog 5 #[.slice ad0 len0 cap0] w fun e w' => e = .returned (.bool true) ∧ Below w.heap.size w w' := by
  go_enter Tryd.func5, Tryd.ntmps5
  go_wp2_with fail
  refine Calls.mono HM.out ?_
  rintro e w0 ⟨s, rfl, hs, hb0⟩
  go_wp2_with fail
  refine Calls.mono (HA.out s hs _ hb0) ?_
  rintro e w1 ⟨m, L, b, cap, rfl, hm, hcap, hbl, HT, HR, HL, HN, hb1⟩
  clear HM HA hb0
  have HB1 : Hid (_) := hb1
  have HBL : Hid (b < w1.heap.size) := hbl
  clear hb1 hbl
  have hs' : (s.size : Int) ≤ 720 := by omega
  have hm0 : ¬ ((m : Int) + 1 = 0) := by omega
  have hm1 : (((m : Int) + 1) == 0) = false := by rw [beq_eq_false_iff_ne]; omega
  go_wp2_with fail
  go_loopw [5, 6] (fun la i W => ∃ (k : Nat) (z : Int), k ≤ m + 1 ∧ i = .int .i64 (k : Int) ∧ la = .int .i64 z ∧ Hid (∀ j, j = k → j ≤ m → z < (L j).a) ∧ Hid (Below w1.heap.size w1 W)) (fun _ i _ => m + 1 - (intOf i).toNat)
  case atStart => exact ⟨0, -1, by omega, rfl, rfl, fun j _ _ => by omega, (show Below _ _ _ from Below.refl _ _)⟩
  case round =>
    obtain ⟨k, z, hk, rfl, rfl, HZ, HW⟩ := hrel
    have hzW := HW.out.size
    by_cases hlt : k < m + 1
    · have hlt' : (k : Int) < (m : Int) + 1 := by omega
      obtain ⟨c0, c1, c2, c3, c4⟩ := HT.out k (by omega)
      have hRS := HR.out k (by omega)
      have hz := HZ.out k rfl (by omega)
      have HNX := HN.out k (by omega)
      have HNZ : Hid (∀ j, j = k + 1 → j ≤ m → ((L k).a : Int) < (L j).a) := fun j e h => by
        subst e; have := HL.out k (by omega); omega
      generalize L k = T at *
      obtain ⟨tk, tt, tn, ta, tl, te⟩ := T
      simp only at hz c0 c1 c2 c3 c4 HNX HNZ
      have a0 := (HW.out.cell (p := ⟨b, k * 5, none⟩) HBL.out).trans c0
      have a1 := (HW.out.cell (p := ⟨b, k * 5 + 1, none⟩) HBL.out).trans c1
      have a2 := (HW.out.cell (p := ⟨b, k * 5 + 2, none⟩) HBL.out).trans c2
      have a3 := (HW.out.cell (p := ⟨b, k * 5 + 3, none⟩) HBL.out).trans c3
      have a4 := (HW.out.cell (p := ⟨b, k * 5 + 4, none⟩) HBL.out).trans c4
      clear c0 c1 c2 c3 c4 HT HR HZ HN HL
      obtain ⟨h1, h2, h3, h4, h5⟩ := hRS
      simp only at h1 h2 h3 h4 h5
      have HNW : Hid (∀ W, HeldW wr.heap.size (.int .i64 (tk : Int)) (.int .i64 (ta : Int)) w1 W → Calls Tryd.prog 10 #[.string s, .int .i64 (ta : Int)] W fun e w' => ∃ (t : ByteArray) (n : Nat) (ln : Bool), e = .returned (.agg #[.int .i64 (tk : Int), .string t, .int .i64 (n : Int), .int .i64 (ta : Int), .bool ln]) ∧ HeldW wr.heap.size (.int .i64 (tk : Int)) (.int .i64 (ta : Int)) w1 w') := (fun W hW =>
        (HNX W (HB1.out.trans (hW.2.2.2.out.mono HB1.out.size))).mono (by rintro e w' ⟨t, n, ln, rfl, hb, _⟩; exact ⟨t, n, ln, rfl, hW.go hb⟩))
      have hfl0 := run_field0
      have hfl3 := run_field3
      have h1' : (ta : Int) ≤ s.size := by omega
      have hz1 : ¬ ((ta : Int) ≤ z) := by omega
      have hz2 : ¬ ((s.size : Int) < ta) := by omega
      have hsz : (⟨tt.toArray⟩ : ByteArray).size = tt.length := rfl
      clear HNX
      obtain rfl | rfl | rfl | rfl | rfl | rfl | rfl : tk = 0 ∨ tk = 1 ∨ tk = 2 ∨ tk = 3 ∨ tk = 4 ∨ tk = 5 ∨ tk = 6 := by omega
      · have hkm : k = m := h3.1 (by omega)
        subst hkm
        have HNW2 : Hid (∀ W, HeldW wr.heap.size (.int .i64 0) (.int .i64 (ta : Int)) w1 W → Calls Tryd.prog 10 #[.string s, .int .i64 (ta : Int)] W fun e w' => ∃ (t : ByteArray) (n : Nat) (ln : Bool), e = .returned (.agg #[.int .i64 0, .string t, .int .i64 (n : Int), .int .i64 (ta : Int), .bool ln]) ∧ HeldW wr.heap.size (.int .i64 0) (.int .i64 (ta : Int)) w1 w') := HNW
        clear HNW h3 h4 h5
        go_wp2_with fail
        go_quiet (fail)
        have hHN : HeldW wr.heap.size (.int .i64 0) (.int .i64 (ta : Int)) w1 ((wr.alloc (.cells #[.int .i64 0, .string ⟨tt.toArray⟩, .int .i64 (tn : Int), .int .i64 (ta : Int), .bool tl] 24)).drewN nq) := (HeldW.new HW.out _).drewN nq
        generalize (wr.alloc (.cells #[.int .i64 0, .string ⟨tt.toArray⟩, .int .i64 (tn : Int), .int .i64 (ta : Int), .bool tl] 24)).drewN nq = W6 at *
        clear a0 a1 a2 a3 a4
        generalize wr.heap.size = X at *
        go_wp2_with fail
        go_region_held3 (fun W => W.cell? ⟨X, 0, none⟩ = some (.int .i64 0) ∧ W.cell? ⟨X, 3, none⟩ = some (.int .i64 (ta : Int)) ∧ Hid (X < W.heap.size) ∧ Hid (Below w1.heap.size w1 W)) ((show HeldW X (.int .i64 0) (.int .i64 (ta : Int)) w1 _; repeat (first | with_reducible assumption | with_reducible refine HeldW.drew ?_))) (first | (go_at_call 10; refine Calls.mono (HNW2.out _ (by repeat (first | with_reducible assumption | with_reducible refine HeldW.drew ?_))) ?_; rintro e w7 ⟨t7, n7, l7, rfl, hW7⟩))
        go_wp2_with fail
        go_roundw
        case rel => exact ⟨k + 1, (ta : Int), by omega, by go_num, rfl, HNZ, (show Below _ _ _ from by first | exact hW7.2.2.2.out | (repeat (first | exact hW7.2.2.2.out | refine Below.drew ?_)))⟩
        case measure => simp [intOf] <;> omega
      · have hkm : k ≠ m := fun e => by have := h3.2 e; omega
        have hkm' : ((k : Int) == (m : Int)) = false := by rw [beq_eq_false_iff_ne]; omega
        obtain ⟨h6, h7⟩ := h4 (by omega)
        have h6' : (ta : Int) + tt.length ≤ s.size := by omega
        have h6'' : ¬ ((s.size : Int) < (ta : Int) + tt.length) := by omega
        have hdec : decide ((s.size : Int) < (ta : Int) + tt.length) = false := by simpa using h6''
        have hx : ((s.extract ta (ta + tt.length)).toList == tt) = true := by rw [extract_eq, ByteArray.toList_eq, beq_iff_eq]; exact h7
        clear h6 h7
        have HNW2 : Hid (∀ W, HeldW wr.heap.size (.int .i64 1) (.int .i64 (ta : Int)) w1 W → Calls Tryd.prog 10 #[.string s, .int .i64 (ta : Int)] W fun e w' => ∃ (t : ByteArray) (n : Nat) (ln : Bool), e = .returned (.agg #[.int .i64 1, .string t, .int .i64 (n : Int), .int .i64 (ta : Int), .bool ln]) ∧ HeldW wr.heap.size (.int .i64 1) (.int .i64 (ta : Int)) w1 w') := HNW
        clear HNW h3 h4 h5
        go_wp2_with fail
        go_quiet (fail)
        have hHN : HeldW wr.heap.size (.int .i64 1) (.int .i64 (ta : Int)) w1 ((wr.alloc (.cells #[.int .i64 1, .string ⟨tt.toArray⟩, .int .i64 (tn : Int), .int .i64 (ta : Int), .bool tl] 24)).drewN nq) := (HeldW.new HW.out _).drewN nq
        generalize (wr.alloc (.cells #[.int .i64 1, .string ⟨tt.toArray⟩, .int .i64 (tn : Int), .int .i64 (ta : Int), .bool tl] 24)).drewN nq = W6 at *
        clear a0 a1 a2 a3 a4
        generalize wr.heap.size = X at *
        go_wp2_with fail
        go_region_held3 (fun W => W.cell? ⟨X, 0, none⟩ = some (.int .i64 1) ∧ W.cell? ⟨X, 3, none⟩ = some (.int .i64 (ta : Int)) ∧ Hid (X < W.heap.size) ∧ Hid (Below w1.heap.size w1 W)) ((show HeldW X (.int .i64 1) (.int .i64 (ta : Int)) w1 _; repeat (first | with_reducible assumption | with_reducible refine HeldW.drew ?_))) (first | (go_at_call 10; refine Calls.mono (HNW2.out _ (by repeat (first | with_reducible assumption | with_reducible refine HeldW.drew ?_))) ?_; rintro e w7 ⟨t7, n7, l7, rfl, hW7⟩))
        go_wp2_with fail
        go_roundw
        case rel => exact ⟨k + 1, (ta : Int), by omega, by go_num, rfl, HNZ, (show Below _ _ _ from by first | exact hW7.2.2.2.out | (repeat (first | exact hW7.2.2.2.out | refine Below.drew ?_)))⟩
        case measure => simp [intOf] <;> omega
      · have hkm : k ≠ m := fun e => by have := h3.2 e; omega
        have hkm' : ((k : Int) == (m : Int)) = false := by rw [beq_eq_false_iff_ne]; omega
        have HNW2 : Hid (∀ W, HeldW wr.heap.size (.int .i64 2) (.int .i64 (ta : Int)) w1 W → Calls Tryd.prog 10 #[.string s, .int .i64 (ta : Int)] W fun e w' => ∃ (t : ByteArray) (n : Nat) (ln : Bool), e = .returned (.agg #[.int .i64 2, .string t, .int .i64 (n : Int), .int .i64 (ta : Int), .bool ln]) ∧ HeldW wr.heap.size (.int .i64 2) (.int .i64 (ta : Int)) w1 w') := HNW
        clear HNW h3 h4 h5
        go_wp2_with fail
        go_quiet (fail)
        have hHN : HeldW wr.heap.size (.int .i64 2) (.int .i64 (ta : Int)) w1 ((wr.alloc (.cells #[.int .i64 2, .string ⟨tt.toArray⟩, .int .i64 (tn : Int), .int .i64 (ta : Int), .bool tl] 24)).drewN nq) := (HeldW.new HW.out _).drewN nq
        generalize (wr.alloc (.cells #[.int .i64 2, .string ⟨tt.toArray⟩, .int .i64 (tn : Int), .int .i64 (ta : Int), .bool tl] 24)).drewN nq = W6 at *
        clear a0 a1 a2 a3 a4
        generalize wr.heap.size = X at *
        go_wp2_with fail
        go_region_held3 (fun W => W.cell? ⟨X, 0, none⟩ = some (.int .i64 2) ∧ W.cell? ⟨X, 3, none⟩ = some (.int .i64 (ta : Int)) ∧ Hid (X < W.heap.size) ∧ Hid (Below w1.heap.size w1 W)) ((show HeldW X (.int .i64 2) (.int .i64 (ta : Int)) w1 _; repeat (first | with_reducible assumption | with_reducible refine HeldW.drew ?_))) (first | (go_at_call 10; refine Calls.mono (HNW2.out _ (by repeat (first | with_reducible assumption | with_reducible refine HeldW.drew ?_))) ?_; rintro e w7 ⟨t7, n7, l7, rfl, hW7⟩))
        go_wp2_with fail
        go_roundw
        case rel => exact ⟨k + 1, (ta : Int), by omega, by go_num, rfl, HNZ, (show Below _ _ _ from by first | exact hW7.2.2.2.out | (repeat (first | exact hW7.2.2.2.out | refine Below.drew ?_)))⟩
        case measure => simp [intOf] <;> omega
      · have hkm : k ≠ m := fun e => by have := h3.2 e; omega
        have hkm' : ((k : Int) == (m : Int)) = false := by rw [beq_eq_false_iff_ne]; omega
        obtain ⟨h6, h7⟩ := h4 (by omega)
        have h6' : (ta : Int) + tt.length ≤ s.size := by omega
        have h6'' : ¬ ((s.size : Int) < (ta : Int) + tt.length) := by omega
        have hdec : decide ((s.size : Int) < (ta : Int) + tt.length) = false := by simpa using h6''
        have hx : ((s.extract ta (ta + tt.length)).toList == tt) = true := by rw [extract_eq, ByteArray.toList_eq, beq_iff_eq]; exact h7
        clear h6 h7
        have HNW2 : Hid (∀ W, HeldW wr.heap.size (.int .i64 3) (.int .i64 (ta : Int)) w1 W → Calls Tryd.prog 10 #[.string s, .int .i64 (ta : Int)] W fun e w' => ∃ (t : ByteArray) (n : Nat) (ln : Bool), e = .returned (.agg #[.int .i64 3, .string t, .int .i64 (n : Int), .int .i64 (ta : Int), .bool ln]) ∧ HeldW wr.heap.size (.int .i64 3) (.int .i64 (ta : Int)) w1 w') := HNW
        clear HNW h3 h4 h5
        go_wp2_with fail
        go_quiet (fail)
        have hHN : HeldW wr.heap.size (.int .i64 3) (.int .i64 (ta : Int)) w1 ((wr.alloc (.cells #[.int .i64 3, .string ⟨tt.toArray⟩, .int .i64 (tn : Int), .int .i64 (ta : Int), .bool tl] 24)).drewN nq) := (HeldW.new HW.out _).drewN nq
        generalize (wr.alloc (.cells #[.int .i64 3, .string ⟨tt.toArray⟩, .int .i64 (tn : Int), .int .i64 (ta : Int), .bool tl] 24)).drewN nq = W6 at *
        clear a0 a1 a2 a3 a4
        generalize wr.heap.size = X at *
        go_wp2_with fail
        go_region_held3 (fun W => W.cell? ⟨X, 0, none⟩ = some (.int .i64 3) ∧ W.cell? ⟨X, 3, none⟩ = some (.int .i64 (ta : Int)) ∧ Hid (X < W.heap.size) ∧ Hid (Below w1.heap.size w1 W)) ((show HeldW X (.int .i64 3) (.int .i64 (ta : Int)) w1 _; repeat (first | with_reducible assumption | with_reducible refine HeldW.drew ?_))) (first | (go_at_call 10; refine Calls.mono (HNW2.out _ (by repeat (first | with_reducible assumption | with_reducible refine HeldW.drew ?_))) ?_; rintro e w7 ⟨t7, n7, l7, rfl, hW7⟩))
        go_wp2_with fail
        go_roundw
        case rel => exact ⟨k + 1, (ta : Int), by omega, by go_num, rfl, HNZ, (show Below _ _ _ from by first | exact hW7.2.2.2.out | (repeat (first | exact hW7.2.2.2.out | refine Below.drew ?_)))⟩
        case measure => simp [intOf] <;> omega
      · have hkm : k ≠ m := fun e => by have := h3.2 e; omega
        have hkm' : ((k : Int) == (m : Int)) = false := by rw [beq_eq_false_iff_ne]; omega
        obtain ⟨h6, h7⟩ := h4 (by omega)
        have h6' : (ta : Int) + tt.length ≤ s.size := by omega
        have h6'' : ¬ ((s.size : Int) < (ta : Int) + tt.length) := by omega
        have hdec : decide ((s.size : Int) < (ta : Int) + tt.length) = false := by simpa using h6''
        have hx : ((s.extract ta (ta + tt.length)).toList == tt) = true := by rw [extract_eq, ByteArray.toList_eq, beq_iff_eq]; exact h7
        clear h6 h7
        have HNW2 : Hid (∀ W, HeldW wr.heap.size (.int .i64 4) (.int .i64 (ta : Int)) w1 W → Calls Tryd.prog 10 #[.string s, .int .i64 (ta : Int)] W fun e w' => ∃ (t : ByteArray) (n : Nat) (ln : Bool), e = .returned (.agg #[.int .i64 4, .string t, .int .i64 (n : Int), .int .i64 (ta : Int), .bool ln]) ∧ HeldW wr.heap.size (.int .i64 4) (.int .i64 (ta : Int)) w1 w') := HNW
        clear HNW h3 h4 h5
        go_wp2_with fail
        go_quiet (fail)
        have hHN : HeldW wr.heap.size (.int .i64 4) (.int .i64 (ta : Int)) w1 ((wr.alloc (.cells #[.int .i64 4, .string ⟨tt.toArray⟩, .int .i64 (tn : Int), .int .i64 (ta : Int), .bool tl] 24)).drewN nq) := (HeldW.new HW.out _).drewN nq
        generalize (wr.alloc (.cells #[.int .i64 4, .string ⟨tt.toArray⟩, .int .i64 (tn : Int), .int .i64 (ta : Int), .bool tl] 24)).drewN nq = W6 at *
        clear a0 a1 a2 a3 a4
        generalize wr.heap.size = X at *
        go_wp2_with fail
        go_region_held3 (fun W => W.cell? ⟨X, 0, none⟩ = some (.int .i64 4) ∧ W.cell? ⟨X, 3, none⟩ = some (.int .i64 (ta : Int)) ∧ Hid (X < W.heap.size) ∧ Hid (Below w1.heap.size w1 W)) ((show HeldW X (.int .i64 4) (.int .i64 (ta : Int)) w1 _; repeat (first | with_reducible assumption | with_reducible refine HeldW.drew ?_))) (first | (go_at_call 10; refine Calls.mono (HNW2.out _ (by repeat (first | with_reducible assumption | with_reducible refine HeldW.drew ?_))) ?_; rintro e w7 ⟨t7, n7, l7, rfl, hW7⟩))
        go_wp2_with fail
        go_roundw
        case rel => exact ⟨k + 1, (ta : Int), by omega, by go_num, rfl, HNZ, (show Below _ _ _ from by first | exact hW7.2.2.2.out | (repeat (first | exact hW7.2.2.2.out | refine Below.drew ?_)))⟩
        case measure => simp [intOf] <;> omega
      · have hkm : k ≠ m := fun e => by have := h3.2 e; omega
        have hkm' : ((k : Int) == (m : Int)) = false := by rw [beq_eq_false_iff_ne]; omega
        obtain ⟨h6, h7⟩ := h4 (by omega)
        have h6' : (ta : Int) + tt.length ≤ s.size := by omega
        have h6'' : ¬ ((s.size : Int) < (ta : Int) + tt.length) := by omega
        have hdec : decide ((s.size : Int) < (ta : Int) + tt.length) = false := by simpa using h6''
        have hx : ((s.extract ta (ta + tt.length)).toList == tt) = true := by rw [extract_eq, ByteArray.toList_eq, beq_iff_eq]; exact h7
        clear h6 h7
        have HNW2 : Hid (∀ W, HeldW wr.heap.size (.int .i64 5) (.int .i64 (ta : Int)) w1 W → Calls Tryd.prog 10 #[.string s, .int .i64 (ta : Int)] W fun e w' => ∃ (t : ByteArray) (n : Nat) (ln : Bool), e = .returned (.agg #[.int .i64 5, .string t, .int .i64 (n : Int), .int .i64 (ta : Int), .bool ln]) ∧ HeldW wr.heap.size (.int .i64 5) (.int .i64 (ta : Int)) w1 w') := HNW
        clear HNW h3 h4 h5
        go_wp2_with fail
        go_quiet (fail)
        have hHN : HeldW wr.heap.size (.int .i64 5) (.int .i64 (ta : Int)) w1 ((wr.alloc (.cells #[.int .i64 5, .string ⟨tt.toArray⟩, .int .i64 (tn : Int), .int .i64 (ta : Int), .bool tl] 24)).drewN nq) := (HeldW.new HW.out _).drewN nq
        generalize (wr.alloc (.cells #[.int .i64 5, .string ⟨tt.toArray⟩, .int .i64 (tn : Int), .int .i64 (ta : Int), .bool tl] 24)).drewN nq = W6 at *
        clear a0 a1 a2 a3 a4
        generalize wr.heap.size = X at *
        go_wp2_with fail
        go_region_held3 (fun W => W.cell? ⟨X, 0, none⟩ = some (.int .i64 5) ∧ W.cell? ⟨X, 3, none⟩ = some (.int .i64 (ta : Int)) ∧ Hid (X < W.heap.size) ∧ Hid (Below w1.heap.size w1 W)) ((show HeldW X (.int .i64 5) (.int .i64 (ta : Int)) w1 _; repeat (first | with_reducible assumption | with_reducible refine HeldW.drew ?_))) (first | (go_at_call 10; refine Calls.mono (HNW2.out _ (by repeat (first | with_reducible assumption | with_reducible refine HeldW.drew ?_))) ?_; rintro e w7 ⟨t7, n7, l7, rfl, hW7⟩))
        go_wp2_with fail
        go_roundw
        case rel => exact ⟨k + 1, (ta : Int), by omega, by go_num, rfl, HNZ, (show Below _ _ _ from by first | exact hW7.2.2.2.out | (repeat (first | exact hW7.2.2.2.out | refine Below.drew ?_)))⟩
        case measure => simp [intOf] <;> omega
      · have hkm : k = m := h3.1 (by omega)
        subst hkm
        have HNW2 : Hid (∀ W, HeldW wr.heap.size (.int .i64 6) (.int .i64 (ta : Int)) w1 W → Calls Tryd.prog 10 #[.string s, .int .i64 (ta : Int)] W fun e w' => ∃ (t : ByteArray) (n : Nat) (ln : Bool), e = .returned (.agg #[.int .i64 6, .string t, .int .i64 (n : Int), .int .i64 (ta : Int), .bool ln]) ∧ HeldW wr.heap.size (.int .i64 6) (.int .i64 (ta : Int)) w1 w') := HNW
        clear HNW h3 h4 h5
        go_wp2_with fail
        go_quiet (fail)
        have hHN : HeldW wr.heap.size (.int .i64 6) (.int .i64 (ta : Int)) w1 ((wr.alloc (.cells #[.int .i64 6, .string ⟨tt.toArray⟩, .int .i64 (tn : Int), .int .i64 (ta : Int), .bool tl] 24)).drewN nq) := (HeldW.new HW.out _).drewN nq
        generalize (wr.alloc (.cells #[.int .i64 6, .string ⟨tt.toArray⟩, .int .i64 (tn : Int), .int .i64 (ta : Int), .bool tl] 24)).drewN nq = W6 at *
        clear a0 a1 a2 a3 a4
        generalize wr.heap.size = X at *
        go_wp2_with fail
        go_region_held3 (fun W => W.cell? ⟨X, 0, none⟩ = some (.int .i64 6) ∧ W.cell? ⟨X, 3, none⟩ = some (.int .i64 (ta : Int)) ∧ Hid (X < W.heap.size) ∧ Hid (Below w1.heap.size w1 W)) ((show HeldW X (.int .i64 6) (.int .i64 (ta : Int)) w1 _; repeat (first | with_reducible assumption | with_reducible refine HeldW.drew ?_))) (first | (go_at_call 10; refine Calls.mono (HNW2.out _ (by repeat (first | with_reducible assumption | with_reducible refine HeldW.drew ?_))) ?_; rintro e w7 ⟨t7, n7, l7, rfl, hW7⟩))
        go_wp2_with fail
        go_roundw
        case rel => exact ⟨k + 1, (ta : Int), by omega, by go_num, rfl, HNZ, (show Below _ _ _ from by first | exact hW7.2.2.2.out | (repeat (first | exact hW7.2.2.2.out | refine Below.drew ?_)))⟩
        case measure => simp [intOf] <;> omega
    · have hk : k = m + 1 := by omega
      subst hk
      obtain ⟨c0, c1, c2, c3, c4⟩ := HT.out m (Nat.le_refl _)
      have hRS := HR.out m (Nat.le_refl _)
      generalize L m = T at *
      obtain ⟨tk, tt, tn, ta, tl, te⟩ := T
      simp only at c0 c1 c2 c3 c4
      have a0 := (HW.out.cell (p := ⟨b, m * 5, none⟩) HBL.out).trans c0
      have a3 := (HW.out.cell (p := ⟨b, m * 5 + 3, none⟩) HBL.out).trans c3
      have HBW := HB1.out.trans (HW.out.mono HB1.out.size)
      obtain ⟨h1, h2, h3, h4, h5⟩ := hRS
      simp only at h1 h2 h3 h4 h5
      have hlt' : ¬ (((m + 1 : Nat) : Int) < (m : Int) + 1) := by omega
      have hmm : (m : Int) + 1 - 1 = m := by omega
      have h0m : (0 : Int) ≤ m := by omega
      clear c0 c1 c2 c3 c4 HT HR HZ HN HL h4
      obtain rfl | rfl : tk = 0 ∨ tk = 6 := h3.2 (by first | rfl | trivial)
      · obtain rfl : ta = s.size := h5 rfl
        clear h3 h5
        go_wp2_with fail
        refine Calls.mono (HK.out _ HBW) ?_
        rintro e w3 ⟨rfl, hb3⟩
        go_wp2_with fail
        go_ret
        exact ⟨rfl, hb3⟩
      · clear h3 h5
        go_wp2_with fail
        refine Calls.mono (HK.out _ HBW) ?_
        rintro e w3 ⟨rfl, hb3⟩
        go_wp2_with fail
        go_ret
        exact ⟨rfl, hb3⟩
theorem rows_all {w : World} (hg : Sig w) (s : ByteArray) (hs : s.size ≤ 720) : ∀ W, Below w.heap.size w W → Calls Tryd.prog 13 #[.string s] W fun e w' => ∃ (m : Nat) (L : Nat → Lx.Tk) (b cap : Nat), e = .returned (.slice (some ⟨b, 0, none⟩) (m + 1) cap) ∧ m ≤ 800 ∧ m + 1 ≤ cap ∧ b < w'.heap.size ∧ Hid (∀ j, j ≤ m → TokAt w' b (j * 5) (L j)) ∧ Hid (∀ j, j ≤ m → RowS s m j (L j)) ∧ Hid (∀ j, j < m → (L j).a < (L (j + 1)).a) ∧
      Hid (∀ j, j ≤ m → ∀ W, Below w.heap.size w W → Calls Tryd.prog 10 #[.string s, .int .i64 ((L j).a : Int)] W fun e w' => ∃ (t : ByteArray) (n : Nat) (ln : Bool), e = .returned (.agg #[.int .i64 ((L j).k : Int), .string t, .int .i64 (n : Int), .int .i64 ((L j).a : Int), .bool ln]) ∧ Below W.heap.size W w' ∧ Below w.heap.size w w') ∧ Below w.heap.size w w' := fun W hW => by
  refine (All_any s W (by omega) (hg.below hW)).mono ?_
  rintro e w' ⟨v, rfl, ho, hb⟩
  have hlen := run_len s.data.toList (s.data.toList.length + 1) 0
  have hne := List.length_pos_iff.2 (Lx.run_ne s.data.toList (s.data.toList.length + 1) 0)
  have hrow := Lx.run_rows s.data.toList (s.data.toList.length + 1) 0 (by omega) (by omega)
  change (Lx.all s.data.toList).length ≤ _ at hlen
  change 0 < (Lx.all s.data.toList).length at hne
  change ∀ i (h : i < (Lx.all s.data.toList).length), ∃ q, 0 ≤ q ∧ q ≤ s.data.toList.length ∧ (Lx.all s.data.toList)[i] = Lx.tok s.data.toList q ∧ (((Lx.all s.data.toList)[i].k = 0 ∨ (Lx.all s.data.toList)[i].k = 6) ↔ i + 1 = (Lx.all s.data.toList).length) ∧ ∀ (h2 : i + 1 < (Lx.all s.data.toList).length), (Lx.all s.data.toList)[i].a < (Lx.all s.data.toList)[i + 1].a at hrow
  generalize Lx.all s.data.toList = R at *
  obtain ⟨m, hm⟩ : ∃ m, R.length = m + 1 := ⟨R.length - 1, by omega⟩
  obtain ⟨ad, cap, rfl, hcap, ht⟩ := Toks.own ho
  obtain ⟨b, rfl, hbl, hat⟩ := ht.resolve_left (by omega)
  rw [size_list] at hlen
  have hL : ∀ j (h : j < R.length), (R[j]?.getD ⟨0, [], 0, 0, false, 0⟩) = R[j] := fun j h => by rw [List.getElem?_eq_getElem h]; rfl
  refine ⟨m, fun j => R[j]?.getD ⟨0, [], 0, 0, false, 0⟩, b, cap, by rw [hm], by omega, by omega, hbl, (show ∀ _, _ from fun j hj => ?_), (show ∀ _, _ from fun j hj => ?_), (show ∀ _, _ from fun j hj => ?_), (show ∀ _, _ from fun j hj W2 hW2 => ?_), hW.trans (hb.mono hW.size)⟩
  · show TokAt _ _ _ (R[j]?.getD _)
    rw [hL j (by omega)]; exact hat j (by omega)
  · show RowS _ _ _ (R[j]?.getD _)
    rw [hL j (by omega)]
    obtain ⟨q, _, h2, h3, h4, _⟩ := hrow j (by omega)
    have hok := Lx.tok_ok s.data.toList q h2
    have htx := Lx.tok_text s.data.toList q h2
    rw [← h3, size_list] at hok htx
    exact ⟨by omega, hok.2.2.2.1, by rw [h4, hm]; omega, htx, hok.2.2.2.2.2⟩
  · show (R[j]?.getD _).a < (R[j + 1]?.getD _).a
    rw [hL j (by omega), hL (j + 1) (by omega)]
    obtain ⟨q, _, h2, h3, h4, h5⟩ := hrow j (by omega)
    exact h5 (by omega)
  · show Calls _ _ #[_, .int .i64 ((R[j]?.getD _).a : Int)] _ fun e w' => ∃ t n ln, e = .returned (.agg #[.int .i64 ((R[j]?.getD _).k : Int), _, _, .int .i64 ((R[j]?.getD _).a : Int), _]) ∧ _
    rw [hL j (by omega)]
    obtain ⟨q, _, h2, h3, h4, h5⟩ := hrow j (by omega)
    have hok := Lx.tok_ok s.data.toList q h2
    have hag := Lx.tok_again s.data.toList q
    rw [← h3] at hok hag
    rw [size_list] at hok
    have hn := Next_any s (R[j].a : Int) W2 (by omega) (hg.below hW2)
    rw [show plc (R[j].a : Int) s.size = R[j].a by unfold plc; omega] at hn
    refine hn.mono ?_
    rintro e w4 ⟨rfl, hb4⟩
    refine ⟨⟨(Lx.tok s.data.toList R[j].a).t.toArray⟩, (Lx.tok s.data.toList R[j].a).n, (Lx.tok s.data.toList R[j].a).ln, ?_, hb4, hW2.trans (hb4.mono hW2.size)⟩
    simp only [tkA, hag.1, hag.2]
theorem lexRows_walk (ad0 : Option Addr) (len0 cap0 : Nat) (z0 : List Int) (w : World) (h0 : IsB w ad0 len0 cap0 z0) (hg : Sig w) :
    Calls Tryd.prog 5 #[.slice ad0 len0 cap0] w fun e w' => e = .returned (.bool true) ∧ Below w.heap.size w w' :=
  lexRows_core ad0 len0 cap0 w (made_any _ _ _ _ w h0) (fun s hs => rows_all hg s hs) (kit_awake hg)
end Go.Proofs.YtbciecmikcloaaaDoor.L
