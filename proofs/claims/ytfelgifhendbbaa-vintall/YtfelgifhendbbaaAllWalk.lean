/- The walk of VintAll. -/
import Derived.Test.YtfelgifhendbbaaRefText
import Derived.Test.YtfelgifhendbbaaBack
namespace Go.Proofs.Ytfelgifhendbbaa
open Go.RowKit
attribute [local go_sem ↓] Go.wp_at_zero Go.wp_at_succ
/-- What is held while the last statement is reckoned: the two structs' cells; what was there is as it was. -/
def HeldW (w1 : World) (bx bz : Nat) (N : Int) (q E : Nat) (XX : ByteArray) (Q F : Nat) (W : World) : Prop :=
  W.cell? ⟨bx, 0, none⟩ = some (.int .i64 N) ∧ W.cell? ⟨bx, 1, none⟩ = some (.int .i64 (q : Int)) ∧ W.cell? ⟨bx, 2, none⟩ = some (.int .i64 (E : Int)) ∧ W.cell? ⟨bz, 0, none⟩ = some (.string XX) ∧ W.cell? ⟨bz, 1, none⟩ = some (.int .i64 (Q : Int)) ∧ W.cell? ⟨bz, 2, none⟩ = some (.int .i64 (F : Int)) ∧ Hid (Below w1.heap.size w1 W) ∧ Hid (bx < W.heap.size) ∧ Hid (bz < W.heap.size)
theorem HeldW.go {w1 : World} {bx bz : Nat} {N : Int} {q E : Nat} {XX : ByteArray} {Q F : Nat} {W W' : World} (h : HeldW w1 bx bz N q E XX Q F W) (hb : Below W.heap.size W W') : HeldW w1 bx bz N q E XX Q F W' := by
  obtain ⟨a0, a1, a2, b0, b1, b2, c, d, e⟩ := h
  exact ⟨(hb.cell (p := ⟨bx, 0, none⟩) d).trans a0, (hb.cell (p := ⟨bx, 1, none⟩) d).trans a1, (hb.cell (p := ⟨bx, 2, none⟩) d).trans a2, (hb.cell (p := ⟨bz, 0, none⟩) e).trans b0, (hb.cell (p := ⟨bz, 1, none⟩) e).trans b1, (hb.cell (p := ⟨bz, 2, none⟩) e).trans b2,
    below_chain c.out hb, Nat.lt_of_lt_of_le d hb.size, Nat.lt_of_lt_of_le e hb.size⟩
theorem HeldW.drew {w1 : World} {bx bz : Nat} {N : Int} {q E : Nat} {XX : ByteArray} {Q F : Nat} {W : World} (h : HeldW w1 bx bz N q E XX Q F W) : HeldW w1 bx bz N q E XX Q F W.drew := by
  obtain ⟨a0, a1, a2, b0, b1, b2, c, d, e⟩ := h
  exact ⟨a0, a1, a2, b0, b1, b2, c.out.drew, d, e⟩
set_option maxRecDepth 100000 in
set_option maxHeartbeats 1000000 in
theorem all_walk (n : Int) (t s : ByteArray) (p : Int) (h1 : -9223372036854775808 ≤ n) (h2 : n ≤ 9223372036854775807) (ht : t.size ≤ maxLen) (hs : s.size ≤ maxLen) (w : World) :
    Calls Try.prog 3 #[.int .i64 n, .string t, .string s, .int .i64 p] w fun e w' => e = .returned (.bool true) ∧ Below w.heap.size w w' := by
  unfold maxLen at ht hs
  by_cases k1 : 300 < t.size
  · go_enter Try.func3, Try.ntmps3
    go_wp2_with fail
    refine (awake_any _).mono ?_
    rintro e w1 ⟨rfl, hb⟩
    go_wp2
    go_ret
    exact ⟨rfl, hb⟩
  by_cases k2 : 500 < s.size
  · go_enter Try.func3, Try.ntmps3
    go_wp2_with fail
    refine (awake_any _).mono ?_
    rintro e w1 ⟨rfl, hb⟩
    go_wp2
    go_ret
    exact ⟨rfl, hb⟩
  have G1 : Hid (∀ w, _) := fun w => get_any s p w (by unfold maxLen; omega)
  have G2 : Hid (∀ w, _) := fun w => rget_any s p w (by unfold maxLen; omega)
  have G3 : Hid (∀ w, _) := fun w => getText_any s p w (by unfold maxLen; omega)
  have G4 : Hid (∀ w, _) := fun w => rgetText_any s p w (by omega)
  have G5 : Hid (∀ w, _) := fun w => put_any n w h1 h2
  have G6 : Hid (∀ w, _) := fun w => rput_any n w h1 h2
  have G7 : Hid (∀ w, _) := fun w => text_any t w (by omega)
  have G8 : Hid (∀ w, _) := fun w => rtext_any t w (by omega)
  unfold numOf at G2
  unfold saidOf at G4
  generalize Vn.get s.data.toList p = g at G1 G2
  generalize Vn.getText s.data.toList p = x at G3 G4
  generalize (⟨(Vn.put n).toArray⟩ : ByteArray) = P at G5 G6
  generalize (⟨(Vn.text t.data.toList).toArray⟩ : ByteArray) = T at G7 G8
  obtain ⟨N, q, E⟩ := g
  obtain ⟨X, Q, F⟩ := x
  generalize (⟨(X, Q, F).1.toArray⟩ : ByteArray) = XX at G3 G4
  simp only at G1 G2 G3 G4
  go_enter Try.func3, Try.ntmps3
  go_wp2_with fail
  refine Calls.mono (G1.out _) ?_
  rintro e w1 ⟨rfl, rfl⟩
  go_wp2_with fail
  refine Calls.mono (G2.out _) ?_
  rintro e w2 ⟨rfl, hb2⟩
  go_wp2_with fail
  have o0 : (w2.alloc (.cells #[.int .i64 N, .int .i64 (q : Int), .int .i64 (E : Int)] 27)).cell? ⟨w2.heap.size, 0, none⟩ = some (.int .i64 N) := by simp
  have o1 : (w2.alloc (.cells #[.int .i64 N, .int .i64 (q : Int), .int .i64 (E : Int)] 27)).cell? ⟨w2.heap.size, 1, none⟩ = some (.int .i64 (q : Int)) := by simp
  have o2 : (w2.alloc (.cells #[.int .i64 N, .int .i64 (q : Int), .int .i64 (E : Int)] 27)).cell? ⟨w2.heap.size, 2, none⟩ = some (.int .i64 (E : Int)) := by simp
  have o3 : w2.heap.size < (w2.alloc (.cells #[.int .i64 N, .int .i64 (q : Int), .int .i64 (E : Int)] 27)).heap.size := by simp
  have ob : Below w1.heap.size w1 (w2.alloc (.cells #[.int .i64 N, .int .i64 (q : Int), .int .i64 (E : Int)] 27)) := hb2.alloc hb2.size _
  generalize w2.alloc (.cells #[.int .i64 N, .int .i64 (q : Int), .int .i64 (E : Int)] 27) = w3 at o0 o1 o2 o3 ob ⊢
  generalize w2.heap.size = bx at o0 o1 o2 o3 ⊢
  clear hb2
  refine Calls.mono (G3.out _) ?_
  rintro e w4 ⟨rfl, hb4⟩
  go_wp2_with fail
  refine Calls.mono (G4.out _) ?_
  rintro e w5 ⟨rfl, hb5⟩
  have hb := below_chain hb4 hb5
  replace o0 := (hb.cell (p := ⟨bx, 0, none⟩) o3).trans o0
  replace o1 := (hb.cell (p := ⟨bx, 1, none⟩) o3).trans o1
  replace o2 := (hb.cell (p := ⟨bx, 2, none⟩) o3).trans o2
  replace o3 := Nat.lt_of_lt_of_le o3 hb.size
  replace ob := below_chain ob hb
  clear hb hb4 hb5
  go_wp2_with fail
  have hne : bx ≠ w5.heap.size := by omega
  have y0 : (w5.alloc (.cells #[.string XX, .int .i64 (Q : Int), .int .i64 (F : Int)] 32)).cell? ⟨w5.heap.size, 0, none⟩ = some (.string XX) := by simp
  have y1 : (w5.alloc (.cells #[.string XX, .int .i64 (Q : Int), .int .i64 (F : Int)] 32)).cell? ⟨w5.heap.size, 1, none⟩ = some (.int .i64 (Q : Int)) := by simp
  have y2 : (w5.alloc (.cells #[.string XX, .int .i64 (Q : Int), .int .i64 (F : Int)] 32)).cell? ⟨w5.heap.size, 2, none⟩ = some (.int .i64 (F : Int)) := by simp
  have y3 : w5.heap.size < (w5.alloc (.cells #[.string XX, .int .i64 (Q : Int), .int .i64 (F : Int)] 32)).heap.size := by simp
  have yb : Below w5.heap.size w5 (w5.alloc (.cells #[.string XX, .int .i64 (Q : Int), .int .i64 (F : Int)] 32)) := (Below.refl _ _).alloc (Nat.le_refl _) _
  generalize w5.alloc (.cells #[.string XX, .int .i64 (Q : Int), .int .i64 (F : Int)] 32) = w6 at y0 y1 y2 y3 yb ⊢
  replace o0 := (yb.cell (p := ⟨bx, 0, none⟩) o3).trans o0
  replace o1 := (yb.cell (p := ⟨bx, 1, none⟩) o3).trans o1
  replace o2 := (yb.cell (p := ⟨bx, 2, none⟩) o3).trans o2
  replace o3 := Nat.lt_of_lt_of_le o3 yb.size
  replace ob := below_chain ob yb
  clear yb
  generalize w5.heap.size = bz at y0 y1 y2 y3 hne ⊢
  clear G1 G2 G3 G4 h1 h2 ht hs k1 k2
  have C14 : Hid (∀ W, HeldW w1 bx bz N q E XX Q F W → Calls Try.prog 14 #[.int .i64 n] W fun e w' => e = .returned (.string P) ∧ HeldW w1 bx bz N q E XX Q F w') := fun W hW => (G5.out W).mono fun _ _ ⟨he, hb⟩ => ⟨he, hW.go hb⟩
  have C15 : Hid (∀ W, HeldW w1 bx bz N q E XX Q F W → Calls Try.prog 15 #[.int .i64 n] W fun e w' => e = .returned (.string P) ∧ HeldW w1 bx bz N q E XX Q F w') := fun W hW => (G6.out W).mono fun _ _ ⟨he, hb⟩ => ⟨he, hW.go hb⟩
  have C16 : Hid (∀ W, HeldW w1 bx bz N q E XX Q F W → Calls Try.prog 16 #[.string t] W fun e w' => e = .returned (.string T) ∧ HeldW w1 bx bz N q E XX Q F w') := fun W hW => (G7.out W).mono fun _ _ ⟨he, hb⟩ => ⟨he, hW.go hb⟩
  have C17 : Hid (∀ W, HeldW w1 bx bz N q E XX Q F W → Calls Try.prog 17 #[.string t] W fun e w' => e = .returned (.string T) ∧ HeldW w1 bx bz N q E XX Q F w') := fun W hW => (G8.out W).mono fun _ _ ⟨he, hb⟩ => ⟨he, hW.go hb⟩
  have C9 : Hid (∀ W, HeldW w1 bx bz N q E XX Q F W → Calls Try.prog 9 #[] W fun e w' => e = .returned (.bool true) ∧ HeldW w1 bx bz N q E XX Q F w') := fun W hW => (awake_any W).mono fun _ _ ⟨he, hb⟩ => ⟨he, hW.go hb⟩
  have C18 : Hid (∀ W a, HeldW w1 bx bz N q E XX Q F W → Calls Try.prog 18 #[.int .i64 a] W fun e w' => e = .returned (.int .i64 a) ∧ HeldW w1 bx bz N q E XX Q F w') := fun W a hW => (err_any a W).mono fun _ _ ⟨he, hb⟩ => ⟨he, by rw [hb]; exact hW⟩
  have hW6 : HeldW w1 bx bz N q E XX Q F w6 := ⟨o0, o1, o2, y0, y1, y2, ob, o3, y3⟩
  clear G5 G6 G7 G8
  go_region_held3 (fun W => W.cell? ⟨bx, 0, none⟩ = some (.int .i64 N) ∧ W.cell? ⟨bx, 1, none⟩ = some (.int .i64 (q : Int)) ∧ W.cell? ⟨bx, 2, none⟩ = some (.int .i64 (E : Int)) ∧ W.cell? ⟨bz, 0, none⟩ = some (.string XX) ∧ W.cell? ⟨bz, 1, none⟩ = some (.int .i64 (Q : Int)) ∧ W.cell? ⟨bz, 2, none⟩ = some (.int .i64 (F : Int)) ∧ Hid (Below w1.heap.size w1 W) ∧ Hid (bx < W.heap.size) ∧ Hid (bz < W.heap.size)) (first | assumption | exact HeldW.drew (by assumption)) (first | (go_at_call 14; refine Calls.mono (C14.out _ (by assumption)) ?_; rintro e w7 ⟨rfl, hW7⟩) | (go_at_call 15; refine Calls.mono (C15.out _ (by assumption)) ?_; rintro e w7 ⟨rfl, hW7⟩) | (go_at_call 16; refine Calls.mono (C16.out _ (by assumption)) ?_; rintro e w7 ⟨rfl, hW7⟩) | (go_at_call 17; refine Calls.mono (C17.out _ (by assumption)) ?_; rintro e w7 ⟨rfl, hW7⟩) | (go_at_call 9; refine Calls.mono (C9.out _ (by assumption)) ?_; rintro e w7 ⟨rfl, hW7⟩) | (go_at_call 18; refine Calls.mono (C18.out _ _ (by assumption)) ?_; rintro e w7 ⟨rfl, hW7⟩))
  have hfin : Hid (Below w1.heap.size w1 w7) := hW7.2.2.2.2.2.2.1
  go_wp2
  go_ret
  exact ⟨rfl, hfin.out⟩
end Go.Proofs.Ytfelgifhendbbaa
