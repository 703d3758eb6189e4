-- PROVED: the walk of FrameAll.
import Derived.Test.YtpkeeoeghdmagaaFRefAll
import Derived.Deep.RegionHeld3
import Derived.Deep.DrawnRows
namespace Go.Proofs.Ytpkeeoeghdmagaa.F
open Go.RowKit
attribute [local go_sem ↓] Go.wp_at_zero Go.wp_at_succ
/-- What is held while the last statement is reckoned: what was there is as it was; both lists; the ends. -/
structure Kept (w : World) (bx bz base : Nat) (ao bo : Option Addr) (L : List (List UInt8)) (vE : Value) (E : List Nat) (W : World) : Prop where
  bel : Below w.heap.size w W
  lx : bx < W.heap.size
  ly : bz < W.heap.size
  la : Lies W ao L
  lb : Lies W bo L
  own : W.ownsRow base 3 1 vE E.length (ints E)
theorem Kept.go {w : World} {bx bz base : Nat} {ao bo : Option Addr} {L : List (List UInt8)} {vE : Value} {E : List Nat} {W W' : World} (h : Kept w bx bz base ao bo L vE E W) (hb : Below W.heap.size W W') : Kept w bx bz base ao bo L vE E W' :=
  ⟨C.below_chain h.bel hb, Nat.lt_of_lt_of_le h.lx hb.size, Nat.lt_of_lt_of_le h.ly hb.size, h.la.below hb, h.lb.below hb, own_below h.own hb⟩
def HeldF (w : World) (bx bz base : Nat) (ao bo : Option Addr) (L : List (List UInt8)) (vE : Value) (E : List Nat) (P : ByteArray) (e1 e2 : Int) (vL : Value) (W : World) : Prop :=
  W.cell? ⟨bx, 0, none⟩ = some (.string P) ∧ W.cell? ⟨bx, 2, none⟩ = some (.int .i64 e1) ∧ W.cell? ⟨bz, 0, none⟩ = some vL ∧ W.cell? ⟨bz, 1, none⟩ = some vE ∧ W.cell? ⟨bz, 2, none⟩ = some (.int .i64 e2) ∧ Hid (Kept w bx bz base ao bo L vE E W)
theorem HeldF.go {w : World} {bx bz base : Nat} {ao bo : Option Addr} {L : List (List UInt8)} {vE vL : Value} {E : List Nat} {P : ByteArray} {e1 e2 : Int} {W W' : World} (h : HeldF w bx bz base ao bo L vE E P e1 e2 vL W) (hb : Below W.heap.size W W') : HeldF w bx bz base ao bo L vE E P e1 e2 vL W' := by
  obtain ⟨x0, x2, y0, y1, y2, k⟩ := h
  exact ⟨(hb.cell (p := ⟨bx, 0, none⟩) k.out.lx).trans x0, (hb.cell (p := ⟨bx, 2, none⟩) k.out.lx).trans x2, (hb.cell (p := ⟨bz, 0, none⟩) k.out.ly).trans y0, (hb.cell (p := ⟨bz, 1, none⟩) k.out.ly).trans y1, (hb.cell (p := ⟨bz, 2, none⟩) k.out.ly).trans y2, k.out.go hb⟩
theorem HeldF.drew {w : World} {bx bz base : Nat} {ao bo : Option Addr} {L : List (List UInt8)} {vE vL : Value} {E : List Nat} {P : ByteArray} {e1 e2 : Int} {W : World} (h : HeldF w bx bz base ao bo L vE E P e1 e2 vL W) : HeldF w bx bz base ao bo L vE E P e1 e2 vL W.drew :=
  h.go (Below.refl _ _).drew
theorem all_bound (l : List UInt8) : (Fm.all l).1.length ≤ l.length := by
  have : ∀ k l, (Fm.allF k l).1.length ≤ k := by
    intro k
    induction k with
    | zero => intro l; simp [Fm.allF]
    | succ k ih =>
      intro l
      unfold Fm.allF
      by_cases h : l = []
      · rw [if_pos h]; simp
      · rw [if_neg h]
        by_cases h0 : (Fm.one l).2.2 = 0
        · rw [if_pos h0]
          have := ih (l.drop (Fm.one l).2.1)
          simp only [List.length_cons]
          omega
        · rw [if_neg h0]; simp
  exact this _ _
set_option maxRecDepth 100000 in
set_option maxHeartbeats 4000000 in
theorem all_walk (t s : ByteArray) (ht : t.size ≤ maxLen) (hs : s.size ≤ maxLen) (w : World) :
    Calls Try.prog 3 #[.string t, .string s] w fun e w' => e = .returned (.bool true) ∧ Below w.heap.size w w' := by
  unfold maxLen at ht hs
  by_cases k1 : 5000 < t.size
  · go_enter Try.func3, Try.ntmps3
    go_wp2_with fail
    refine (awake_any _).mono ?_
    rintro e w1 ⟨rfl, hb⟩
    go_wp2
    go_ret
    exact ⟨rfl, hb⟩
  by_cases k2 : 2000 < s.size
  · go_enter Try.func3, Try.ntmps3
    go_wp2_with fail
    refine (awake_any _).mono ?_
    rintro e w1 ⟨rfl, hb⟩
    go_wp2
    go_ret
    exact ⟨rfl, hb⟩
  have G1 : Hid (∀ w, _) := fun w => put_any t w
  have G2 : Hid (∀ w, _) := fun w => rput_any t w
  have G3 : Hid (∀ w, _) := fun w => all_any s w (by omega)
  have G4 : Hid (∀ w, _) := fun w => rall_any s w (by omega)
  have hbd := all_bound s.data.toList
  rw [V.size_list] at hbd
  generalize putE t.data.toList = x at G1 G2
  generalize Fm.all s.data.toList = y at G3 G4 hbd
  obtain ⟨X, e1⟩ := x
  obtain ⟨L, u, f⟩ := y
  simp only [] at G1 G2 G3 G4 hbd
  generalize (⟨X.toArray⟩ : ByteArray) = P at G1 G2
  go_enter Try.func3, Try.ntmps3
  go_wp2_with fail
  refine Calls.mono (G1.out _) ?_
  rintro e w1 ⟨rfl, hb1⟩
  go_wp2_with fail
  refine Calls.mono (G2.out _) ?_
  rintro e w2 ⟨rfl, hb2⟩
  have ob := C.below_chain hb1 hb2
  clear hb1 hb2
  go_wp2_with fail
  refine Calls.mono (G3.out _) ?_
  rintro e w3 ⟨v, rfl, ho3, hb3⟩
  obtain ⟨ao, ca, rfl, hca, hla⟩ := Lies.own ho3
  clear ho3
  go_wp2_with fail
  refine Calls.mono (G4.out _) ?_
  rintro e w4 ⟨vL, vE, E, rfl, hE, hoL, hoE, hEn, hb4⟩
  obtain ⟨bo, cb, rfl, hcb, hlb⟩ := Lies.own hoL
  obtain ⟨eo, ce, rfl⟩ := own_len hoE
  clear hoL
  have hb5 : Below w4.heap.size w4 (w4.alloc (.cells #[.slice bo L.length cb, .slice eo E.length ce, .int .i64 (f : Int)] 34)) := (Below.refl _ _).alloc (Nat.le_refl _) _
  obtain ⟨x0, x1, x2, x3, x4, x5, x6⟩ := blk3 (heap_below (heap_below (heap_below (last_obj w2 _) hb3) hb4) hb5)
  obtain ⟨y0, y1, y2, y3, y4, y5, y6⟩ := blk3 (last_obj w4 (.cells #[.slice bo L.length cb, .slice eo E.length ce, .int .i64 (f : Int)] 34))
  have ob2 := C.below_chain (C.below_chain (C.below_chain (C.below_chain ob ((Below.refl _ w2).alloc (Nat.le_refl _) _)) hb3) hb4) hb5
  have hW6 : HeldF w w2.heap.size w4.heap.size w3.heap.size ao bo L (.slice eo E.length ce) E P (e1 : Int) (f : Int) (.slice bo L.length cb) (w4.alloc (.cells #[.slice bo L.length cb, .slice eo E.length ce, .int .i64 (f : Int)] 34)) :=
    ⟨x0, x2, y0, y1, y2, (show Kept _ _ _ _ _ _ _ _ _ _ from ⟨ob2, x6, y6, (hla.below hb4).below hb5, hlb.below hb5, own_below hoE hb5⟩)⟩
  clear x0 x1 x2 x3 x4 x5 x6 y0 y1 y2 y3 y4 y5 y6 ob2 ob hla hlb hb3 hb4 hb5 hoE
  go_wp2_with fail
  generalize w4.alloc (.cells #[.slice bo L.length cb, .slice eo E.length ce, .int .i64 (f : Int)] 34) = w6 at hW6 ⊢
  generalize w2.heap.size = bx at hW6 ⊢
  generalize w4.heap.size = bz at hW6 ⊢
  generalize w3.heap.size = base at hW6
  clear G1 G2 G3 G4 ht hs k1 k2
  have C14 : Hid (∀ W, HeldF w bx bz base ao bo L (.slice eo E.length ce) E P (e1 : Int) (f : Int) (.slice bo L.length cb) W → Calls Try.prog 14 #[.slice ao L.length ca, .slice bo L.length cb] W fun e w' => e = .returned (.bool true) ∧ HeldF w bx bz base ao bo L (.slice eo E.length ce) E P (e1 : Int) (f : Int) (.slice bo L.length cb) w') :=
    fun W hW => (same_any L ao bo ca cb W (by omega) hW.2.2.2.2.2.out.la hW.2.2.2.2.2.out.lb).mono fun _ _ ⟨he, hb⟩ => ⟨he, hW.go hb⟩
  have C15 : Hid (∀ W, HeldF w bx bz base ao bo L (.slice eo E.length ce) E P (e1 : Int) (f : Int) (.slice bo L.length cb) W → Calls Try.prog 15 #[.agg #[.slice bo L.length cb, .slice eo E.length ce, .int .i64 (f : Int)]] W fun e w' => e = .returned (.int .i64 (u : Int)) ∧ HeldF w bx bz base ao bo L (.slice eo E.length ce) E P (e1 : Int) (f : Int) (.slice bo L.length cb) w') :=
    fun W hW => (used_any _ _ E u base _ W hE hW.2.2.2.2.2.out.own hEn).mono fun _ _ ⟨he, hb⟩ => ⟨he, hW.go hb⟩
  have C8 : Hid (∀ W, HeldF w bx bz base ao bo L (.slice eo E.length ce) E P (e1 : Int) (f : Int) (.slice bo L.length cb) W → Calls Try.prog 8 #[] W fun e w' => e = .returned (.bool true) ∧ HeldF w bx bz base ao bo L (.slice eo E.length ce) E P (e1 : Int) (f : Int) (.slice bo L.length cb) w') :=
    fun W hW => (awake_any W).mono fun _ _ ⟨he, hb⟩ => ⟨he, hW.go hb⟩
  have C13 : Hid (∀ W a, HeldF w bx bz base ao bo L (.slice eo E.length ce) E P (e1 : Int) (f : Int) (.slice bo L.length cb) W → Calls Try.prog 13 #[.int .i64 a] W fun e w' => e = .returned (.int .i64 a) ∧ HeldF w bx bz base ao bo L (.slice eo E.length ce) E P (e1 : Int) (f : Int) (.slice bo L.length cb) w') :=
    fun W a hW => (V.err_any a W).mono fun _ _ ⟨he, hb⟩ => ⟨he, by rw [hb]; exact hW⟩
  clear hE hEn hca hcb hbd
  generalize (L.length : Nat) = nL at *
  go_region_held3 (fun W => W.cell? ⟨bx, 0, none⟩ = some (.string P) ∧ W.cell? ⟨bx, 2, none⟩ = some (.int .i64 (e1 : Int)) ∧ W.cell? ⟨bz, 0, none⟩ = some (.slice bo nL cb) ∧ W.cell? ⟨bz, 1, none⟩ = some (.slice eo E.length ce) ∧ W.cell? ⟨bz, 2, none⟩ = some (.int .i64 (f : Int)) ∧ Hid (Kept w bx bz base ao bo L (.slice eo E.length ce) E W)) (first | assumption | exact HeldF.drew (by assumption)) (first | (go_at_call 14; refine Calls.mono (C14.out _ (by assumption)) ?_; rintro e w7 ⟨rfl, hW7⟩) | (go_at_call 15; refine Calls.mono (C15.out _ (by assumption)) ?_; rintro e w7 ⟨rfl, hW7⟩) | (go_at_call 8; refine Calls.mono (C8.out _ (by assumption)) ?_; rintro e w7 ⟨rfl, hW7⟩) | (go_at_call 13; refine Calls.mono (C13.out _ _ (by assumption)) ?_; rintro e w7 ⟨rfl, hW7⟩))
  have hfin : Hid (Below w.heap.size w w7) := hW7.2.2.2.2.2.out.bel
  go_wp2
  go_ret
  exact ⟨rfl, hfin.out⟩
end Go.Proofs.Ytpkeeoeghdmagaa.F
