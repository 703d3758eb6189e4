/- The parser's inner, exprStatement by their contracts. -/
import Derived.Test.YtoeolonbkeldoaaDoorPsI
import Derived.Test.YtoeolonbkeldoaaDoorPsO
namespace Go.Proofs.YtoeolonbkeldoaaDoor.R
open Go.RowKit
open L (tkA own_block)
set_option linter.unusedVariables false
set_option maxRecDepth 100000 in
set_option maxHeartbeats 2000000 in
theorem exprS_any {F : Nat → Prop} {base B dep : Nat} {L : Ps.Lv} {st : Ps.St} {nv : Value} {w : World} (hL : LvC F base B dep L) (h : RS F base B dep st nv w) (hlen : (Ps.exprS L st).2.nodes.length ≤ 1000000000) (hk : (L.e st).1 < (L.e st).2.nodes.length) :
    Calls Tryd.prog 56 #[.pointer (some ⟨B, 0, none⟩)] w fun e w' => e = .returned (.int .i64 ((Ps.exprS L st).1 : Int)) ∧ Leaves F base B dep nv w (Ps.exprS L st).2 w' := by
  have e1 : (Ps.exprS L st).1 = (Ps.endS (L.e st).2).2.nodes.length := rfl
  have e2 : (Ps.exprS L st).2 = (Ps.over { k := 24 } [(L.e st).1] (Ps.endS (L.e st).2).2).2 := rfl
  rw [e1, e2]
  rw [e2] at hlen
  have g1 := hL.gr.e st
  have g2 := Ps.gr_endS (L.e st).2
  have g3 := Ps.gr_over { k := 24 } [(L.e st).1] (Ps.endS (L.e st).2).2
  have H1 : Hid (_) := hL.e h (by omega)
  have H2 : Hid (∀ W nv', RS F base B dep (L.e st).2 nv' W → Calls Tryd.prog 66 #[.pointer (some ⟨B, 0, none⟩)] W fun e w' => e = .returned (.tuple #[]) ∧ Leaves F base B dep nv' W (Ps.endS (L.e st).2).2 w') := fun W nv' hW => endS_any hW (by omega)
  have H3 : Hid (∀ W nv', RS F base B dep (Ps.endS (L.e st).2).2 nv' W → Calls Tryd.prog 71 #[.pointer (some ⟨B, 0, none⟩), .agg #[.int .i64 24, .int .i64 0, .string ⟨#[]⟩, .slice none 0 0, .slice none 0 0, .int .i64 0], .slice (some ⟨W.heap.size, 0, none⟩) 1 1] (W.alloc (.cells #[.int .i64 ((L.e st).1 : Int)] 3)) fun e w' => e = .returned (.int .i64 ((Ps.endS (L.e st).2).2.nodes.length : Int)) ∧ Leaves F base B dep nv' W (Ps.over { k := 24 } [(L.e st).1] (Ps.endS (L.e st).2).2).2 w') := fun W nv' hW => by
    have hb : Below W.heap.size W (W.alloc (.cells #[.int .i64 ((L.e st).1 : Int)] 3)) := (Below.refl _ _).alloc (Nat.le_refl _) _
    refine (over_any (hW.below hb) (by omega) 24 [] (L.e st).1 [] W.heap.size 1 (by simp) (by simp) (fun j hj => ?_) (fun j hj => ?_) (by omega)).mono ?_
    · have hj0 : j = 0 := by simpa using hj
      subst hj0
      simp
    · have hj' : W.heap.size = j := by simpa [blockOf] using hj
      subst hj'
      refine ⟨by have := hW.lt; omega, fun e => ?_, fun hF => by have := (hW.far _ hF).1; omega⟩
      obtain ⟨vs, _, ho, _⟩ := hW.nd
      have := (own_block ho _ e).2
      omega
    · rintro e w' ⟨rfl, nv2, hr, hc⟩
      exact ⟨rfl, nv2, hr, (Chg.below nv' hb).trans hc⟩
  clear h hlen e1 e2 g1 g2 g3 hL hk
  generalize (Ps.over { k := 24 } [(L.e st).1] (Ps.endS (L.e st).2).2).2 = s3 at *
  generalize (Ps.endS (L.e st).2).2 = s2 at *
  generalize L.e st = P at *
  obtain ⟨r, s1⟩ := P
  simp only at H1 H2 H3 ⊢
  go_enter Tryd.func56, Tryd.ntmps56
  go_wp2_with fail
  refine Calls.mono H1.out ?_
  rintro e w1 ⟨rfl, nv1, hr1, hc1⟩
  go_wp2_with fail
  refine Calls.mono (H2.out _ _ hr1) ?_
  rintro e w2 ⟨rfl, nv2, hr2, hc2⟩
  go_wp2_with fail
  refine Calls.mono (H3.out _ _ hr2) ?_
  rintro e w3 ⟨rfl, nv3, hr3, hc3⟩
  go_wp2_with fail
  go_ret
  exact ⟨rfl, nv3, hr3, (hc1.trans hc2).trans hc3⟩
end Go.Proofs.YtoeolonbkeldoaaDoor.R
