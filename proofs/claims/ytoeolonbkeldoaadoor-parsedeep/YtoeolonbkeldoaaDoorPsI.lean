/- The parser's inParens, jump by their contracts. -/
import Derived.Test.YtoeolonbkeldoaaDoorPsE
import Derived.Test.YtoeolonbkeldoaaDoorPsG
namespace Go.Proofs.YtoeolonbkeldoaaDoor.R
open Go.RowKit
open L (tkA)
set_option linter.unusedVariables false
/-- What a level is to be: its e, u, statement, by their contracts, where the nodes' number stays small. -/
structure LvC (F : Nat → Prop) (base B dep : Nat) (L : Ps.Lv) : Prop where
  gr : Ps.GrL L
  e : ∀ {st : Ps.St} {nv : Value} {w : World}, RS F base B dep st nv w → (L.e st).2.nodes.length ≤ 1000000000 → Calls Tryd.prog 67 #[.pointer (some ⟨B, 0, none⟩)] w fun e w' => e = .returned (.int .i64 ((L.e st).1 : Int)) ∧ Leaves F base B dep nv w (L.e st).2 w'
  u : ∀ {st : Ps.St} {nv : Value} {w : World}, RS F base B dep st nv w → (L.u st).2.nodes.length ≤ 1000000000 → Calls Tryd.prog 85 #[.pointer (some ⟨B, 0, none⟩)] w fun e w' => e = .returned (.int .i64 ((L.u st).1 : Int)) ∧ Leaves F base B dep nv w (L.u st).2 w'
  s : ∀ {st : Ps.St} {nv : Value} {w : World}, RS F base B dep st nv w → (L.s st).2.nodes.length ≤ 1000000000 → Calls Tryd.prog 19 #[.pointer (some ⟨B, 0, none⟩)] w fun e w' => e = .returned (.int .i64 ((L.s st).1 : Int)) ∧ Leaves F base B dep nv w (L.s st).2 w'
set_option maxRecDepth 100000 in
set_option maxHeartbeats 2000000 in
theorem inParens_any {F : Nat → Prop} {base B dep : Nat} {L : Ps.Lv} {st : Ps.St} {nv : Value} {w : World} (hL : LvC F base B dep L) (h : RS F base B dep st nv w) (hlen : (Ps.inParens L st).2.nodes.length ≤ 1000000000) :
    Calls Tryd.prog 63 #[.pointer (some ⟨B, 0, none⟩)] w fun e w' => e = .returned (.int .i64 ((Ps.inParens L st).1 : Int)) ∧ Leaves F base B dep nv w (Ps.inParens L st).2 w' := by
  have e1 : (Ps.inParens L st).1 = (L.e (Ps.want [40] st).2).1 := rfl
  have e2 : (Ps.inParens L st).2 = (Ps.want [41] (L.e (Ps.want [40] st).2).2).2 := rfl
  rw [e1, e2]
  rw [e2] at hlen
  have g1 := Ps.gr_want [40] st
  have g2 := hL.gr.e (Ps.want [40] st).2
  have g3 := Ps.gr_want [41] (L.e (Ps.want [40] st).2).2
  have H1 : Hid (_) := want_any h (by omega) [40]
  have H2 : Hid (∀ W nv', RS F base B dep (Ps.want [40] st).2 nv' W → Calls Tryd.prog 67 #[.pointer (some ⟨B, 0, none⟩)] W fun e w' => e = .returned (.int .i64 ((L.e (Ps.want [40] st).2).1 : Int)) ∧ Leaves F base B dep nv' W (L.e (Ps.want [40] st).2).2 w') := fun W nv' hW => hL.e hW (by omega)
  have H3 : Hid (∀ W nv', RS F base B dep (L.e (Ps.want [40] st).2).2 nv' W → Calls Tryd.prog 68 #[.pointer (some ⟨B, 0, none⟩), .string ⟨#[41]⟩] W fun e w' => e = .returned (.tuple #[]) ∧ Leaves F base B dep nv' W (Ps.want [41] (L.e (Ps.want [40] st).2).2).2 w') := fun W nv' hW => want_any hW (by omega) [41]
  clear h hlen e1 e2 g1 g2 g3 hL
  generalize (Ps.want [41] (L.e (Ps.want [40] st).2).2).2 = s3 at *
  generalize (L.e (Ps.want [40] st).2) = P at *
  generalize (Ps.want [40] st).2 = s1 at *
  obtain ⟨r, s2⟩ := P
  simp only at H2 H3 ⊢
  go_enter Tryd.func63, Tryd.ntmps63
  go_wp2_with fail
  refine Calls.mono H1.out ?_
  rintro e w1 ⟨rfl, nv1, hr1, hc1⟩
  go_wp2_with fail
  refine Calls.mono (H2.out _ _ hr1) ?_
  rintro e w2 ⟨rfl, nv2, hr2, hc2⟩
  go_wp2_with fail
  refine Calls.mono (H3.out _ _ hr2) ?_
  rintro e w3 ⟨rfl, nv3, hr3, hc3⟩
  go_wp2_with fail
  go_ret
  exact ⟨rfl, nv3, hr3, (hc1.trans hc2).trans hc3⟩
end Go.Proofs.YtoeolonbkeldoaaDoor.R
