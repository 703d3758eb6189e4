/- The parser's expr, unary, statement by their contracts, out of what they hold. -/
import Derived.Test.YtoeolonbkeldoaaDoorPsW
namespace Go.Proofs.YtoeolonbkeldoaaDoor.R
open Go.RowKit
set_option linter.unusedVariables false
set_option maxRecDepth 100000 in
set_option maxHeartbeats 1000000 in
theorem expr_part {F : Nat → Prop} {base B dep : Nat} {st : Ps.St} {nv : Value} {w : World} (h : RS F base B dep st nv w) (hd : dep < 40) (R : Nat × Ps.St)
    (HP : ∀ W, RS F base B (dep + 1) st nv W → Calls Tryd.prog 74 #[.pointer (some ⟨B, 0, none⟩)] W fun e w' => e = .returned (.int .i64 (R.1 : Int)) ∧ Leaves F base B (dep + 1) nv W R.2 w') :
    Calls Tryd.prog 67 #[.pointer (some ⟨B, 0, none⟩)] w fun e w' => e = .returned (.int .i64 (R.1 : Int)) ∧ Leaves F base B dep nv w R.2 w' := by
  have HW : Hid (_) := within_e h hd R HP
  clear h HP
  obtain ⟨r, st'⟩ := R
  simp only at HW ⊢
  go_enter Tryd.func67, Tryd.ntmps67
  go_wp2_with fail
  refine Calls.mono HW.out ?_
  rintro e w1 ⟨rfl, hl⟩
  go_wp2_with fail
  go_ret
  exact ⟨rfl, hl⟩
set_option maxRecDepth 100000 in
set_option maxHeartbeats 1000000 in
theorem expr_full {F : Nat → Prop} {base B dep : Nat} {st : Ps.St} {nv : Value} {w : World} (h : RS F base B dep st nv w) (hd : dep = 40) (hlen : st.nodes.length ≤ 1000000000) :
    Calls Tryd.prog 67 #[.pointer (some ⟨B, 0, none⟩)] w fun e w' => e = .returned (.int .i64 (st.nodes.length : Int)) ∧ Leaves F base B dep nv w (Ps.fail st).2 w' := by
  have HW : Hid (_) := within_full h hd hlen (.func (.func 74) #[.pointer (some ⟨B, 0, none⟩)] #[])
  clear h hlen
  go_enter Tryd.func67, Tryd.ntmps67
  go_wp2_with fail
  refine Calls.mono HW.out ?_
  rintro e w1 ⟨rfl, hl⟩
  go_wp2_with fail
  go_ret
  exact ⟨rfl, hl⟩
set_option maxRecDepth 100000 in
set_option maxHeartbeats 1000000 in
theorem unary_part {F : Nat → Prop} {base B dep : Nat} {st : Ps.St} {nv : Value} {w : World} (h : RS F base B dep st nv w) (hd : dep < 40) (R : Nat × Ps.St)
    (HP : ∀ W, RS F base B (dep + 1) st nv W → Calls Tryd.prog 86 #[.pointer (some ⟨B, 0, none⟩)] W fun e w' => e = .returned (.int .i64 (R.1 : Int)) ∧ Leaves F base B (dep + 1) nv W R.2 w') :
    Calls Tryd.prog 85 #[.pointer (some ⟨B, 0, none⟩)] w fun e w' => e = .returned (.int .i64 (R.1 : Int)) ∧ Leaves F base B dep nv w R.2 w' := by
  have HW : Hid (_) := within_u h hd R HP
  clear h HP
  obtain ⟨r, st'⟩ := R
  simp only at HW ⊢
  go_enter Tryd.func85, Tryd.ntmps85
  go_wp2_with fail
  refine Calls.mono HW.out ?_
  rintro e w1 ⟨rfl, hl⟩
  go_wp2_with fail
  go_ret
  exact ⟨rfl, hl⟩
set_option maxRecDepth 100000 in
set_option maxHeartbeats 1000000 in
theorem unary_full {F : Nat → Prop} {base B dep : Nat} {st : Ps.St} {nv : Value} {w : World} (h : RS F base B dep st nv w) (hd : dep = 40) (hlen : st.nodes.length ≤ 1000000000) :
    Calls Tryd.prog 85 #[.pointer (some ⟨B, 0, none⟩)] w fun e w' => e = .returned (.int .i64 (st.nodes.length : Int)) ∧ Leaves F base B dep nv w (Ps.fail st).2 w' := by
  have HW : Hid (_) := within_full h hd hlen (.func (.func 86) #[.pointer (some ⟨B, 0, none⟩)] #[])
  clear h hlen
  go_enter Tryd.func85, Tryd.ntmps85
  go_wp2_with fail
  refine Calls.mono HW.out ?_
  rintro e w1 ⟨rfl, hl⟩
  go_wp2_with fail
  go_ret
  exact ⟨rfl, hl⟩
set_option maxRecDepth 100000 in
set_option maxHeartbeats 1000000 in
theorem statement_part {F : Nat → Prop} {base B dep : Nat} {st : Ps.St} {nv : Value} {w : World} (h : RS F base B dep st nv w) (hd : dep < 40) (R : Nat × Ps.St)
    (HP : ∀ W, RS F base B (dep + 1) st nv W → Calls Tryd.prog 32 #[.pointer (some ⟨B, 0, none⟩)] W fun e w' => e = .returned (.int .i64 (R.1 : Int)) ∧ Leaves F base B (dep + 1) nv W R.2 w') :
    Calls Tryd.prog 19 #[.pointer (some ⟨B, 0, none⟩)] w fun e w' => e = .returned (.int .i64 (R.1 : Int)) ∧ Leaves F base B dep nv w R.2 w' := by
  have HW : Hid (_) := within_s h hd R HP
  clear h HP
  obtain ⟨r, st'⟩ := R
  simp only at HW ⊢
  go_enter Tryd.func19, Tryd.ntmps19
  go_wp2_with fail
  refine Calls.mono HW.out ?_
  rintro e w1 ⟨rfl, hl⟩
  go_wp2_with fail
  go_ret
  exact ⟨rfl, hl⟩
set_option maxRecDepth 100000 in
set_option maxHeartbeats 1000000 in
theorem statement_full {F : Nat → Prop} {base B dep : Nat} {st : Ps.St} {nv : Value} {w : World} (h : RS F base B dep st nv w) (hd : dep = 40) (hlen : st.nodes.length ≤ 1000000000) :
    Calls Tryd.prog 19 #[.pointer (some ⟨B, 0, none⟩)] w fun e w' => e = .returned (.int .i64 (st.nodes.length : Int)) ∧ Leaves F base B dep nv w (Ps.fail st).2 w' := by
  have HW : Hid (_) := within_full h hd hlen (.func (.func 32) #[.pointer (some ⟨B, 0, none⟩)] #[])
  clear h hlen
  go_enter Tryd.func19, Tryd.ntmps19
  go_wp2_with fail
  refine Calls.mono HW.out ?_
  rintro e w1 ⟨rfl, hl⟩
  go_wp2_with fail
  go_ret
  exact ⟨rfl, hl⟩
end Go.Proofs.YtoeolonbkeldoaaDoor.R
