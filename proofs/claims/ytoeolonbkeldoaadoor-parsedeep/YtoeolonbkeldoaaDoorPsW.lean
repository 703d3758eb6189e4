/- The parser's within, over by their contracts. -/
import Derived.Test.YtoeolonbkeldoaaDoorPsN
namespace Go.Proofs.YtoeolonbkeldoaaDoor.R
open Go.RowKit
open L (TokAt tkA own_block own_below cells5h cells5 info_of)
set_option linter.unusedVariables false
/-- The reader at another depth. -/
theorem RS.deep {F : Nat → Prop} {base B dep : Nat} {st : Ps.St} {nv : Value} {W : World} (h : RS F base B dep st nv W) (d : Nat) : RS F base B d st nv (W.setCell ⟨B, 2, none⟩ (.int .i64 (d : Int))) ∧ Chg B nv nv W (W.setCell ⟨B, 2, none⟩ (.int .i64 (d : Int))) := by
  have c : ChgB B W (W.setCell ⟨B, 2, none⟩ (.int .i64 (d : Int))) := Chg.setB B _ W 2 _
  obtain ⟨tv, h1, h2, h3⟩ := h.rd
  exact ⟨h.turn c rfl h.few h.last tv (set2 h1 _) (h2.go h3 (c.chg nv)) h3, c.chg nv⟩
theorem RS.cells {F : Nat → Prop} {base B dep : Nat} {st : Ps.St} {nv : Value} {W : World} (h : RS F base B dep st nv W) : W.cell? ⟨B, 1, none⟩ = some nv ∧ W.cell? ⟨B, 2, none⟩ = some (.int .i64 (dep : Int)) ∧ W.cell? ⟨B, 3, none⟩ = some (.bool st.failed) ∧ W.cell? ⟨B, 4, none⟩ = some (.int .i64 (st.at_ : Int)) ∧ W.frozen? ⟨B, 2, none⟩ = false ∧ B < W.heap.size := by
  obtain ⟨tv, h1, -, -⟩ := h.rd
  obtain ⟨q0, q1, q2, q3, q4, f0, f1, f2, f3, f4, hlt⟩ := cells5h h1
  exact ⟨q1, q2, q3, q4, f2, hlt⟩
set_option maxRecDepth 100000 in
set_option maxHeartbeats 2000000 in
theorem within_e {F : Nat → Prop} {base B dep : Nat} {st : Ps.St} {nv : Value} {w : World} (h : RS F base B dep st nv w) (hd : dep < 40) (R : Nat × Ps.St)
    (HP : ∀ W, RS F base B (dep + 1) st nv W → Calls Tryd.prog 74 #[.pointer (some ⟨B, 0, none⟩)] W fun e w' => e = .returned (.int .i64 (R.1 : Int)) ∧ Leaves F base B (dep + 1) nv W R.2 w') :
    Calls Tryd.prog 31 #[.pointer (some ⟨B, 0, none⟩), .func (.func 74) #[.pointer (some ⟨B, 0, none⟩)] #[]] w fun e w' => e = .returned (.int .i64 (R.1 : Int)) ∧ Leaves F base B dep nv w R.2 w' := by
  have HPP : Hid (_) := HP
  obtain ⟨q1, q2, q3, q4, f2, hlt⟩ := h.cells
  obtain ⟨hr1, hc1⟩ := h.deep (dep + 1)
  rw [show ((dep + 1 : Nat) : Int) = (dep : Int) + 1 by omega] at hr1 hc1
  have HR1 : Hid (_) := hr1
  have HC1 : Hid (_) := hc1
  have hd40 : ((dep : Int) == 40) = false := by rw [beq_eq_false_iff_ne]; omega
  have hdl : (dep : Int) < 40 := by omega
  have hd0 : (0 : Int) ≤ dep := by omega
  clear h hr1 hc1 HP
  obtain ⟨r, st'⟩ := R
  simp only at HPP ⊢
  go_enter Tryd.func31, Tryd.ntmps31
  go_wp2_with fail
  refine Calls.mono (HPP.out _ HR1.out) ?_
  rintro e w1 ⟨rfl, nv', hr, hc⟩
  obtain ⟨u1, u2, u3, u4, v2, hlt1⟩ := hr.cells
  rw [show ((dep + 1 : Nat) : Int) = (dep : Int) + 1 by omega] at u2
  obtain ⟨hr2, hc2⟩ := hr.deep dep
  have HR2 : Hid (_) := hr2
  have HC2 : Hid (Chg B nv nv' w _) := HC1.out.trans (hc.trans hc2)
  have hdd : (dep : Int) + 1 - 1 = dep := by omega
  clear hr hc hr2 hc2 HPP HR1 HC1
  go_wp2_with fail
  go_ret
  exact ⟨rfl, nv', HR2.out, HC2.out⟩
set_option maxRecDepth 100000 in
set_option maxHeartbeats 2000000 in
theorem within_u {F : Nat → Prop} {base B dep : Nat} {st : Ps.St} {nv : Value} {w : World} (h : RS F base B dep st nv w) (hd : dep < 40) (R : Nat × Ps.St)
    (HP : ∀ W, RS F base B (dep + 1) st nv W → Calls Tryd.prog 86 #[.pointer (some ⟨B, 0, none⟩)] W fun e w' => e = .returned (.int .i64 (R.1 : Int)) ∧ Leaves F base B (dep + 1) nv W R.2 w') :
    Calls Tryd.prog 31 #[.pointer (some ⟨B, 0, none⟩), .func (.func 86) #[.pointer (some ⟨B, 0, none⟩)] #[]] w fun e w' => e = .returned (.int .i64 (R.1 : Int)) ∧ Leaves F base B dep nv w R.2 w' := by
  have HPP : Hid (_) := HP
  obtain ⟨q1, q2, q3, q4, f2, hlt⟩ := h.cells
  obtain ⟨hr1, hc1⟩ := h.deep (dep + 1)
  rw [show ((dep + 1 : Nat) : Int) = (dep : Int) + 1 by omega] at hr1 hc1
  have HR1 : Hid (_) := hr1
  have HC1 : Hid (_) := hc1
  have hd40 : ((dep : Int) == 40) = false := by rw [beq_eq_false_iff_ne]; omega
  have hdl : (dep : Int) < 40 := by omega
  have hd0 : (0 : Int) ≤ dep := by omega
  clear h hr1 hc1 HP
  obtain ⟨r, st'⟩ := R
  simp only at HPP ⊢
  go_enter Tryd.func31, Tryd.ntmps31
  go_wp2_with fail
  refine Calls.mono (HPP.out _ HR1.out) ?_
  rintro e w1 ⟨rfl, nv', hr, hc⟩
  obtain ⟨u1, u2, u3, u4, v2, hlt1⟩ := hr.cells
  rw [show ((dep + 1 : Nat) : Int) = (dep : Int) + 1 by omega] at u2
  obtain ⟨hr2, hc2⟩ := hr.deep dep
  have HR2 : Hid (_) := hr2
  have HC2 : Hid (Chg B nv nv' w _) := HC1.out.trans (hc.trans hc2)
  have hdd : (dep : Int) + 1 - 1 = dep := by omega
  clear hr hc hr2 hc2 HPP HR1 HC1
  go_wp2_with fail
  go_ret
  exact ⟨rfl, nv', HR2.out, HC2.out⟩
set_option maxRecDepth 100000 in
set_option maxHeartbeats 2000000 in
theorem within_p {F : Nat → Prop} {base B dep : Nat} {st : Ps.St} {nv : Value} {w : World} (h : RS F base B dep st nv w) (hd : dep < 40) (R : Nat × Ps.St)
    (HP : ∀ W, RS F base B (dep + 1) st nv W → Calls Tryd.prog 87 #[.pointer (some ⟨B, 0, none⟩)] W fun e w' => e = .returned (.int .i64 (R.1 : Int)) ∧ Leaves F base B (dep + 1) nv W R.2 w') :
    Calls Tryd.prog 31 #[.pointer (some ⟨B, 0, none⟩), .func (.func 87) #[.pointer (some ⟨B, 0, none⟩)] #[]] w fun e w' => e = .returned (.int .i64 (R.1 : Int)) ∧ Leaves F base B dep nv w R.2 w' := by
  have HPP : Hid (_) := HP
  obtain ⟨q1, q2, q3, q4, f2, hlt⟩ := h.cells
  obtain ⟨hr1, hc1⟩ := h.deep (dep + 1)
  rw [show ((dep + 1 : Nat) : Int) = (dep : Int) + 1 by omega] at hr1 hc1
  have HR1 : Hid (_) := hr1
  have HC1 : Hid (_) := hc1
  have hd40 : ((dep : Int) == 40) = false := by rw [beq_eq_false_iff_ne]; omega
  have hdl : (dep : Int) < 40 := by omega
  have hd0 : (0 : Int) ≤ dep := by omega
  clear h hr1 hc1 HP
  obtain ⟨r, st'⟩ := R
  simp only at HPP ⊢
  go_enter Tryd.func31, Tryd.ntmps31
  go_wp2_with fail
  refine Calls.mono (HPP.out _ HR1.out) ?_
  rintro e w1 ⟨rfl, nv', hr, hc⟩
  obtain ⟨u1, u2, u3, u4, v2, hlt1⟩ := hr.cells
  rw [show ((dep + 1 : Nat) : Int) = (dep : Int) + 1 by omega] at u2
  obtain ⟨hr2, hc2⟩ := hr.deep dep
  have HR2 : Hid (_) := hr2
  have HC2 : Hid (Chg B nv nv' w _) := HC1.out.trans (hc.trans hc2)
  have hdd : (dep : Int) + 1 - 1 = dep := by omega
  clear hr hc hr2 hc2 HPP HR1 HC1
  go_wp2_with fail
  go_ret
  exact ⟨rfl, nv', HR2.out, HC2.out⟩
set_option maxRecDepth 100000 in
set_option maxHeartbeats 2000000 in
theorem within_s {F : Nat → Prop} {base B dep : Nat} {st : Ps.St} {nv : Value} {w : World} (h : RS F base B dep st nv w) (hd : dep < 40) (R : Nat × Ps.St)
    (HP : ∀ W, RS F base B (dep + 1) st nv W → Calls Tryd.prog 32 #[.pointer (some ⟨B, 0, none⟩)] W fun e w' => e = .returned (.int .i64 (R.1 : Int)) ∧ Leaves F base B (dep + 1) nv W R.2 w') :
    Calls Tryd.prog 31 #[.pointer (some ⟨B, 0, none⟩), .func (.func 32) #[.pointer (some ⟨B, 0, none⟩)] #[]] w fun e w' => e = .returned (.int .i64 (R.1 : Int)) ∧ Leaves F base B dep nv w R.2 w' := by
  have HPP : Hid (_) := HP
  obtain ⟨q1, q2, q3, q4, f2, hlt⟩ := h.cells
  obtain ⟨hr1, hc1⟩ := h.deep (dep + 1)
  rw [show ((dep + 1 : Nat) : Int) = (dep : Int) + 1 by omega] at hr1 hc1
  have HR1 : Hid (_) := hr1
  have HC1 : Hid (_) := hc1
  have hd40 : ((dep : Int) == 40) = false := by rw [beq_eq_false_iff_ne]; omega
  have hdl : (dep : Int) < 40 := by omega
  have hd0 : (0 : Int) ≤ dep := by omega
  clear h hr1 hc1 HP
  obtain ⟨r, st'⟩ := R
  simp only at HPP ⊢
  go_enter Tryd.func31, Tryd.ntmps31
  go_wp2_with fail
  refine Calls.mono (HPP.out _ HR1.out) ?_
  rintro e w1 ⟨rfl, nv', hr, hc⟩
  obtain ⟨u1, u2, u3, u4, v2, hlt1⟩ := hr.cells
  rw [show ((dep + 1 : Nat) : Int) = (dep : Int) + 1 by omega] at u2
  obtain ⟨hr2, hc2⟩ := hr.deep dep
  have HR2 : Hid (_) := hr2
  have HC2 : Hid (Chg B nv nv' w _) := HC1.out.trans (hc.trans hc2)
  have hdd : (dep : Int) + 1 - 1 = dep := by omega
  clear hr hc hr2 hc2 HPP HR1 HC1
  go_wp2_with fail
  go_ret
  exact ⟨rfl, nv', HR2.out, HC2.out⟩
set_option maxRecDepth 100000 in
set_option maxHeartbeats 2000000 in
theorem within_full {F : Nat → Prop} {base B dep : Nat} {st : Ps.St} {nv : Value} {w : World} (h : RS F base B dep st nv w) (hd : dep = 40) (hlen : st.nodes.length ≤ 1000000000) (v : Value) :
    Calls Tryd.prog 31 #[.pointer (some ⟨B, 0, none⟩), v] w fun e w' => e = .returned (.int .i64 (st.nodes.length : Int)) ∧ Leaves F base B dep nv w (Ps.fail st).2 w' := by
  have HF : Hid (_) := fail_any h hlen
  obtain ⟨q1, q2, q3, q4, f2, hlt⟩ := h.cells
  subst hd
  clear h hlen
  go_enter Tryd.func31, Tryd.ntmps31
  go_wp2_with fail
  refine Calls.mono HF.out ?_
  rintro e w1 ⟨rfl, nv', hr, hc⟩
  go_wp2_with fail
  go_ret
  exact ⟨rfl, nv', hr, hc⟩
end Go.Proofs.YtoeolonbkeldoaaDoor.R
