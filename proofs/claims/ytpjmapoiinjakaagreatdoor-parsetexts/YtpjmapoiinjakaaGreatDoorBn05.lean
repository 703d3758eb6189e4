/- Texts: PsN PsW PsX PsE PsG PsI PsO. -/
import Derived.Test.YtpjmapoiinjakaaGreatDoorBn04
import Derived.Test.YtpjmapoiinjakaaGreatDoorBn03
import Derived.BigRegion
section
namespace Go.Proofs.YtpjmapoiinjakaaGreatDoor.R
open Go.RowKit
open L (TokAt tkA own_block own_below cells5h cells5 info_of)
set_option linter.unusedVariables false
theorem run_field0 (k : Int) (t : ByteArray) (n a : Int) (ln : Bool) (W : World) : (Instr.field 34 (.agg #[.int .i64 k, .string t, .int .i64 n, .int .i64 a, .bool ln]) 0).run Tryz.prog W = .ok (.int .i64 k) W := by
  simp [Instr.field, go_sem, asAgg]
theorem run_field1 (k : Int) (t : ByteArray) (n a : Int) (ln : Bool) (W : World) : (Instr.field 34 (.agg #[.int .i64 k, .string t, .int .i64 n, .int .i64 a, .bool ln]) 1).run Tryz.prog W = .ok (.string t) W := by
  simp [Instr.field, go_sem, asAgg]
set_option maxRecDepth 100000 in
set_option maxHeartbeats 2000000 in
theorem textOf_any {F : Nat → Prop} {base B dep : Nat} {st : Ps.St} {nv : Value} {w : World} (h : RS F base B dep st nv w) (hlen : st.nodes.length ≤ 1000000000) (K : List Nat) (g cap : Nat) (hg : g < w.heap.size) (hK : ∀ j (h : j < K.length), w.cell? ⟨g, j, none⟩ = some (.int .i64 (K[j] : Int))) (hKl : K.length ≤ 5) (hcap : K.length ≤ cap) :
    Calls Tryz.prog 108 #[.pointer (some ⟨B, 0, none⟩), .slice (some ⟨g, 0, none⟩) K.length cap] w fun e w' => e = .returned (.string ⟨(Ps.textOf K st).1.toArray⟩) ∧ Leaves F base B dep nv w (Ps.textOf K st).2 w' := by
  have HN : Hid (∀ W, Below w.heap.size w W → Calls Tryz.prog 22 #[.pointer (some ⟨B, 0, none⟩)] W fun e w' => e = .returned (.agg (tkA (Ps.nxt st))) ∧ Below W.heap.size W w') := fun W hW => next_any (h.below hW)
  have HS : Hid (∀ W, Below w.heap.size w W → Calls Tryz.prog 94 #[.pointer (some ⟨B, 0, none⟩)] W fun e w' => e = .returned (.agg (tkA (Ps.nxt st))) ∧ RS F base B dep (Ps.skip st).2 nv w' ∧ Chg B nv nv W w') := fun W hW => skip_any (h.below hW)
  have HF : Hid (∀ W, Below w.heap.size w W → Calls Tryz.prog 23 #[.pointer (some ⟨B, 0, none⟩)] W fun e w' => e = .returned (.int .i64 (st.nodes.length : Int)) ∧ ∃ nv', RS F base B dep (Ps.fail st).2 nv' w' ∧ Chg B nv nv' W w') := fun W hW => fail_any (h.below hW) hlen
  have ht : Ps.textOf K st = if (Ps.nxt st).k ∈ K then ((Ps.nxt st).t, (Ps.skip st).2) else ([], (Ps.fail st).2) := rfl
  rw [ht]
  have HK : Hid (∀ j (h : j < K.length), w.cell? ⟨g, j, none⟩ = some (.int .i64 (K[j] : Int))) := hK
  have HG : Hid (g < w.heap.size) := hg
  have hfl0 := run_field0
  have hfl1 := run_field1
  clear h hlen ht hK hg
  generalize Ps.nxt st = T at *
  obtain ⟨tk, tt, tn, ta, tl, te⟩ := T
  simp only [tkA] at HN HS ⊢
  generalize (Ps.skip st).2 = st1 at *
  generalize (Ps.fail st).2 = st2 at *
  have HR : Hid (∀ (P : List UInt8 × Ps.St), (if tk ∈ K then (tt, st1) else ([], st2)) = P → (if tk ∈ K then (tt, st1) else ([], st2)) = P) := fun P h => h
  clear HR
  obtain ⟨P, hP⟩ : ∃ P, (if tk ∈ K then (tt, st1) else ([], st2)) = P := ⟨_, rfl⟩
  rw [hP]
  have HP : Hid (_) := hP
  clear hP
  go_enter Tryz.func108, Tryz.ntmps108
  go_wp2_with fail
  go_loopw [9] (fun i W => ∃ k : Nat, k ≤ K.length ∧ i = .int .i64 (k : Int) ∧ Hid (∀ j (h : j < K.length), j < k → tk ≠ K[j]) ∧ Hid (Below w.heap.size w W)) (fun i _ => K.length - (intOf i).toNat)
  case atStart => exact ⟨0, by omega, rfl, fun j h h' => absurd h' (by omega), (show Below _ _ _ from Below.refl _ _)⟩
  case round =>
    obtain ⟨k, hk, rfl, HA, HW⟩ := hrel
    by_cases hlt : k < K.length
    · have hlt' : (k : Int) < K.length := by omega
      have hc := (HW.out.cell (p := ⟨g, k, none⟩) HG.out).trans (HK.out k hlt)
      have HN2 : Hid (_) := HN.out _ HW.out
      by_cases he : tk = K[k]
      · have hee : ((tk : Int) == ((K[k] : Nat) : Int)) = true := by rw [beq_iff_eq]; omega
        have HPE : Hid (P = (tt, st1)) := HP.out.symm.trans (if_pos (by rw [he]; exact List.getElem_mem _))
        clear HA he HN HF HK HP
        generalize K[k] = kk at *
        go_wp2_with fail
        refine Calls.mono HN2.out ?_
        rintro e w1 ⟨rfl, hb1⟩
        have HB2 := HW.out.trans (hb1.mono HW.out.size)
        go_wp2_with fail
        refine Calls.mono (HS.out _ HB2) ?_
        rintro e w2 ⟨rfl, hr, hc2⟩
        go_wp2_with fail
        go_ret
        rw [HPE.out]
        exact ⟨rfl, nv, hr, (Chg.below nv HB2).trans hc2⟩
      · have hee : ((tk : Int) == ((K[k] : Nat) : Int)) = false := by rw [beq_eq_false_iff_ne]; omega
        have HA' : Hid (∀ j (h : j < K.length), j < k + 1 → tk ≠ K[j]) := fun j h h' => by
          by_cases e : j = k
          · subst e; exact he
          · exact HA.out j h (by omega)
        clear HA he HN HF HK HP HS
        generalize K[k] = kk at *
        go_wp2_with fail
        refine Calls.mono HN2.out ?_
        rintro e w1 ⟨rfl, hb1⟩
        have HB2 : Hid (Below w.heap.size w w1) := HW.out.trans (hb1.mono HW.out.size)
        clear hb1
        go_wp2_with fail
        go_roundw
        case rel => exact ⟨k + 1, by omega, by go_num, HA', HB2⟩
        case measure => simp [intOf]; omega
    · have hlt' : ¬ (k : Int) < K.length := by omega
      have HPE : Hid (P = ([], st2)) := HP.out.symm.trans (if_neg (fun hm => by
        obtain ⟨j, hj, e⟩ := List.getElem_of_mem hm
        exact HA.out j hj (by omega) e.symm))
      clear HA HN HS HK HP
      go_wp2_with fail
      refine Calls.mono (HF.out _ HW.out) ?_
      rintro e w2 ⟨rfl, nv', hr, hc2⟩
      go_wp2_with fail
      go_ret
      rw [HPE.out]
      exact ⟨rfl, nv', hr, (Chg.below nv HW.out).trans hc2⟩
set_option maxRecDepth 100000 in
set_option maxHeartbeats 2000000 in
theorem name_any {F : Nat → Prop} {base B dep : Nat} {st : Ps.St} {nv : Value} {w : World} (h : RS F base B dep st nv w) (hlen : st.nodes.length ≤ 1000000000) :
    Calls Tryz.prog 101 #[.pointer (some ⟨B, 0, none⟩)] w fun e w' => e = .returned (.string ⟨(Ps.name st).1.toArray⟩) ∧ Leaves F base B dep nv w (Ps.name st).2 w' := by
  have hb : Below w.heap.size w (w.alloc (.cells #[.int .i64 3] 3)) := (Below.refl _ _).alloc (Nat.le_refl _) _
  have HT : Hid (_) := textOf_any (h.below hb) hlen [3] w.heap.size 1 (by simp) (fun j hj => by
    have hj0 : j = 0 := by simpa using hj
    subst hj0
    simp) (by simp) (by simp)
  have HC : Hid (Chg B nv nv w _) := Chg.below nv hb
  clear h hb
  change Calls _ _ _ _ (fun e w' => e = .returned (.string ⟨(Ps.textOf [3] st).1.toArray⟩) ∧ Leaves F base B dep nv w (Ps.textOf [3] st).2 w')
  generalize Ps.textOf [3] st = P at *
  go_enter Tryz.func101, Tryz.ntmps101
  go_wp2_with fail
  refine Calls.mono HT.out ?_
  rintro e w1 ⟨rfl, nv', hr, hc⟩
  go_wp2_with fail
  go_ret
  exact ⟨rfl, nv', hr, HC.out.trans hc⟩
end Go.Proofs.YtpjmapoiinjakaaGreatDoor.R
end
section
namespace Go.Proofs.YtpjmapoiinjakaaGreatDoor.R
open Go.RowKit
open L (TokAt tkA own_block own_below cells5h cells5 info_of)
set_option linter.unusedVariables false
/-- The reader at another depth. -/
theorem RS.deep {F : Nat → Prop} {base B dep : Nat} {st : Ps.St} {nv : Value} {W : World} (h : RS F base B dep st nv W) (d : Nat) : RS F base B d st nv (W.setCell ⟨B, 2, none⟩ (.int .i64 (d : Int))) ∧ Chg B nv nv W (W.setCell ⟨B, 2, none⟩ (.int .i64 (d : Int))) := by
  have c : ChgB B W (W.setCell ⟨B, 2, none⟩ (.int .i64 (d : Int))) := Chg.setB B _ W 2 _
  obtain ⟨tv, h1, h2, h3⟩ := h.rd
  exact ⟨h.turn c rfl h.few h.last tv (set2 h1 _) (h2.go h3 (c.chg nv)) h3, c.chg nv⟩
theorem RS.cells {F : Nat → Prop} {base B dep : Nat} {st : Ps.St} {nv : Value} {W : World} (h : RS F base B dep st nv W) : W.cell? ⟨B, 1, none⟩ = some nv ∧ W.cell? ⟨B, 2, none⟩ = some (.int .i64 (dep : Int)) ∧ W.cell? ⟨B, 3, none⟩ = some (.bool st.failed) ∧ W.cell? ⟨B, 4, none⟩ = some (.int .i64 (st.at_ : Int)) ∧ W.frozen? ⟨B, 2, none⟩ = false ∧ B < W.heap.size := by
  obtain ⟨tv, h1, -, -⟩ := h.rd
  obtain ⟨q0, q1, q2, q3, q4, f0, f1, f2, f3, f4, hlt⟩ := cells5h h1
  exact ⟨q1, q2, q3, q4, f2, hlt⟩
set_option maxRecDepth 100000 in
set_option maxHeartbeats 2000000 in
theorem within_e {F : Nat → Prop} {base B dep : Nat} {st : Ps.St} {nv : Value} {w : World} (h : RS F base B dep st nv w) (hd : dep < 40) (R : Nat × Ps.St)
    (HP : ∀ W, RS F base B (dep + 1) st nv W → Calls Tryz.prog 107 #[.pointer (some ⟨B, 0, none⟩)] W fun e w' => e = .returned (.int .i64 (R.1 : Int)) ∧ Leaves F base B (dep + 1) nv W R.2 w') :
    Calls Tryz.prog 53 #[.pointer (some ⟨B, 0, none⟩), .func (.func 107) #[.pointer (some ⟨B, 0, none⟩)] #[]] w fun e w' => e = .returned (.int .i64 (R.1 : Int)) ∧ Leaves F base B dep nv w R.2 w' := by
  have HPP : Hid (_) := HP
  obtain ⟨q1, q2, q3, q4, f2, hlt⟩ := h.cells
  obtain ⟨hr1, hc1⟩ := h.deep (dep + 1)
  rw [show ((dep + 1 : Nat) : Int) = (dep : Int) + 1 by omega] at hr1 hc1
  have HR1 : Hid (_) := hr1
  have HC1 : Hid (_) := hc1
  have hd40 : ((dep : Int) == 40) = false := by rw [beq_eq_false_iff_ne]; omega
  have hdl : (dep : Int) < 40 := by omega
  have hd0 : (0 : Int) ≤ dep := by omega
  clear h hr1 hc1 HP
  obtain ⟨r, st'⟩ := R
  simp only at HPP ⊢
  go_enter Tryz.func53, Tryz.ntmps53
  go_wp2_with fail
  refine Calls.mono (HPP.out _ HR1.out) ?_
  rintro e w1 ⟨rfl, nv', hr, hc⟩
  obtain ⟨u1, u2, u3, u4, v2, hlt1⟩ := hr.cells
  rw [show ((dep + 1 : Nat) : Int) = (dep : Int) + 1 by omega] at u2
  obtain ⟨hr2, hc2⟩ := hr.deep dep
  have HR2 : Hid (_) := hr2
  have HC2 : Hid (Chg B nv nv' w _) := HC1.out.trans (hc.trans hc2)
  have hdd : (dep : Int) + 1 - 1 = dep := by omega
  clear hr hc hr2 hc2 HPP HR1 HC1
  go_wp2_with fail
  go_ret
  exact ⟨rfl, nv', HR2.out, HC2.out⟩
set_option maxRecDepth 100000 in
set_option maxHeartbeats 2000000 in
theorem within_u {F : Nat → Prop} {base B dep : Nat} {st : Ps.St} {nv : Value} {w : World} (h : RS F base B dep st nv w) (hd : dep < 40) (R : Nat × Ps.St)
    (HP : ∀ W, RS F base B (dep + 1) st nv W → Calls Tryz.prog 125 #[.pointer (some ⟨B, 0, none⟩)] W fun e w' => e = .returned (.int .i64 (R.1 : Int)) ∧ Leaves F base B (dep + 1) nv W R.2 w') :
    Calls Tryz.prog 53 #[.pointer (some ⟨B, 0, none⟩), .func (.func 125) #[.pointer (some ⟨B, 0, none⟩)] #[]] w fun e w' => e = .returned (.int .i64 (R.1 : Int)) ∧ Leaves F base B dep nv w R.2 w' := by
  have HPP : Hid (_) := HP
  obtain ⟨q1, q2, q3, q4, f2, hlt⟩ := h.cells
  obtain ⟨hr1, hc1⟩ := h.deep (dep + 1)
  rw [show ((dep + 1 : Nat) : Int) = (dep : Int) + 1 by omega] at hr1 hc1
  have HR1 : Hid (_) := hr1
  have HC1 : Hid (_) := hc1
  have hd40 : ((dep : Int) == 40) = false := by rw [beq_eq_false_iff_ne]; omega
  have hdl : (dep : Int) < 40 := by omega
  have hd0 : (0 : Int) ≤ dep := by omega
  clear h hr1 hc1 HP
  obtain ⟨r, st'⟩ := R
  simp only at HPP ⊢
  go_enter Tryz.func53, Tryz.ntmps53
  go_wp2_with fail
  refine Calls.mono (HPP.out _ HR1.out) ?_
  rintro e w1 ⟨rfl, nv', hr, hc⟩
  obtain ⟨u1, u2, u3, u4, v2, hlt1⟩ := hr.cells
  rw [show ((dep + 1 : Nat) : Int) = (dep : Int) + 1 by omega] at u2
  obtain ⟨hr2, hc2⟩ := hr.deep dep
  have HR2 : Hid (_) := hr2
  have HC2 : Hid (Chg B nv nv' w _) := HC1.out.trans (hc.trans hc2)
  have hdd : (dep : Int) + 1 - 1 = dep := by omega
  clear hr hc hr2 hc2 HPP HR1 HC1
  go_wp2_with fail
  go_ret
  exact ⟨rfl, nv', HR2.out, HC2.out⟩
set_option maxRecDepth 100000 in
set_option maxHeartbeats 2000000 in
theorem within_p {F : Nat → Prop} {base B dep : Nat} {st : Ps.St} {nv : Value} {w : World} (h : RS F base B dep st nv w) (hd : dep < 40) (R : Nat × Ps.St)
    (HP : ∀ W, RS F base B (dep + 1) st nv W → Calls Tryz.prog 128 #[.pointer (some ⟨B, 0, none⟩)] W fun e w' => e = .returned (.int .i64 (R.1 : Int)) ∧ Leaves F base B (dep + 1) nv W R.2 w') :
    Calls Tryz.prog 53 #[.pointer (some ⟨B, 0, none⟩), .func (.func 128) #[.pointer (some ⟨B, 0, none⟩)] #[]] w fun e w' => e = .returned (.int .i64 (R.1 : Int)) ∧ Leaves F base B dep nv w R.2 w' := by
  have HPP : Hid (_) := HP
  obtain ⟨q1, q2, q3, q4, f2, hlt⟩ := h.cells
  obtain ⟨hr1, hc1⟩ := h.deep (dep + 1)
  rw [show ((dep + 1 : Nat) : Int) = (dep : Int) + 1 by omega] at hr1 hc1
  have HR1 : Hid (_) := hr1
  have HC1 : Hid (_) := hc1
  have hd40 : ((dep : Int) == 40) = false := by rw [beq_eq_false_iff_ne]; omega
  have hdl : (dep : Int) < 40 := by omega
  have hd0 : (0 : Int) ≤ dep := by omega
  clear h hr1 hc1 HP
  obtain ⟨r, st'⟩ := R
  simp only at HPP ⊢
  go_enter Tryz.func53, Tryz.ntmps53
  go_wp2_with fail
  refine Calls.mono (HPP.out _ HR1.out) ?_
  rintro e w1 ⟨rfl, nv', hr, hc⟩
  obtain ⟨u1, u2, u3, u4, v2, hlt1⟩ := hr.cells
  rw [show ((dep + 1 : Nat) : Int) = (dep : Int) + 1 by omega] at u2
  obtain ⟨hr2, hc2⟩ := hr.deep dep
  have HR2 : Hid (_) := hr2
  have HC2 : Hid (Chg B nv nv' w _) := HC1.out.trans (hc.trans hc2)
  have hdd : (dep : Int) + 1 - 1 = dep := by omega
  clear hr hc hr2 hc2 HPP HR1 HC1
  go_wp2_with fail
  go_ret
  exact ⟨rfl, nv', HR2.out, HC2.out⟩
set_option maxRecDepth 100000 in
set_option maxHeartbeats 2000000 in
theorem within_s {F : Nat → Prop} {base B dep : Nat} {st : Ps.St} {nv : Value} {w : World} (h : RS F base B dep st nv w) (hd : dep < 40) (R : Nat × Ps.St)
    (HP : ∀ W, RS F base B (dep + 1) st nv W → Calls Tryz.prog 54 #[.pointer (some ⟨B, 0, none⟩)] W fun e w' => e = .returned (.int .i64 (R.1 : Int)) ∧ Leaves F base B (dep + 1) nv W R.2 w') :
    Calls Tryz.prog 53 #[.pointer (some ⟨B, 0, none⟩), .func (.func 54) #[.pointer (some ⟨B, 0, none⟩)] #[]] w fun e w' => e = .returned (.int .i64 (R.1 : Int)) ∧ Leaves F base B dep nv w R.2 w' := by
  have HPP : Hid (_) := HP
  obtain ⟨q1, q2, q3, q4, f2, hlt⟩ := h.cells
  obtain ⟨hr1, hc1⟩ := h.deep (dep + 1)
  rw [show ((dep + 1 : Nat) : Int) = (dep : Int) + 1 by omega] at hr1 hc1
  have HR1 : Hid (_) := hr1
  have HC1 : Hid (_) := hc1
  have hd40 : ((dep : Int) == 40) = false := by rw [beq_eq_false_iff_ne]; omega
  have hdl : (dep : Int) < 40 := by omega
  have hd0 : (0 : Int) ≤ dep := by omega
  clear h hr1 hc1 HP
  obtain ⟨r, st'⟩ := R
  simp only at HPP ⊢
  go_enter Tryz.func53, Tryz.ntmps53
  go_wp2_with fail
  refine Calls.mono (HPP.out _ HR1.out) ?_
  rintro e w1 ⟨rfl, nv', hr, hc⟩
  obtain ⟨u1, u2, u3, u4, v2, hlt1⟩ := hr.cells
  rw [show ((dep + 1 : Nat) : Int) = (dep : Int) + 1 by omega] at u2
  obtain ⟨hr2, hc2⟩ := hr.deep dep
  have HR2 : Hid (_) := hr2
  have HC2 : Hid (Chg B nv nv' w _) := HC1.out.trans (hc.trans hc2)
  have hdd : (dep : Int) + 1 - 1 = dep := by omega
  clear hr hc hr2 hc2 HPP HR1 HC1
  go_wp2_with fail
  go_ret
  exact ⟨rfl, nv', HR2.out, HC2.out⟩
set_option maxRecDepth 100000 in
set_option maxHeartbeats 2000000 in
theorem within_full {F : Nat → Prop} {base B dep : Nat} {st : Ps.St} {nv : Value} {w : World} (h : RS F base B dep st nv w) (hd : dep = 40) (hlen : st.nodes.length ≤ 1000000000) (v : Value) :
    Calls Tryz.prog 53 #[.pointer (some ⟨B, 0, none⟩), v] w fun e w' => e = .returned (.int .i64 (st.nodes.length : Int)) ∧ Leaves F base B dep nv w (Ps.fail st).2 w' := by
  have HF : Hid (_) := fail_any h hlen
  obtain ⟨q1, q2, q3, q4, f2, hlt⟩ := h.cells
  subst hd
  clear h hlen
  go_enter Tryz.func53, Tryz.ntmps53
  go_wp2_with fail
  refine Calls.mono HF.out ?_
  rintro e w1 ⟨rfl, nv', hr, hc⟩
  go_wp2_with fail
  go_ret
  exact ⟨rfl, nv', hr, hc⟩
end Go.Proofs.YtpjmapoiinjakaaGreatDoor.R
end
section
namespace Go.Proofs.YtpjmapoiinjakaaGreatDoor.R
open Go.RowKit
set_option linter.unusedVariables false
set_option maxRecDepth 100000 in
set_option maxHeartbeats 1000000 in
theorem expr_part {F : Nat → Prop} {base B dep : Nat} {st : Ps.St} {nv : Value} {w : World} (h : RS F base B dep st nv w) (hd : dep < 40) (R : Nat × Ps.St)
    (HP : ∀ W, RS F base B (dep + 1) st nv W → Calls Tryz.prog 107 #[.pointer (some ⟨B, 0, none⟩)] W fun e w' => e = .returned (.int .i64 (R.1 : Int)) ∧ Leaves F base B (dep + 1) nv W R.2 w') :
    Calls Tryz.prog 99 #[.pointer (some ⟨B, 0, none⟩)] w fun e w' => e = .returned (.int .i64 (R.1 : Int)) ∧ Leaves F base B dep nv w R.2 w' := by
  have HW : Hid (_) := within_e h hd R HP
  clear h HP
  obtain ⟨r, st'⟩ := R
  simp only at HW ⊢
  go_enter Tryz.func99, Tryz.ntmps99
  go_wp2_with fail
  refine Calls.mono HW.out ?_
  rintro e w1 ⟨rfl, hl⟩
  go_wp2_with fail
  go_ret
  exact ⟨rfl, hl⟩
set_option maxRecDepth 100000 in
set_option maxHeartbeats 1000000 in
theorem expr_full {F : Nat → Prop} {base B dep : Nat} {st : Ps.St} {nv : Value} {w : World} (h : RS F base B dep st nv w) (hd : dep = 40) (hlen : st.nodes.length ≤ 1000000000) :
    Calls Tryz.prog 99 #[.pointer (some ⟨B, 0, none⟩)] w fun e w' => e = .returned (.int .i64 (st.nodes.length : Int)) ∧ Leaves F base B dep nv w (Ps.fail st).2 w' := by
  have HW : Hid (_) := within_full h hd hlen (.func (.func 107) #[.pointer (some ⟨B, 0, none⟩)] #[])
  clear h hlen
  go_enter Tryz.func99, Tryz.ntmps99
  go_wp2_with fail
  refine Calls.mono HW.out ?_
  rintro e w1 ⟨rfl, hl⟩
  go_wp2_with fail
  go_ret
  exact ⟨rfl, hl⟩
set_option maxRecDepth 100000 in
set_option maxHeartbeats 1000000 in
theorem unary_part {F : Nat → Prop} {base B dep : Nat} {st : Ps.St} {nv : Value} {w : World} (h : RS F base B dep st nv w) (hd : dep < 40) (R : Nat × Ps.St)
    (HP : ∀ W, RS F base B (dep + 1) st nv W → Calls Tryz.prog 125 #[.pointer (some ⟨B, 0, none⟩)] W fun e w' => e = .returned (.int .i64 (R.1 : Int)) ∧ Leaves F base B (dep + 1) nv W R.2 w') :
    Calls Tryz.prog 122 #[.pointer (some ⟨B, 0, none⟩)] w fun e w' => e = .returned (.int .i64 (R.1 : Int)) ∧ Leaves F base B dep nv w R.2 w' := by
  have HW : Hid (_) := within_u h hd R HP
  clear h HP
  obtain ⟨r, st'⟩ := R
  simp only at HW ⊢
  go_enter Tryz.func122, Tryz.ntmps122
  go_wp2_with fail
  refine Calls.mono HW.out ?_
  rintro e w1 ⟨rfl, hl⟩
  go_wp2_with fail
  go_ret
  exact ⟨rfl, hl⟩
set_option maxRecDepth 100000 in
set_option maxHeartbeats 1000000 in
theorem unary_full {F : Nat → Prop} {base B dep : Nat} {st : Ps.St} {nv : Value} {w : World} (h : RS F base B dep st nv w) (hd : dep = 40) (hlen : st.nodes.length ≤ 1000000000) :
    Calls Tryz.prog 122 #[.pointer (some ⟨B, 0, none⟩)] w fun e w' => e = .returned (.int .i64 (st.nodes.length : Int)) ∧ Leaves F base B dep nv w (Ps.fail st).2 w' := by
  have HW : Hid (_) := within_full h hd hlen (.func (.func 125) #[.pointer (some ⟨B, 0, none⟩)] #[])
  clear h hlen
  go_enter Tryz.func122, Tryz.ntmps122
  go_wp2_with fail
  refine Calls.mono HW.out ?_
  rintro e w1 ⟨rfl, hl⟩
  go_wp2_with fail
  go_ret
  exact ⟨rfl, hl⟩
set_option maxRecDepth 100000 in
set_option maxHeartbeats 1000000 in
theorem statement_part {F : Nat → Prop} {base B dep : Nat} {st : Ps.St} {nv : Value} {w : World} (h : RS F base B dep st nv w) (hd : dep < 40) (R : Nat × Ps.St)
    (HP : ∀ W, RS F base B (dep + 1) st nv W → Calls Tryz.prog 54 #[.pointer (some ⟨B, 0, none⟩)] W fun e w' => e = .returned (.int .i64 (R.1 : Int)) ∧ Leaves F base B (dep + 1) nv W R.2 w') :
    Calls Tryz.prog 39 #[.pointer (some ⟨B, 0, none⟩)] w fun e w' => e = .returned (.int .i64 (R.1 : Int)) ∧ Leaves F base B dep nv w R.2 w' := by
  have HW : Hid (_) := within_s h hd R HP
  clear h HP
  obtain ⟨r, st'⟩ := R
  simp only at HW ⊢
  go_enter Tryz.func39, Tryz.ntmps39
  go_wp2_with fail
  refine Calls.mono HW.out ?_
  rintro e w1 ⟨rfl, hl⟩
  go_wp2_with fail
  go_ret
  exact ⟨rfl, hl⟩
set_option maxRecDepth 100000 in
set_option maxHeartbeats 1000000 in
theorem statement_full {F : Nat → Prop} {base B dep : Nat} {st : Ps.St} {nv : Value} {w : World} (h : RS F base B dep st nv w) (hd : dep = 40) (hlen : st.nodes.length ≤ 1000000000) :
    Calls Tryz.prog 39 #[.pointer (some ⟨B, 0, none⟩)] w fun e w' => e = .returned (.int .i64 (st.nodes.length : Int)) ∧ Leaves F base B dep nv w (Ps.fail st).2 w' := by
  have HW : Hid (_) := within_full h hd hlen (.func (.func 54) #[.pointer (some ⟨B, 0, none⟩)] #[])
  clear h hlen
  go_enter Tryz.func39, Tryz.ntmps39
  go_wp2_with fail
  refine Calls.mono HW.out ?_
  rintro e w1 ⟨rfl, hl⟩
  go_wp2_with fail
  go_ret
  exact ⟨rfl, hl⟩
end Go.Proofs.YtpjmapoiinjakaaGreatDoor.R
end
section
namespace Go.Proofs.YtpjmapoiinjakaaGreatDoor.R
open Go.RowKit
open L (tkA)
set_option linter.unusedVariables false
theorem endS_eq (st : Ps.St) : (Ps.endS st).2 = if (Ps.take [59] st).1 = true then (Ps.take [59] st).2 else if Ps.closes (Ps.take [59] st).2 = true ∨ (Ps.nxt (Ps.take [59] st).2).ln = true then (Ps.take [59] st).2 else (Ps.fail (Ps.take [59] st).2).2 := by
  unfold Ps.endS
  rcases Ps.take [59] st with ⟨b, s⟩
  cases b
  · simp only [Bool.false_eq_true, if_false]
    cases Ps.closes s <;> cases (Ps.nxt s).ln <;> rfl
  · rfl
theorem run_field4 (k : Int) (t : ByteArray) (n a : Int) (ln : Bool) (W : World) : (Instr.field 34 (.agg #[.int .i64 k, .string t, .int .i64 n, .int .i64 a, .bool ln]) 4).run Tryz.prog W = .ok (.bool ln) W := by
  simp [Instr.field, go_sem, asAgg]
set_option maxRecDepth 100000 in
set_option maxHeartbeats 2000000 in
theorem endS_any {F : Nat → Prop} {base B dep : Nat} {st : Ps.St} {nv : Value} {w : World} (h : RS F base B dep st nv w) (hlen : st.nodes.length ≤ 1000000000) :
    Calls Tryz.prog 98 #[.pointer (some ⟨B, 0, none⟩)] w fun e w' => e = .returned (.tuple #[]) ∧ Leaves F base B dep nv w (Ps.endS st).2 w' := by
  have HT : Hid (_) := take_any h [59]
  have hn := take_nodes [59] st
  rw [endS_eq]
  clear h
  generalize Ps.take [59] st = P at *
  obtain ⟨b, s'⟩ := P
  simp only at HT hn ⊢
  have HF : Hid (∀ W, RS F base B dep s' nv W → Calls Tryz.prog 23 #[.pointer (some ⟨B, 0, none⟩)] W fun e w' => e = .returned (.int .i64 (s'.nodes.length : Int)) ∧ ∃ nv', RS F base B dep (Ps.fail s').2 nv' w' ∧ Chg B nv nv' W w') := fun W hW => fail_any hW (by rw [hn]; exact hlen)
  have HC : Hid (∀ W, RS F base B dep s' nv W → Calls Tryz.prog 38 #[.pointer (some ⟨B, 0, none⟩)] W fun e w' => e = .returned (.bool (Ps.closes s')) ∧ Below W.heap.size W w') := fun W hW => closes_any hW
  have HN : Hid (∀ W, RS F base B dep s' nv W → Calls Tryz.prog 22 #[.pointer (some ⟨B, 0, none⟩)] W fun e w' => e = .returned (.agg (tkA (Ps.nxt s'))) ∧ Below W.heap.size W w') := fun W hW => next_any hW
  have hfl := run_field4
  clear hn hlen
  cases b
  · rw [if_neg (by simp)]
    generalize Ps.closes s' = c at *
    generalize Ps.nxt s' = T at *
    generalize (Ps.fail s').2 = sf at *
    obtain ⟨tk, tt, tn, ta, tl, te⟩ := T
    simp only [tkA] at HN ⊢
    cases c
    · cases tl
      · rw [if_neg (by simp)]
        go_enter Tryz.func98, Tryz.ntmps98
        go_wp2_with fail
        refine Calls.mono HT.out ?_
        rintro e w1 ⟨rfl, hr, hc⟩
        go_wp2_with fail
        refine Calls.mono (HC.out _ hr) ?_
        rintro e w2 ⟨rfl, hb2⟩
        go_wp2_with fail
        refine Calls.mono (HN.out _ (hr.below hb2)) ?_
        rintro e w3 ⟨rfl, hb3⟩
        go_wp2_with fail
        refine Calls.mono (HF.out _ ((hr.below hb2).below hb3)) ?_
        rintro e w4 ⟨rfl, nv', hr4, hc4⟩
        go_wp2_with fail
        go_end0
        exact ⟨rfl, nv', hr4, ((hc.trans (Chg.below nv hb2)).trans (Chg.below nv hb3)).trans hc4⟩
      · rw [if_pos (.inr rfl)]
        go_enter Tryz.func98, Tryz.ntmps98
        go_wp2_with fail
        refine Calls.mono HT.out ?_
        rintro e w1 ⟨rfl, hr, hc⟩
        go_wp2_with fail
        refine Calls.mono (HC.out _ hr) ?_
        rintro e w2 ⟨rfl, hb2⟩
        go_wp2_with fail
        refine Calls.mono (HN.out _ (hr.below hb2)) ?_
        rintro e w3 ⟨rfl, hb3⟩
        go_wp2_with fail
        go_end0
        exact ⟨rfl, nv, (hr.below hb2).below hb3, (hc.trans (Chg.below nv hb2)).trans (Chg.below nv hb3)⟩
    · rw [if_pos (.inl rfl)]
      go_enter Tryz.func98, Tryz.ntmps98
      go_wp2_with fail
      refine Calls.mono HT.out ?_
      rintro e w1 ⟨rfl, hr, hc⟩
      go_wp2_with fail
      refine Calls.mono (HC.out _ hr) ?_
      rintro e w2 ⟨rfl, hb2⟩
      go_wp2_with fail
      go_end0
      exact ⟨rfl, nv, hr.below hb2, hc.trans (Chg.below nv hb2)⟩
  · rw [if_pos rfl]
    go_enter Tryz.func98, Tryz.ntmps98
    go_wp2_with fail
    refine Calls.mono HT.out ?_
    rintro e w1 ⟨rfl, hr, hc⟩
    go_wp2_with fail
    go_end0
    exact ⟨rfl, nv, hr, hc⟩
end Go.Proofs.YtpjmapoiinjakaaGreatDoor.R
end
section
namespace Go.Proofs.YtpjmapoiinjakaaGreatDoor.Ps
open Lx
set_option linter.unusedVariables false
/-- The nodes do not get fewer. -/
def Gr {α : Type} (f : M α) : Prop := ∀ s, s.nodes.length ≤ (f s).2.nodes.length
theorem skip_n (s : St) : (skip s).2.nodes = s.nodes := by unfold skip; simp only []; split <;> rfl
theorem take_n (m : List UInt8) (s : St) : (take m s).2.nodes = s.nodes := by
  unfold take; split
  · exact skip_n s
  · rfl
theorem gr_add (n : Nd) : Gr (add n) := fun s => by simp [add]
theorem gr_fail : Gr fail := fun s => by
  unfold fail
  split
  · exact gr_add _ s
  · exact gr_add _ { s with failed := true, at_ := (nxt s).a, toks := [bad] }
theorem gr_want (m : List UInt8) : Gr (want m) := fun s => by
  unfold want
  have h := take_n m s
  generalize take m s = P at *
  obtain ⟨b, s'⟩ := P
  simp only at h
  cases b
  · have := gr_fail s'; rw [h] at this; exact this
  · simp only [h]; exact Nat.le_refl _
theorem gr_textOf (k : List Nat) : Gr (textOf k) := fun s => by
  unfold textOf
  split
  · rw [skip_n]; exact Nat.le_refl _
  · exact gr_fail s
theorem gr_name : Gr name := gr_textOf _
theorem gr_over (n : Nd) (k : List Nat) : Gr (over n k) := fun s => gr_add _ s
theorem gr_itemsLoop {α : Type} {item : M α} (hi : Gr item) : ∀ (f : Nat) (l : List α), Gr (itemsLoop item f l)
  | 0, l, s => Nat.le_refl _
  | f + 1, l, s => by
    unfold itemsLoop
    have h := take_n [44] s
    generalize take [44] s = P at *
    obtain ⟨b, s'⟩ := P
    simp only at h
    cases b
    · simp only [h]; exact Nat.le_refl _
    · have h1 := hi s'
      have h2 := gr_itemsLoop hi f (l ++ [(item s').1]) (item s').2
      rw [h] at h1
      exact Nat.le_trans h1 h2
theorem gr_items {α : Type} {item : M α} (hi : Gr item) (m : List UInt8) : Gr (items m item) := fun s => by
  unfold items
  have h := take_n m s
  generalize take m s = P at *
  obtain ⟨b, s'⟩ := P
  simp only at h
  cases b
  · have h1 := hi s'
    have h2 := gr_itemsLoop hi (item s').2.toks.length [(item s').1] (item s').2
    have h3 := gr_want m (itemsLoop item (item s').2.toks.length [(item s').1] (item s').2).2
    rw [h] at h1
    exact Nat.le_trans h1 (Nat.le_trans h2 h3)
  · simp only [h]; exact Nat.le_refl _
theorem gr_chainLoop {lv : List UInt8 → Option Nd} {sub : M Nat} (hs : Gr sub) : ∀ (f left : Nat), Gr (chainLoop lv sub f left)
  | 0, l, s => Nat.le_refl _
  | f + 1, l, s => by
    unfold chainLoop
    split
    · exact Nat.le_refl _
    · rename_i n _
      have h0 := skip_n s
      have h1 := hs (skip s).2
      rw [h0] at h1
      have h2 := gr_over n [l, (sub (skip s).2).1] (sub (skip s).2).2
      have h3 := gr_chainLoop (lv := lv) hs f (over n [l, (sub (skip s).2).1] (sub (skip s).2).2).1 (over n [l, (sub (skip s).2).1] (sub (skip s).2).2).2
      exact Nat.le_trans h1 (Nat.le_trans h2 h3)
theorem gr_chain {part : M Nat} (hp : Gr part) : ∀ (row : List (List UInt8 → Option Nd)), Gr (chain part row)
  | [], s => hp s
  | lv :: row, s => Nat.le_trans (gr_chain hp row s) (gr_chainLoop (gr_chain hp row) _ _ _)
structure GrL (L : Lv) : Prop where
  e : Gr L.e
  u : Gr L.u
  p : Gr L.p
  s : Gr L.s
theorem gr_choice {L : Lv} (h : GrL L) : Gr (choice L) := fun s => by
  unfold choice
  have h1 := gr_chain (gr_chain h.u binaries) logics s
  have h2 := take_n [63] (chain (chain L.u binaries) logics s).2
  simp only []
  generalize take [63] (chain (chain L.u binaries) logics s).2 = P at *
  obtain ⟨b, s'⟩ := P
  simp only at h2
  rw [← h2] at h1
  cases b
  · exact h1
  · have h3 := h.e s'
    have h4 := gr_want [58] (L.e s').2
    have h5 := h.e (want [58] (L.e s').2).2
    have h6 := gr_over { k := 18 } [(chain (chain L.u binaries) logics s).1, (L.e s').1, (L.e (want [58] (L.e s').2).2).1] (L.e (want [58] (L.e s').2).2).2
    exact Nat.le_trans h1 (Nat.le_trans h3 (Nat.le_trans h4 (Nat.le_trans h5 h6)))
theorem gr_leaf (n : Nd) : Gr (leaf n) := fun s => by
  have := gr_add { n with a := (skip s).1.a } (skip s).2
  rw [skip_n] at this
  exact this
theorem gr_inParens {L : Lv} (h : GrL L) : Gr (inParens L) := fun s =>
  Nat.le_trans (gr_want [40] s) (Nat.le_trans (h.e _) (gr_want [41] _))
theorem gr_statementsLoop {L : Lv} (h : GrL L) : ∀ (f : Nat) (l : List Nat), Gr (statementsLoop L f l)
  | 0, l, s => Nat.le_refl _
  | f + 1, l, s => by
    unfold statementsLoop
    split
    · exact Nat.le_trans (h.s s) (gr_statementsLoop h f _ _)
    · exact Nat.le_refl _
theorem gr_statements {L : Lv} (h : GrL L) : Gr (statements L) := fun s => gr_statementsLoop h _ _ s
theorem gr_body {L : Lv} (h : GrL L) : Gr (body L) := fun s => Nat.le_trans (gr_want [123] s) (Nat.le_trans (gr_statements h _) (gr_want [125] _))
theorem gr_endS : Gr endS := fun s => by
  unfold endS
  have h := take_n [59] s
  generalize take [59] s = P at *
  obtain ⟨b, s'⟩ := P
  simp only at h
  cases b
  · simp only []
    split
    · have := gr_fail s'; rw [h] at this; exact this
    · rw [h]; exact Nat.le_refl _
  · simp only [h]; exact Nat.le_refl _
theorem gr_block {L : Lv} (h : GrL L) : Gr (block L) := fun s => Nat.le_trans (gr_body h s) (gr_add _ _)
theorem gr_inner {L : Lv} (h : GrL L) : Gr (inner L) := fun s => by
  unfold inner; split
  · exact gr_fail s
  · exact h.s s
theorem gr_jump (k : Nat) : Gr (jump k) := fun s => by
  have h1 := gr_endS (skip s).2
  rw [skip_n] at h1
  exact Nat.le_trans h1 (gr_add _ _)
theorem gr_exprS {L : Lv} (h : GrL L) : Gr (exprS L) := fun s => Nat.le_trans (h.e s) (Nat.le_trans (gr_endS _) (gr_over _ _ _))
theorem gr_whileS {L : Lv} (h : GrL L) : Gr (whileS L) := fun s => by
  have h1 := gr_inParens h (skip s).2
  rw [skip_n] at h1
  exact Nat.le_trans h1 (Nat.le_trans (gr_inner h _) (gr_add _ _))
theorem gr_returnS {L : Lv} (h : GrL L) : Gr (returnS L) := fun s => by
  unfold returnS
  have h0 := skip_n s
  simp only []
  generalize skip s = x at *
  obtain ⟨x1, s1⟩ := x
  simp only at h0 ⊢
  rw [← h0]
  split
  · exact Nat.le_trans (h.e s1) (Nat.le_trans (gr_endS _) (gr_add _ _))
  · exact Nat.le_trans (gr_endS s1) (gr_add _ _)
theorem gr_throwS {L : Lv} (h : GrL L) : Gr (throwS L) := fun s => by
  unfold throwS
  have h0 := skip_n s
  simp only []
  generalize skip s = x at *
  obtain ⟨x1, s1⟩ := x
  simp only at h0 ⊢
  rw [← h0]
  split
  · exact gr_fail s1
  · exact Nat.le_trans (h.e s1) (Nat.le_trans (gr_endS _) (gr_add _ _))
theorem gr_tryS {L : Lv} (h : GrL L) : Gr (tryS L) := fun s => by
  have h1 := gr_block h (skip s).2
  rw [skip_n] at h1
  exact Nat.le_trans h1 (Nat.le_trans (gr_want [99, 97, 116, 99, 104] _) (Nat.le_trans (gr_want [40] _) (Nat.le_trans (gr_name _) (Nat.le_trans (gr_want [41] _) (Nat.le_trans (gr_block h _) (gr_add _ _))))))
theorem gr_binding {L : Lv} (h : GrL L) (k : Nat) : Gr (binding L k) := fun s => by
  have h1 := gr_name (skip s).2
  rw [skip_n] at h1
  exact Nat.le_trans h1 (Nat.le_trans (gr_want [61] _) (Nat.le_trans (h.e _) (Nat.le_trans (gr_endS _) (gr_add _ _))))
theorem gr_func {L : Lv} (h : GrL L) (b : Bool) : Gr (func L b) := fun s => by
  unfold func
  simp only []
  have h0 := take_n [42] (skip s).2
  rw [skip_n] at h0
  rw [← h0]
  have h1 : (take [42] (skip s).2).2.nodes.length ≤ (if (b || decide ((nxt (take [42] (skip s).2).2).k = 3)) = true then name (take [42] (skip s).2).2 else ([], (take [42] (skip s).2).2)).2.nodes.length := by
    split
    · exact gr_name _
    · exact Nat.le_refl _
  refine Nat.le_trans h1 ?_
  exact Nat.le_trans (gr_want [40] _) (Nat.le_trans (gr_items gr_name [41] _) (Nat.le_trans (gr_body h _) (gr_add _ _)))
theorem gr_definition {L : Lv} (h : GrL L) : Gr (definition L) := fun s => Nat.le_trans (gr_func h true s) (gr_add _ _)
theorem gr_ifS {L : Lv} (h : GrL L) : Gr (ifS L) := fun s => by
  unfold ifS
  simp only []
  have h1 := gr_inParens h (skip s).2
  rw [skip_n] at h1
  have h2 := Nat.le_trans h1 (gr_inner h _)
  have h3 := take_n [101, 108, 115, 101] (inner L (inParens L (skip s).2).2).2
  generalize take [101, 108, 115, 101] (inner L (inParens L (skip s).2).2).2 = P at *
  obtain ⟨b, s'⟩ := P
  simp only at h3
  rw [← h3] at h2
  cases b
  · exact Nat.le_trans h2 (gr_add _ _)
  · exact Nat.le_trans h2 (Nat.le_trans (gr_inner h _) (gr_add _ _))
theorem gr_pair {L : Lv} (h : GrL L) : Gr (pair L) := fun s => Nat.le_trans (gr_textOf [3, 4, 2] s) (Nat.le_trans (gr_want [58] _) (h.e _))
theorem ite_le {c : Prop} [Decidable c] {n : Nat} {a b : Nat × St} (ha : n ≤ a.2.nodes.length) (hb : n ≤ b.2.nodes.length) : n ≤ (if c then a else b).2.nodes.length := by split <;> assumption
theorem gr_arr {L : Lv} (h : GrL L) (s : St) : s.nodes.length ≤ (add { k := 9, a := (skip s).1.a, kids := (items [93] L.e (skip s).2).1 } (items [93] L.e (skip s).2).2).2.nodes.length := by
  have h1 := gr_items h.e [93] (skip s).2
  rw [skip_n] at h1
  exact Nat.le_trans h1 (gr_add _ _)
theorem gr_obj {L : Lv} (h : GrL L) (s : St) : s.nodes.length ≤ (add { k := 8, a := (skip s).1.a, names := (items [125] (pair L) (skip s).2).1.map (·.1), kids := (items [125] (pair L) (skip s).2).1.map (·.2) } (items [125] (pair L) (skip s).2).2).2.nodes.length := by
  have h1 := gr_items (gr_pair h) [125] (skip s).2
  rw [skip_n] at h1
  exact Nat.le_trans h1 (gr_add _ _)
theorem gr_alone {L : Lv} (h : GrL L) : Gr (alone L) := fun s => by
  unfold alone
  exact (ite_le (gr_leaf _ s) (ite_le (gr_leaf _ s) (ite_le (gr_leaf _ s) (ite_le (gr_leaf _ s) (ite_le (gr_leaf _ s) (ite_le (gr_leaf _ s) (ite_le (gr_leaf _ s) (ite_le (gr_leaf _ s) (ite_le (gr_inParens h s) (ite_le (gr_arr h s) (ite_le (gr_obj h s) (ite_le (gr_func h false s) (gr_fail s)))))))))))))
theorem gr_primaryLoop {L : Lv} (h : GrL L) : ∀ (f p : Nat), Gr (primaryLoop L f p)
  | 0, p, s => Nat.le_refl _
  | f + 1, p, s => by
    unfold primaryLoop
    have h1 := take_n [46] s
    generalize take [46] s = P at *
    obtain ⟨b, s1⟩ := P
    simp only at h1
    rw [← h1]
    cases b
    · simp only []
      have h2 := take_n [91] s1
      generalize take [91] s1 = P at *
      obtain ⟨b, s2⟩ := P
      simp only at h2
      rw [← h2]
      cases b
      · simp only []
        have h3 := take_n [40] s2
        generalize take [40] s2 = P at *
        obtain ⟨b, s3⟩ := P
        simp only at h3
        rw [← h3]
        cases b
        · exact Nat.le_refl _
        · exact Nat.le_trans (gr_items h.e [41] s3) (Nat.le_trans (gr_over _ _ _) (gr_primaryLoop h f _ _))
      · exact Nat.le_trans (h.e s2) (Nat.le_trans (gr_want [93] _) (Nat.le_trans (gr_over _ _ _) (gr_primaryLoop h f _ _)))
    · exact Nat.le_trans (gr_textOf [3, 4] s1) (Nat.le_trans (gr_over _ _ _) (gr_primaryLoop h f _ _))
theorem gr_primary {L : Lv} (h : GrL L) : Gr (primary L) := fun s => Nat.le_trans (gr_alone h s) (gr_primaryLoop h _ _ _)
theorem gr_anyUnary {L : Lv} (h : GrL L) : Gr (anyUnary L) := fun s => by
  unfold anyUnary
  split
  · have h1 := h.u (skip s).2
    rw [skip_n] at h1
    exact Nat.le_trans h1 (gr_add _ _)
  · exact h.p s
theorem gr_anyExpr {L : Lv} (h : GrL L) : Gr (anyExpr L) := fun s => by
  unfold anyExpr
  have h1 := take_n [121, 105, 101, 108, 100] s
  generalize take [121, 105, 101, 108, 100] s = P at *
  obtain ⟨b, s1⟩ := P
  simp only at h1
  rw [← h1]
  cases b
  · simp only []
    have h2 := gr_choice h s1
    split
    · have h3 := take_n [61] (choice L s1).2
      generalize take [61] (choice L s1).2 = P at *
      obtain ⟨b, s2⟩ := P
      simp only at h3
      rw [← h3] at h2
      cases b
      · exact h2
      · exact Nat.le_trans h2 (Nat.le_trans (h.e _) (gr_over _ _ _))
    · exact h2
  · exact Nat.le_trans (h.e s1) (gr_add _ _)
theorem gr_anyStatement {L : Lv} (h : GrL L) : Gr (anyStatement L) := fun s => by
  unfold anyStatement
  exact (ite_le (gr_block h s) (ite_le (gr_ifS h s) (ite_le (gr_whileS h s) (ite_le (gr_jump 28 s) (ite_le (gr_jump 29 s) (ite_le (gr_returnS h s) (ite_le (gr_throwS h s) (ite_le (gr_tryS h s) (ite_le (gr_binding h 21 s) (ite_le (gr_binding h 22 s) (ite_le (gr_definition h s) (gr_exprS h s))))))))))))
theorem gr_lv : ∀ d, GrL (lv d)
  | 0 => ⟨gr_fail, gr_fail, gr_fail, gr_fail⟩
  | d + 1 => ⟨gr_anyExpr (gr_lv d), gr_anyUnary (gr_lv d), gr_primary (gr_lv d), gr_anyStatement (gr_lv d)⟩
end Go.Proofs.YtpjmapoiinjakaaGreatDoor.Ps
end
section
namespace Go.Proofs.YtpjmapoiinjakaaGreatDoor.R
open Go.RowKit
open L (tkA)
set_option linter.unusedVariables false
/-- What a level is to be: its e, u, statement, by their contracts, where the nodes' number stays small. -/
structure LvC (F : Nat → Prop) (base B dep : Nat) (L : Ps.Lv) : Prop where
  gr : Ps.GrL L
  e : ∀ {st : Ps.St} {nv : Value} {w : World}, RS F base B dep st nv w → (L.e st).2.nodes.length ≤ 1000000000 → Calls Tryz.prog 99 #[.pointer (some ⟨B, 0, none⟩)] w fun e w' => e = .returned (.int .i64 ((L.e st).1 : Int)) ∧ Leaves F base B dep nv w (L.e st).2 w'
  u : ∀ {st : Ps.St} {nv : Value} {w : World}, RS F base B dep st nv w → (L.u st).2.nodes.length ≤ 1000000000 → Calls Tryz.prog 122 #[.pointer (some ⟨B, 0, none⟩)] w fun e w' => e = .returned (.int .i64 ((L.u st).1 : Int)) ∧ Leaves F base B dep nv w (L.u st).2 w'
  s : ∀ {st : Ps.St} {nv : Value} {w : World}, RS F base B dep st nv w → (L.s st).2.nodes.length ≤ 1000000000 → Calls Tryz.prog 39 #[.pointer (some ⟨B, 0, none⟩)] w fun e w' => e = .returned (.int .i64 ((L.s st).1 : Int)) ∧ Leaves F base B dep nv w (L.s st).2 w'
set_option maxRecDepth 100000 in
set_option maxHeartbeats 2000000 in
theorem inParens_any {F : Nat → Prop} {base B dep : Nat} {L : Ps.Lv} {st : Ps.St} {nv : Value} {w : World} (hL : LvC F base B dep L) (h : RS F base B dep st nv w) (hlen : (Ps.inParens L st).2.nodes.length ≤ 1000000000) :
    Calls Tryz.prog 95 #[.pointer (some ⟨B, 0, none⟩)] w fun e w' => e = .returned (.int .i64 ((Ps.inParens L st).1 : Int)) ∧ Leaves F base B dep nv w (Ps.inParens L st).2 w' := by
  have e1 : (Ps.inParens L st).1 = (L.e (Ps.want [40] st).2).1 := rfl
  have e2 : (Ps.inParens L st).2 = (Ps.want [41] (L.e (Ps.want [40] st).2).2).2 := rfl
  rw [e1, e2]
  rw [e2] at hlen
  have g1 := Ps.gr_want [40] st
  have g2 := hL.gr.e (Ps.want [40] st).2
  have g3 := Ps.gr_want [41] (L.e (Ps.want [40] st).2).2
  have H1 : Hid (_) := want_any h (by omega) [40]
  have H2 : Hid (∀ W nv', RS F base B dep (Ps.want [40] st).2 nv' W → Calls Tryz.prog 99 #[.pointer (some ⟨B, 0, none⟩)] W fun e w' => e = .returned (.int .i64 ((L.e (Ps.want [40] st).2).1 : Int)) ∧ Leaves F base B dep nv' W (L.e (Ps.want [40] st).2).2 w') := fun W nv' hW => hL.e hW (by omega)
  have H3 : Hid (∀ W nv', RS F base B dep (L.e (Ps.want [40] st).2).2 nv' W → Calls Tryz.prog 100 #[.pointer (some ⟨B, 0, none⟩), .string ⟨#[41]⟩] W fun e w' => e = .returned (.tuple #[]) ∧ Leaves F base B dep nv' W (Ps.want [41] (L.e (Ps.want [40] st).2).2).2 w') := fun W nv' hW => want_any hW (by omega) [41]
  clear h hlen e1 e2 g1 g2 g3 hL
  generalize (Ps.want [41] (L.e (Ps.want [40] st).2).2).2 = s3 at *
  generalize (L.e (Ps.want [40] st).2) = P at *
  generalize (Ps.want [40] st).2 = s1 at *
  obtain ⟨r, s2⟩ := P
  simp only at H2 H3 ⊢
  go_enter Tryz.func95, Tryz.ntmps95
  go_wp2_with fail
  refine Calls.mono H1.out ?_
  rintro e w1 ⟨rfl, nv1, hr1, hc1⟩
  go_wp2_with fail
  refine Calls.mono (H2.out _ _ hr1) ?_
  rintro e w2 ⟨rfl, nv2, hr2, hc2⟩
  go_wp2_with fail
  refine Calls.mono (H3.out _ _ hr2) ?_
  rintro e w3 ⟨rfl, nv3, hr3, hc3⟩
  go_wp2_with fail
  go_ret
  exact ⟨rfl, nv3, hr3, (hc1.trans hc2).trans hc3⟩
end Go.Proofs.YtpjmapoiinjakaaGreatDoor.R
end
section
namespace Go.Proofs.YtpjmapoiinjakaaGreatDoor.R
open Go.RowKit
open L (TokAt tkA own_block own_below cells5h cells5 info_of)
set_option linter.unusedVariables false
theorem ndCells_at : ∀ (vs : List (Ps.Nd × Value × Value)) (j : Nat) (h : j < vs.length), (ndCells vs)[j * 6 + 5]? = some (.int .i64 (vs[j].1.a : Int))
  | [], j, h => by simp at h
  | x :: vs, 0, h => by
    rw [show ndCells (x :: vs) = (ndA x.1 x.2.1 x.2.2).toList ++ ndCells vs from rfl, List.getElem?_append_left (by simp)]
    rfl
  | x :: vs, j + 1, h => by
    have ih := ndCells_at vs j (by simpa using h)
    rw [show ndCells (x :: vs) = (ndA x.1 x.2.1 x.2.2).toList ++ ndCells vs from rfl, List.getElem?_append_right (by simp; omega)]
    rw [show (j + 1) * 6 + 5 - (ndA x.1 x.2.1 x.2.2).toList.length = j * 6 + 5 by simp; omega]
    simpa using ih
/-- A node's place, where it lies. -/
theorem RS.place {F : Nat → Prop} {base B dep : Nat} {st : Ps.St} {nv : Value} {W : World} (h : RS F base B dep st nv W) {j : Nat} (hj : j < st.nodes.length) : ∃ gn cap, nv = .slice (some ⟨gn, 0, none⟩) st.nodes.length cap ∧ st.nodes.length ≤ cap ∧ gn < W.heap.size ∧ W.cell? ⟨gn, j * 6 + 5, none⟩ = some (.int .i64 ((st.nodes.getD j {}).a : Int)) := by
  obtain ⟨vs, e, ho, -⟩ := h.nd
  have hl : vs.length = st.nodes.length := by rw [← e, List.length_map]
  rcases ho.2 with ⟨_, h0⟩ | ⟨g, cap, cur, hv, hb, hg, hcap, hcs, hm, ht⟩
  · omega
  · have hgl : g < W.heap.size := Nat.lt_of_not_le fun hge => by rw [Array.getElem?_eq_none hge] at hg; cases hg
    refine ⟨g, cap, by rw [hv, hl], by omega, hgl, ?_⟩
    have hj' : j < vs.length := by omega
    have hc : W.cell? ⟨g, j * 6 + 5, none⟩ = (ndCells vs)[j * 6 + 5]? := by
      subst hv
      exact ho.cellAt (j * 6 + 5) (by omega)
    rw [hc, ndCells_at vs j hj']
    have : st.nodes.getD j {} = vs[j].1 := by
      rw [← e, List.getD_eq_getElem?_getD, List.getElem?_map, List.getElem?_eq_getElem hj']; rfl
    rw [this]
theorem over_eq (n : Ps.Nd) (k0 : Nat) (K : List Nat) (st : Ps.St) : (Ps.over n (k0 :: K) st).2 = (Ps.add { n with kids := k0 :: K, a := (st.nodes.getD k0 {}).a } st).2 := rfl
set_option maxRecDepth 100000 in
set_option maxHeartbeats 4000000 in
theorem over_any {F : Nat → Prop} {base B dep : Nat} {st : Ps.St} {nv : Value} {w : World} (h : RS F base B dep st nv w) (hlen : st.nodes.length ≤ 1000000000) (k : Nat) (t : List UInt8) (k0 : Nat) (K : List Nat) (g cap : Nat) (hcap : (k0 :: K).length ≤ cap) (hg : g < w.heap.size)
    (hc : ∀ j (h : j < (k0 :: K).length), w.cell? ⟨g, j, none⟩ = some (.int .i64 (((k0 :: K)[j] : Nat) : Int))) (hap : Apart F B nv (.slice (some ⟨g, 0, none⟩) (k0 :: K).length cap)) (hk0 : k0 < st.nodes.length) :
    Calls Tryz.prog 103 #[.pointer (some ⟨B, 0, none⟩), .agg #[.int .i64 (k : Int), .int .i64 0, .string ⟨t.toArray⟩, .slice none 0 0, .slice none 0 0, .int .i64 0], .slice (some ⟨g, 0, none⟩) (k0 :: K).length cap] w fun e w' => e = .returned (.int .i64 (st.nodes.length : Int)) ∧ Leaves F base B dep nv w (Ps.over { k := k, t := t } (k0 :: K) st).2 w' := by
  rw [over_eq]
  obtain ⟨q1, q2, q3, q4, f2, hlt⟩ := (show w.cell? ⟨B, 1, none⟩ = some nv ∧ w.cell? ⟨B, 2, none⟩ = some (.int .i64 (dep : Int)) ∧ w.cell? ⟨B, 3, none⟩ = some (.bool st.failed) ∧ w.cell? ⟨B, 4, none⟩ = some (.int .i64 (st.at_ : Int)) ∧ w.frozen? ⟨B, 2, none⟩ = false ∧ B < w.heap.size from by
    obtain ⟨tv, h1, -, -⟩ := h.rd
    obtain ⟨q0, q1, q2, q3, q4, f0, f1, f2, f3, f4, hlt⟩ := cells5h h1
    exact ⟨q1, q2, q3, q4, f2, hlt⟩)
  obtain ⟨gn, ncap, hnv, hncap, hgn, hpl⟩ := h.place hk0
  have hc0 := hc 0 (by simp)
  have hkids : KidsIn w (.slice (some ⟨g, 0, none⟩) (k0 :: K).length cap) (k0 :: K) := ⟨_, _, rfl, hcap, .inr ⟨g, rfl, hg, hc⟩⟩
  generalize hA : (st.nodes.getD k0 {}).a = A at *
  have HADD : Hid (∀ W, Below w.heap.size w W → Calls Tryz.prog 24 #[.pointer (some ⟨B, 0, none⟩), .agg #[.int .i64 (k : Int), .int .i64 0, .string ⟨t.toArray⟩, .slice none 0 0, .slice (some ⟨g, 0, none⟩) (k0 :: K).length cap, .int .i64 (A : Int)]] W fun e w' => e = .returned (.int .i64 (st.nodes.length : Int)) ∧ Leaves F base B dep nv w (Ps.add { k := k, t := t, kids := k0 :: K, a := A } st).2 w') := fun W hW => by
    have hW' := h.below hW
    have c := Chg.below (B := B) nv hW
    have hadd := add_any hW' hW'.hbw hlen { k := k, t := t, kids := k0 :: K, a := A } nil0 (.slice (some ⟨g, 0, none⟩) (k0 :: K).length cap) ⟨⟨none, 0, rfl, Nat.le_refl _, .inl rfl⟩, hkids.go hap c, (fun _ h => nomatch h), hap, (fun _ h => nomatch h), fun j hj => by
      have : g = j := by simpa [blockOf] using hj
      have := hW.size
      omega⟩ rfl rfl
    refine hadd.mono ?_
    rintro e w' ⟨rfl, nv', hr, hc'⟩
    exact ⟨rfl, nv', hr, c.trans hc'⟩
  have hi0 : (0 : Int) < (k0 :: K).length := by rw [List.length_cons]; omega
  have hk0' : (k0 : Int) < st.nodes.length := by omega
  have hk00 : (0 : Int) ≤ k0 := by omega
  simp only [List.getElem_cons_zero] at hc0
  have hgB : gn < w.heap.size := hgn
  clear h hlen hc hap hkids hk0
  generalize (k0 :: K).length = kl at *
  generalize st.nodes.length = nl at *
  subst hnv
  go_enter Tryz.func103, Tryz.ntmps103
  go_wp2_with fail
  go_region
  all_goals
    go_wp2_with fail
    refine Calls.mono (HADD.out _ (by repeat (first | with_reducible exact Below.refl _ _ | (with_reducible refine Below.drew ?_) | (with_reducible refine Below.setCell ?_ (by first | exact Nat.le_refl _ | omega | simp) _) | (with_reducible refine Below.alloc ?_ (by first | exact Nat.le_refl _ | omega | simp | (simp; omega)) _)))) ?_
    rintro e w1 ⟨rfl, hl⟩
    go_wp2_with fail
    go_ret
    exact ⟨rfl, hl⟩
end Go.Proofs.YtpjmapoiinjakaaGreatDoor.R
end
