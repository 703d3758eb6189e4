/- The parser's textOf, name by their contracts. -/
import Derived.Test.YtoeolonbkeldoaaDoorPsL
namespace Go.Proofs.YtoeolonbkeldoaaDoor.R
open Go.RowKit
open L (TokAt tkA own_block own_below cells5h cells5 info_of)
set_option linter.unusedVariables false
theorem run_field0 (k : Int) (t : ByteArray) (n a : Int) (ln : Bool) (W : World) : (Instr.field 42 (.agg #[.int .i64 k, .string t, .int .i64 n, .int .i64 a, .bool ln]) 0).run Tryd.prog W = .ok (.int .i64 k) W := by
  simp [Instr.field, go_sem, asAgg]
theorem run_field1 (k : Int) (t : ByteArray) (n a : Int) (ln : Bool) (W : World) : (Instr.field 42 (.agg #[.int .i64 k, .string t, .int .i64 n, .int .i64 a, .bool ln]) 1).run Tryd.prog W = .ok (.string t) W := by
  simp [Instr.field, go_sem, asAgg]
set_option maxRecDepth 100000 in
set_option maxHeartbeats 2000000 in
theorem textOf_any {F : Nat → Prop} {base B dep : Nat} {st : Ps.St} {nv : Value} {w : World} (h : RS F base B dep st nv w) (hlen : st.nodes.length ≤ 1000000000) (K : List Nat) (g cap : Nat) (hg : g < w.heap.size) (hK : ∀ j (h : j < K.length), w.cell? ⟨g, j, none⟩ = some (.int .i64 (K[j] : Int))) (hKl : K.length ≤ 5) (hcap : K.length ≤ cap) :
    Calls Tryd.prog 75 #[.pointer (some ⟨B, 0, none⟩), .slice (some ⟨g, 0, none⟩) K.length cap] w fun e w' => e = .returned (.string ⟨(Ps.textOf K st).1.toArray⟩) ∧ Leaves F base B dep nv w (Ps.textOf K st).2 w' := by
  have HN : Hid (∀ W, Below w.heap.size w W → Calls Tryd.prog 13 #[.pointer (some ⟨B, 0, none⟩)] W fun e w' => e = .returned (.agg (tkA (Ps.nxt st))) ∧ Below W.heap.size W w') := fun W hW => next_any (h.below hW)
  have HS : Hid (∀ W, Below w.heap.size w W → Calls Tryd.prog 62 #[.pointer (some ⟨B, 0, none⟩)] W fun e w' => e = .returned (.agg (tkA (Ps.nxt st))) ∧ RS F base B dep (Ps.skip st).2 nv w' ∧ Chg B nv nv W w') := fun W hW => skip_any (h.below hW)
  have HF : Hid (∀ W, Below w.heap.size w W → Calls Tryd.prog 14 #[.pointer (some ⟨B, 0, none⟩)] W fun e w' => e = .returned (.int .i64 (st.nodes.length : Int)) ∧ ∃ nv', RS F base B dep (Ps.fail st).2 nv' w' ∧ Chg B nv nv' W w') := fun W hW => fail_any (h.below hW) hlen
  have ht : Ps.textOf K st = if (Ps.nxt st).k ∈ K then ((Ps.nxt st).t, (Ps.skip st).2) else ([], (Ps.fail st).2) := rfl
  rw [ht]
  have HK : Hid (∀ j (h : j < K.length), w.cell? ⟨g, j, none⟩ = some (.int .i64 (K[j] : Int))) := hK
  have HG : Hid (g < w.heap.size) := hg
  have hfl0 := run_field0
  have hfl1 := run_field1
  clear h hlen ht hK hg
  generalize Ps.nxt st = T at *
  obtain ⟨tk, tt, tn, ta, tl, te⟩ := T
  simp only [tkA] at HN HS ⊢
  generalize (Ps.skip st).2 = st1 at *
  generalize (Ps.fail st).2 = st2 at *
  have HR : Hid (∀ (P : List UInt8 × Ps.St), (if tk ∈ K then (tt, st1) else ([], st2)) = P → (if tk ∈ K then (tt, st1) else ([], st2)) = P) := fun P h => h
  clear HR
  obtain ⟨P, hP⟩ : ∃ P, (if tk ∈ K then (tt, st1) else ([], st2)) = P := ⟨_, rfl⟩
  rw [hP]
  have HP : Hid (_) := hP
  clear hP
  go_enter Tryd.func75, Tryd.ntmps75
  go_wp2_with fail
  go_loopw [9] (fun i W => ∃ k : Nat, k ≤ K.length ∧ i = .int .i64 (k : Int) ∧ Hid (∀ j (h : j < K.length), j < k → tk ≠ K[j]) ∧ Hid (Below w.heap.size w W)) (fun i _ => K.length - (intOf i).toNat)
  case atStart => exact ⟨0, by omega, rfl, fun j h h' => absurd h' (by omega), (show Below _ _ _ from Below.refl _ _)⟩
  case round =>
    obtain ⟨k, hk, rfl, HA, HW⟩ := hrel
    by_cases hlt : k < K.length
    · have hlt' : (k : Int) < K.length := by omega
      have hc := (HW.out.cell (p := ⟨g, k, none⟩) HG.out).trans (HK.out k hlt)
      have HN2 : Hid (_) := HN.out _ HW.out
      by_cases he : tk = K[k]
      · have hee : ((tk : Int) == ((K[k] : Nat) : Int)) = true := by rw [beq_iff_eq]; omega
        have HPE : Hid (P = (tt, st1)) := HP.out.symm.trans (if_pos (by rw [he]; exact List.getElem_mem _))
        clear HA he HN HF HK HP
        generalize K[k] = kk at *
        go_wp2_with fail
        refine Calls.mono HN2.out ?_
        rintro e w1 ⟨rfl, hb1⟩
        have HB2 := HW.out.trans (hb1.mono HW.out.size)
        go_wp2_with fail
        refine Calls.mono (HS.out _ HB2) ?_
        rintro e w2 ⟨rfl, hr, hc2⟩
        go_wp2_with fail
        go_ret
        rw [HPE.out]
        exact ⟨rfl, nv, hr, (Chg.below nv HB2).trans hc2⟩
      · have hee : ((tk : Int) == ((K[k] : Nat) : Int)) = false := by rw [beq_eq_false_iff_ne]; omega
        have HA' : Hid (∀ j (h : j < K.length), j < k + 1 → tk ≠ K[j]) := fun j h h' => by
          by_cases e : j = k
          · subst e; exact he
          · exact HA.out j h (by omega)
        clear HA he HN HF HK HP HS
        generalize K[k] = kk at *
        go_wp2_with fail
        refine Calls.mono HN2.out ?_
        rintro e w1 ⟨rfl, hb1⟩
        have HB2 : Hid (Below w.heap.size w w1) := HW.out.trans (hb1.mono HW.out.size)
        clear hb1
        go_wp2_with fail
        go_roundw
        case rel => exact ⟨k + 1, by omega, by go_num, HA', HB2⟩
        case measure => simp [intOf]; omega
    · have hlt' : ¬ (k : Int) < K.length := by omega
      have HPE : Hid (P = ([], st2)) := HP.out.symm.trans (if_neg (fun hm => by
        obtain ⟨j, hj, e⟩ := List.getElem_of_mem hm
        exact HA.out j hj (by omega) e.symm))
      clear HA HN HS HK HP
      go_wp2_with fail
      refine Calls.mono (HF.out _ HW.out) ?_
      rintro e w2 ⟨rfl, nv', hr, hc2⟩
      go_wp2_with fail
      go_ret
      rw [HPE.out]
      exact ⟨rfl, nv', hr, (Chg.below nv HW.out).trans hc2⟩
set_option maxRecDepth 100000 in
set_option maxHeartbeats 2000000 in
theorem name_any {F : Nat → Prop} {base B dep : Nat} {st : Ps.St} {nv : Value} {w : World} (h : RS F base B dep st nv w) (hlen : st.nodes.length ≤ 1000000000) :
    Calls Tryd.prog 69 #[.pointer (some ⟨B, 0, none⟩)] w fun e w' => e = .returned (.string ⟨(Ps.name st).1.toArray⟩) ∧ Leaves F base B dep nv w (Ps.name st).2 w' := by
  have hb : Below w.heap.size w (w.alloc (.cells #[.int .i64 3] 3)) := (Below.refl _ _).alloc (Nat.le_refl _) _
  have HT : Hid (_) := textOf_any (h.below hb) hlen [3] w.heap.size 1 (by simp) (fun j hj => by
    have hj0 : j = 0 := by simpa using hj
    subst hj0
    simp) (by simp) (by simp)
  have HC : Hid (Chg B nv nv w _) := Chg.below nv hb
  clear h hb
  change Calls _ _ _ _ (fun e w' => e = .returned (.string ⟨(Ps.textOf [3] st).1.toArray⟩) ∧ Leaves F base B dep nv w (Ps.textOf [3] st).2 w')
  generalize Ps.textOf [3] st = P at *
  go_enter Tryd.func69, Tryd.ntmps69
  go_wp2_with fail
  refine Calls.mono HT.out ?_
  rintro e w1 ⟨rfl, nv', hr, hc⟩
  go_wp2_with fail
  go_ret
  exact ⟨rfl, nv', hr, HC.out.trans hc⟩
end Go.Proofs.YtoeolonbkeldoaaDoor.R
