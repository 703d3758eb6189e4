/- The parser's end of a statement by its contract; nodes only grow. -/
import Derived.Test.YtoeolonbkeldoaaDoorPsX
namespace Go.Proofs.YtoeolonbkeldoaaDoor.R
open Go.RowKit
open L (tkA)
set_option linter.unusedVariables false
theorem endS_eq (st : Ps.St) : (Ps.endS st).2 = if (Ps.take [59] st).1 = true then (Ps.take [59] st).2 else if Ps.closes (Ps.take [59] st).2 = true ∨ (Ps.nxt (Ps.take [59] st).2).ln = true then (Ps.take [59] st).2 else (Ps.fail (Ps.take [59] st).2).2 := by
  unfold Ps.endS
  rcases Ps.take [59] st with ⟨b, s⟩
  cases b
  · simp only [Bool.false_eq_true, if_false]
    cases Ps.closes s <;> cases (Ps.nxt s).ln <;> rfl
  · rfl
theorem run_field4 (k : Int) (t : ByteArray) (n a : Int) (ln : Bool) (W : World) : (Instr.field 42 (.agg #[.int .i64 k, .string t, .int .i64 n, .int .i64 a, .bool ln]) 4).run Tryd.prog W = .ok (.bool ln) W := by
  simp [Instr.field, go_sem, asAgg]
set_option maxRecDepth 100000 in
set_option maxHeartbeats 2000000 in
theorem endS_any {F : Nat → Prop} {base B dep : Nat} {st : Ps.St} {nv : Value} {w : World} (h : RS F base B dep st nv w) (hlen : st.nodes.length ≤ 1000000000) :
    Calls Tryd.prog 66 #[.pointer (some ⟨B, 0, none⟩)] w fun e w' => e = .returned (.tuple #[]) ∧ Leaves F base B dep nv w (Ps.endS st).2 w' := by
  have HT : Hid (_) := take_any h [59]
  have hn := take_nodes [59] st
  rw [endS_eq]
  clear h
  generalize Ps.take [59] st = P at *
  obtain ⟨b, s'⟩ := P
  simp only at HT hn ⊢
  have HF : Hid (∀ W, RS F base B dep s' nv W → Calls Tryd.prog 14 #[.pointer (some ⟨B, 0, none⟩)] W fun e w' => e = .returned (.int .i64 (s'.nodes.length : Int)) ∧ ∃ nv', RS F base B dep (Ps.fail s').2 nv' w' ∧ Chg B nv nv' W w') := fun W hW => fail_any hW (by rw [hn]; exact hlen)
  have HC : Hid (∀ W, RS F base B dep s' nv W → Calls Tryd.prog 18 #[.pointer (some ⟨B, 0, none⟩)] W fun e w' => e = .returned (.bool (Ps.closes s')) ∧ Below W.heap.size W w') := fun W hW => closes_any hW
  have HN : Hid (∀ W, RS F base B dep s' nv W → Calls Tryd.prog 13 #[.pointer (some ⟨B, 0, none⟩)] W fun e w' => e = .returned (.agg (tkA (Ps.nxt s'))) ∧ Below W.heap.size W w') := fun W hW => next_any hW
  have hfl := run_field4
  clear hn hlen
  cases b
  · rw [if_neg (by simp)]
    generalize Ps.closes s' = c at *
    generalize Ps.nxt s' = T at *
    generalize (Ps.fail s').2 = sf at *
    obtain ⟨tk, tt, tn, ta, tl, te⟩ := T
    simp only [tkA] at HN ⊢
    cases c
    · cases tl
      · rw [if_neg (by simp)]
        go_enter Tryd.func66, Tryd.ntmps66
        go_wp2_with fail
        refine Calls.mono HT.out ?_
        rintro e w1 ⟨rfl, hr, hc⟩
        go_wp2_with fail
        refine Calls.mono (HC.out _ hr) ?_
        rintro e w2 ⟨rfl, hb2⟩
        go_wp2_with fail
        refine Calls.mono (HN.out _ (hr.below hb2)) ?_
        rintro e w3 ⟨rfl, hb3⟩
        go_wp2_with fail
        refine Calls.mono (HF.out _ ((hr.below hb2).below hb3)) ?_
        rintro e w4 ⟨rfl, nv', hr4, hc4⟩
        go_wp2_with fail
        go_end0
        exact ⟨rfl, nv', hr4, ((hc.trans (Chg.below nv hb2)).trans (Chg.below nv hb3)).trans hc4⟩
      · rw [if_pos (.inr rfl)]
        go_enter Tryd.func66, Tryd.ntmps66
        go_wp2_with fail
        refine Calls.mono HT.out ?_
        rintro e w1 ⟨rfl, hr, hc⟩
        go_wp2_with fail
        refine Calls.mono (HC.out _ hr) ?_
        rintro e w2 ⟨rfl, hb2⟩
        go_wp2_with fail
        refine Calls.mono (HN.out _ (hr.below hb2)) ?_
        rintro e w3 ⟨rfl, hb3⟩
        go_wp2_with fail
        go_end0
        exact ⟨rfl, nv, (hr.below hb2).below hb3, (hc.trans (Chg.below nv hb2)).trans (Chg.below nv hb3)⟩
    · rw [if_pos (.inl rfl)]
      go_enter Tryd.func66, Tryd.ntmps66
      go_wp2_with fail
      refine Calls.mono HT.out ?_
      rintro e w1 ⟨rfl, hr, hc⟩
      go_wp2_with fail
      refine Calls.mono (HC.out _ hr) ?_
      rintro e w2 ⟨rfl, hb2⟩
      go_wp2_with fail
      go_end0
      exact ⟨rfl, nv, hr.below hb2, hc.trans (Chg.below nv hb2)⟩
  · rw [if_pos rfl]
    go_enter Tryd.func66, Tryd.ntmps66
    go_wp2_with fail
    refine Calls.mono HT.out ?_
    rintro e w1 ⟨rfl, hr, hc⟩
    go_wp2_with fail
    go_end0
    exact ⟨rfl, nv, hr, hc⟩
end Go.Proofs.YtoeolonbkeldoaaDoor.R
