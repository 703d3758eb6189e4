/- The parser's statements by their contract: a row of statements. -/
import Derived.Test.YtoeolonbkeldoaaDoorPsS
import Derived.Test.YtoeolonbkeldoaaDoorPsZ
import Derived.BigRegion
namespace Go.Proofs.YtoeolonbkeldoaaDoor.R
open Go.RowKit
open L (tkA intOf wpList_append_run)
set_option linter.unusedVariables false
theorem RS.good {F : Nat → Prop} {base B dep : Nat} {s : Ps.St} {nv : Value} {W : World} (h : RS F base B dep s nv W) : Ps.Good s := by
  obtain ⟨tv, _, ⟨g, off, cap, _, _, _, _, h1, _⟩, _⟩ := h.rd
  exact ⟨h1, h.last⟩
/-- How many tokens the reader at B has, read off the world; 1 while it has not failed. -/
def tokN (B : Nat) (W : World) : Nat := match W.cell? ⟨B, 0, none⟩ with
  | some (.slice _ n _) => n
  | _ => 0
def flN (B : Nat) (W : World) : Nat := match W.cell? ⟨B, 3, none⟩ with
  | some (.bool true) => 0
  | _ => 1
def fl (s : Ps.St) : Nat := if s.failed = true then 0 else 1
theorem RS.tokN {F : Nat → Prop} {base B dep : Nat} {s : Ps.St} {nv : Value} {W : World} (h : RS F base B dep s nv W) : tokN B W = s.toks.length := by
  obtain ⟨tv, h1, ⟨g, off, cap, rfl, _⟩, _⟩ := h.rd
  obtain ⟨q0, _⟩ := L.cells5h h1
  unfold R.tokN; rw [q0]
theorem RS.flN {F : Nat → Prop} {base B dep : Nat} {s : Ps.St} {nv : Value} {W : World} (h : RS F base B dep s nv W) : flN B W = fl s := by
  obtain ⟨tv, h1, _⟩ := h.rd
  obtain ⟨_, _, _, q3, _⟩ := L.cells5h h1
  unfold R.flN fl; rw [q3]; cases s.failed <;> rfl
theorem RS.cell3 {F : Nat → Prop} {base B dep : Nat} {s : Ps.St} {nv : Value} {W : World} (h : RS F base B dep s nv W) : W.cell? ⟨B, 3, none⟩ = some (.bool s.failed) := h.cells.2.2.1
/-- A call tells kids and leaves the reader in a state. -/
def TellsK (F : Nat → Prop) (base B dep : Nat) (nv : Value) (w : World) (s' : Ps.St) (K : List Nat) : Ending → World → Prop := fun e w' => ∃ ad cap, e = .returned (.slice ad K.length cap) ∧ ∃ nv', RS F base B dep s' nv' w' ∧ Chg B nv nv' w w' ∧ KV F B nv' w' (.slice ad K.length cap) K
/-- Where the loop of statements stands. -/
structure StL (F : Nat → Prop) (base B dep : Nat) (L : Ps.Lv) (nv : Value) (w W : World) (a : Option Addr) (cap : Nat) (K1 : List Nat) (s1 : Ps.St) (K : List Nat) (s' : Ps.St) : Prop where
  ko : ∃ nv1, KO F base B dep s1 nv1 w W 3 (.slice a K1.length cap) K1.length (kc K1) ∧ Chg B nv nv1 w W
  run : ∃ f, Ps.statementsLoop L f K1 s1 = (K, s') ∧ s1.toks.length + fl s1 ≤ f
  cnt : K1.length + s1.toks.length + fl s1 ≤ 100001
set_option maxRecDepth 100000 in
set_option maxHeartbeats 2000000 in
theorem c_statements {F : Nat → Prop} {base B dep : Nat} {L : Ps.Lv} {s s' : Ps.St} {nv : Value} {w : World} {K : List Nat} (hL : ∀ F, LvC F base B dep L) (hS : Ps.ShL L) (E : Ru (Ps.statements L) s K s') (h : RS F base B dep s nv w) : Calls Tryd.prog 12 #[.pointer (some ⟨B, 0, none⟩)] w (TellsK F base B dep nv w s' K) := by
  have HSTART : Hid (StL F base B dep L nv w w none 0 [] s K s') := (show StL _ _ _ _ _ _ _ _ _ _ _ _ _ _ from ⟨⟨nv, KO.nil h (Nat.le_refl _), Chg.refl _ _ _⟩, ⟨s.toks.length + 1, E.eq, by unfold fl; split <;> omega⟩, by have := h.few; unfold fl; split <;> simp <;> omega⟩)
  have hsm := E.small
  have H : Hid (_) := h
  have HSm : Hid (s'.nodes.length ≤ 1000000000) := hsm
  clear E h hsm
  go_enter Tryd.func12, Tryd.ntmps12
  go_wp2_with fail
  go_loopw [2] (fun v W => ∃ (K1 : List Nat) (a : Option Addr) (cap : Nat) (s1 : Ps.St), v = .slice a K1.length cap ∧ Hid (StL F base B dep L nv w W a cap K1 s1 K s')) (fun _ W => tokN B W + flN B W)
  case atStart => exact ⟨[], none, 0, s, rfl, HSTART⟩
  case round =>
    obtain ⟨K1, a, cap, s1, rfl, HI⟩ := hrel
    clear HSTART
    obtain ⟨⟨nv1, hko, hchg⟩, ⟨f, hrun, hf⟩, hcnt⟩ := HI.out
    have hg := hko.rs.good
    have hlt := hko.rs.lt
    have c3 := hko.rs.cell3
    obtain ⟨f, rfl⟩ : ∃ f', f = f' + 1 := ⟨f - 1, by have := hg.one; omega⟩
    have HT0 : Hid (_ ∧ _) := (show _ ∧ _ from ⟨hko.rs.tokN, hko.rs.flN⟩)
    by_cases hfail : s1.failed = true
    · have hr : K1 = K ∧ s1 = s' := by
        unfold Ps.statementsLoop at hrun
        rw [hfail] at hrun
        simpa using hrun
      obtain ⟨rfl, rfl⟩ := hr
      have HE := hko.kv H.out
      rw [hfail] at c3
      have HEE : Hid (_) := HE
      have HC : Hid (_) := hchg
      clear hrun hf hcnt hko HE HI HT0 hchg
      go_wp2_with fail
      go_ret
      exact ⟨a, cap, rfl, nv1, HEE.out.1, HC.out, HEE.out.2⟩
    · have hff : s1.failed = false := by simpa using hfail
      rw [hff] at c3
      have HCL : Hid (_) := c_closes hko.rs
      by_cases hcl : Ps.closes s1 = true
      · have hr : K1 = K ∧ s1 = s' := by
          unfold Ps.statementsLoop at hrun
          rw [hff, hcl] at hrun
          simpa using hrun
        obtain ⟨rfl, rfl⟩ := hr
        have HKO : Hid (_) := hko
        have HC : Hid (_) := hchg
        rw [hcl] at HCL
        clear hrun hf hcnt hko HI HT0 hchg hcl
        go_wp2_with fail
        refine Calls.mono HCL.out ?_
        rintro e w2 ⟨rfl, nv2, hr2, hc2⟩
        have HE : Hid (_) := (HKO.out.go hr2 hc2).kv H.out
        have HC2 : Hid (_) := HC.out.trans hc2
        clear hr2 hc2
        go_wp2_with fail
        go_ret
        exact ⟨a, cap, rfl, nv2, HE.out.1, HC2.out, HE.out.2⟩
      · have hcf : Ps.closes s1 = false := by simpa using hcl
        rw [hcf] at HCL
        have hrun2 : Ps.statementsLoop L f (K1 ++ [(L.s s1).1]) (L.s s1).2 = (K, s') := by
          have h2 := hrun
          unfold Ps.statementsLoop at h2
          rw [hff, hcf] at h2
          simpa using h2
        rcases es : L.s s1 with ⟨r, s2⟩
        rw [es] at hrun2
        simp only at hrun2
        have hle := hS.s s1 hg
        have hgo := hS.gs s1 hg
        rw [es] at hle hgo
        have n2 : s2.nodes.length ≤ 1000000000 := gb (Ps.gr_statementsLoop (hL F).gr f _) hrun2 HSm.out
        have E2 : Ru L.s s1 r s2 := ⟨es, n2⟩
        have hdrop : s2.toks.length + fl s2 + 1 ≤ s1.toks.length + fl s1 := by
          have h1 : fl s1 = 1 := by unfold fl; rw [if_neg hfail]
          have h2 := hle.le
          rcases hgo with h3 | h3
          · have : fl s2 = 0 := by unfold fl; rw [if_pos h3]
            simp only at h2; omega
          · have : fl s2 ≤ 1 := by unfold fl; split <;> omega
            simp only at h3; omega
        have HKO : Hid (_) := hko
        have HC : Hid (_) := hchg
        have HR2 : Hid (_) := hrun2
        have HD : Hid (s2.toks.length + fl s2 + 1 ≤ s1.toks.length + fl s1 ∧ s1.toks.length + fl s1 ≤ f + 1 ∧ K1.length + s1.toks.length + fl s1 ≤ 100001) := (show _ ∧ _ ∧ _ from ⟨hdrop, hf, hcnt⟩)
        clear hrun hf hcnt hko HI hchg hcl hcf hfail hff hrun2 hle hgo n2 hdrop es hg
        go_wp2_with fail
        refine Calls.mono HCL.out ?_
        rintro e w2 ⟨rfl, nv2, hr2, hc2⟩
        have HKO2 : Hid (_) := HKO.out.go hr2 hc2
        have HC2 : Hid (_) := HC.out.trans hc2
        clear hr2 hc2 HKO HC HCL
        go_wp2_with fail
        refine Calls.mono (c_s hL E2 HKO2.out.rs) ?_
        rintro e w3 ⟨rfl, nv3, hr3, hc3⟩
        obtain ⟨a4, cap4, w4, hap, hko4, hc4⟩ := (HKO2.out.go hr3 hc3).kid r (by have := HD.out; omega)
        have HRn : Hid (_) := hap
        have HKO4 : Hid (_) := hko4
        have HC4 : Hid (_) := hc4 _ (HC2.out.trans hc3)
        clear hr3 hc3 HKO2 HC2 hap hko4 hc4
        go_wp2_with (at_builtin; refine wpList_append_run _ _ 28 rfl rfl _ _ _ _ rfl rfl HRn.out ?_)
        go_roundw
        case rel =>
          refine ⟨K1 ++ [r], a4, cap4, s2, by simp, ?_⟩
          have := HD.out
          exact (show StL _ _ _ _ _ _ _ _ _ _ _ _ _ _ from ⟨⟨nv3, by simpa using HKO4.out, HC4.out⟩, ⟨f, HR2.out, by omega⟩, by simp; omega⟩)
        case measure =>
          have h1 := HKO4.out.rs.tokN
          have h2 := HKO4.out.rs.flN
          have := HD.out
          have h3 := HT0.out
          show _ < _
          rw [h1, h2, h3.1, h3.2]; omega
end Go.Proofs.YtoeolonbkeldoaaDoor.R
