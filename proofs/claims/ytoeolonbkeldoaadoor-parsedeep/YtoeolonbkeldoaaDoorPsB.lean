/- The parser's body, block, throw, let by their contracts. -/
import Derived.Test.YtoeolonbkeldoaaDoorPsV
namespace Go.Proofs.YtoeolonbkeldoaaDoor.R
open Go.RowKit
open L (tkA intOf wpList_append_run)
set_option linter.unusedVariables false
open Ps in
theorem body_ru {L : Lv} (g : GrL L) {s s' : Ps.St} {K : List Nat} (h : Ru (body L) s K s') : ∃ u s1 s2 u', Ru (want [123]) s u s1 ∧ Ru (statements L) s1 K s2 ∧ Ru (want [125]) s2 u' s' := by
  obtain ⟨e, n⟩ := h
  unfold body at e
  simp only [] at e
  rcases e0 : want [123] s with ⟨u, s1⟩
  simp only [e0] at e
  rcases e1 : statements L s1 with ⟨c, s2⟩
  simp only [e1] at e
  obtain ⟨rfl, e2⟩ := Prod.mk.inj e
  have e3 : want [125] s2 = ((), s') := Prod.ext rfl e2
  have n2 := gb (gr_want _) e3 n
  have n1 := gb (gr_statements g) e1 n2
  exact ⟨u, s1, s2, (), ⟨e0, n1⟩, ⟨e1, n2⟩, ⟨e3, n⟩⟩
open Ps in
theorem block_ru {L : Lv} (g : GrL L) {s s' : Ps.St} {r : Nat} (h : Ru (block L) s r s') : ∃ K s1, Ru (body L) s K s1 ∧ Ru (add { k := 25, a := (nxt s).a, kids := K }) s1 r s' := by
  obtain ⟨e, n⟩ := h
  unfold block at e
  simp only [] at e
  rcases e0 : body L s with ⟨K, s1⟩
  simp only [e0] at e
  exact ⟨K, s1, ⟨e0, gb (gr_add _) e n⟩, ⟨e, n⟩⟩
open Ps in
theorem throwS_ru {L : Lv} (g : GrL L) {s s' : Ps.St} {r : Nat} (h : Ru (throwS L) s r s') : ∃ T s1, Ru skip s T s1 ∧ (((nxt s1).ln = true ∧ Ru fail s1 r s') ∨ ((nxt s1).ln = false ∧ ∃ c s2 u s3, Ru L.e s1 c s2 ∧ Ru endS s2 u s3 ∧ Ru (add { k := 31, a := T.a, kids := [c] }) s3 r s')) := by
  obtain ⟨e, n⟩ := h
  unfold throwS at e
  simp only [] at e
  rcases e0 : skip s with ⟨T, s1⟩
  simp only [e0] at e
  by_cases hl : (nxt s1).ln = true
  · rw [if_pos hl] at e
    exact ⟨T, s1, ⟨e0, gb gr_fail e n⟩, .inl ⟨hl, ⟨e, n⟩⟩⟩
  · rw [if_neg hl] at e
    rcases e1 : L.e s1 with ⟨c, s2⟩
    simp only [e1] at e
    rcases e2 : endS s2 with ⟨u, s3⟩
    simp only [e2] at e
    have n3 := gb (gr_add _) e n
    have n2 := gb gr_endS e2 n3
    have n1 := gb g.e e1 n2
    exact ⟨T, s1, ⟨e0, n1⟩, .inr ⟨by simpa using hl, c, s2, u, s3, ⟨e1, n2⟩, ⟨e2, n3⟩, ⟨e, n⟩⟩⟩
open Ps in
theorem binding_ru {L : Lv} {k : Nat} (g : GrL L) {s s' : Ps.St} {r : Nat} (h : Ru (binding L k) s r s') : ∃ T s1 t s2 u s3 c s4 u' s5, Ru skip s T s1 ∧ Ru name s1 t s2 ∧ Ru (want [61]) s2 u s3 ∧ Ru L.e s3 c s4 ∧ Ru endS s4 u' s5 ∧ Ru (add { k := k, t := t, a := T.a, kids := [c] }) s5 r s' := by
  obtain ⟨e, n⟩ := h
  unfold binding at e
  simp only [] at e
  rcases e0 : skip s with ⟨T, s1⟩
  simp only [e0] at e
  rcases e1 : name s1 with ⟨t, s2⟩
  simp only [e1] at e
  rcases e2 : want [61] s2 with ⟨u, s3⟩
  simp only [e2] at e
  rcases e3 : L.e s3 with ⟨c, s4⟩
  simp only [e3] at e
  rcases e4 : endS s4 with ⟨u', s5⟩
  simp only [e4] at e
  have n5 := gb (gr_add _) e n
  have n4 := gb gr_endS e4 n5
  have n3 := gb g.e e3 n4
  have n2 := gb (gr_want _) e2 n3
  have n1 := gb gr_name e1 n2
  exact ⟨T, s1, t, s2, u, s3, c, s4, u', s5, ⟨e0, n1⟩, ⟨e1, n2⟩, ⟨e2, n3⟩, ⟨e3, n4⟩, ⟨e4, n5⟩, ⟨e, n⟩⟩
section
variable {F : Nat → Prop} {base B dep : Nat} {L : Ps.Lv} {s s' : Ps.St} {nv : Value} {w : World} {r : Nat}
set_option maxRecDepth 100000 in
set_option maxHeartbeats 2000000 in
theorem c_body {K : List Nat} (hL : ∀ F, LvC F base B dep L) (hS : Ps.ShL L) (E : Ru (Ps.body L) s K s') (h : RS F base B dep s nv w) : Calls Tryd.prog 61 #[.pointer (some ⟨B, 0, none⟩)] w (TellsK F base B dep nv w s' K) := by
  obtain ⟨u, s1, s2, u', E1, E2, E3⟩ := body_ru (hL F).gr E
  go_enter Tryd.func61, Tryd.ntmps61
  go_wp2_with fail
  refine Calls.mono (c_want (m := [123]) E1 h) ?_
  rintro e w1 ⟨rfl, nv1, hr1, hc1⟩
  go_wp2_with fail
  refine Calls.mono (c_statements hL hS E2 hr1) ?_
  rintro e w2 ⟨ad, cap, rfl, nv2, hr2, hc2, hk2⟩
  go_wp2_with fail
  refine Calls.mono (c_want (m := [125]) E3 hr2) ?_
  rintro e w3 ⟨rfl, nv3, hr3, hc3⟩
  go_wp2_with fail
  go_ret
  exact ⟨ad, cap, rfl, nv3, hr3, (hc1.trans hc2).trans hc3, hk2.go hc3⟩
set_option maxRecDepth 100000 in
set_option maxHeartbeats 2000000 in
theorem c_block (hL : ∀ F, LvC F base B dep L) (hS : Ps.ShL L) (E : Ru (Ps.block L) s r s') (h : RS F base B dep s nv w) : Calls Tryd.prog 47 #[.pointer (some ⟨B, 0, none⟩)] w (Tells F base B dep nv w s' (.int .i64 (r : Int))) := by
  obtain ⟨K, s1, E1, E2⟩ := block_ru (hL F).gr E
  have HN : Hid (_) := c_next h
  have hfl := run_field3
  clear E
  rcases eT : Ps.nxt s with ⟨tk, tt, tn, ta, tl, te⟩
  rw [eT] at HN E2
  simp only [tkA] at HN E2
  clear eT
  go_enter Tryd.func47, Tryd.ntmps47
  go_wp2_with fail
  refine Calls.mono HN.out ?_
  rintro e w1 ⟨rfl, nv1, hr1, hc1⟩
  go_wp2_with fail
  refine Calls.mono (c_body hL hS E1 hr1) ?_
  rintro e w2 ⟨ad, cap, rfl, nv2, hr2, hc2, hk2⟩
  go_wp2_with fail
  refine Calls.mono (c_addV E2 hr2 (NV.nil _ _ _ _) hk2) ?_
  rintro e w3 ⟨rfl, nv3, hr3, hc3⟩
  go_wp2_with fail
  go_ret
  exact ⟨rfl, nv3, hr3, (hc1.trans hc2).trans hc3⟩
set_option maxRecDepth 100000 in
set_option maxHeartbeats 2000000 in
theorem c_throwS (hL : ∀ F, LvC F base B dep L) (E : Ru (Ps.throwS L) s r s') (h : RS F base B dep s nv w) : Calls Tryd.prog 52 #[.pointer (some ⟨B, 0, none⟩)] w (Tells F base B dep nv w s' (.int .i64 (r : Int))) := by
  obtain ⟨⟨tk, tt, tn, ta, tl, te⟩, s1, E1, E2⟩ := throwS_ru (hL F).gr E
  have hfl := run_field3
  have hfl4 := run_field4
  have HN : Hid (∀ nv w, RS F base B dep s1 nv w → _) := fun nv w h => c_next (w := w) (nv := nv) h
  clear E
  rcases eT : Ps.nxt s1 with ⟨uk, ut, un, ua, ul, ue⟩
  rw [eT] at HN E2
  simp only [tkA] at HN E2
  clear eT
  rcases E2 with ⟨rfl, E2⟩ | ⟨rfl, c, s2, u, s3, E2, E3, E4⟩
  · go_enter Tryd.func52, Tryd.ntmps52
    go_wp2_with fail
    refine Calls.mono (c_skip E1 h) ?_
    rintro e w1 ⟨rfl, nv1, hr1, hc1⟩
    simp only [tkA] at *
    go_wp2_with fail
    refine Calls.mono (HN.out _ _ hr1) ?_
    rintro e w2 ⟨rfl, nv2, hr2, hc2⟩
    go_wp2_with fail
    refine Calls.mono (c_fail E2 hr2) ?_
    rintro e w3 ⟨rfl, nv3, hr3, hc3⟩
    go_wp2_with fail
    go_ret
    exact ⟨rfl, nv3, hr3, (hc1.trans hc2).trans hc3⟩
  · go_enter Tryd.func52, Tryd.ntmps52
    go_wp2_with fail
    refine Calls.mono (c_skip E1 h) ?_
    rintro e w1 ⟨rfl, nv1, hr1, hc1⟩
    simp only [tkA] at *
    go_wp2_with fail
    refine Calls.mono (HN.out _ _ hr1) ?_
    rintro e w2 ⟨rfl, nv2, hr2, hc2⟩
    go_wp2_with fail
    refine Calls.mono (c_e hL E2 hr2) ?_
    rintro e w3 ⟨rfl, nv3, hr3, hc3⟩
    have hk3 := KV.lit hr3 [c] #[.int .i64 (c : Int)] 1 rfl (fun j hj => by
      have : j = 0 := by simpa using hj
      subst this; rfl)
    have hb3 : Below w3.heap.size w3 (w3.alloc (.cells #[.int .i64 (c : Int)] 3)) := (Below.refl _ _).alloc (Nat.le_refl _) _
    have hr3' := hr3.below hb3
    have HC3 : Hid (_) := ((hc1.trans hc2).trans hc3).trans (Chg.below nv3 hb3)
    clear hb3 hc1 hc2 hc3
    go_wp2_with fail
    refine Calls.mono (c_endS E3 hr3') ?_
    rintro e w4 ⟨rfl, nv4, hr4, hc4⟩
    go_wp2_with fail
    refine Calls.mono (c_addV E4 hr4 (NV.nil _ _ _ _) (hk3.go hc4)) ?_
    rintro e w5 ⟨rfl, nv5, hr5, hc5⟩
    go_wp2_with fail
    go_ret
    exact ⟨rfl, nv5, hr5, (HC3.out.trans hc4).trans hc5⟩
end
end Go.Proofs.YtoeolonbkeldoaaDoor.R
