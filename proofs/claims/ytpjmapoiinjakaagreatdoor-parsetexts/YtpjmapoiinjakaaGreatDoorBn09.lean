/- Texts: PsD PsU PsCa. -/
import Derived.Test.YtpjmapoiinjakaaGreatDoorBn08
import Derived.BigRegion
import Derived.Deep.RegionHeld3
import Derived.Deep.DeepCutAuto
import Derived.Deep.CutBlock
section
namespace Go.Proofs.YtpjmapoiinjakaaGreatDoor.R
open Go.RowKit
open L (tkA intOf wpList_append_run)
set_option linter.unusedVariables false
open Ps in
theorem func_ru {L : Lv} {named : Bool} (g : GrL L) {s s' : Ps.St} {r : Nat} (h : Ru (func L named) s r s') : ∃ T s1 b s2 t s3 u s4 N s5 K s6, Ru skip s T s1 ∧ Ru (take [42]) s1 b s2 ∧ ((named = true ∧ Ru name s2 t s3) ∨ (named = false ∧ (nxt s2).k = 3 ∧ Ru name s2 t s3) ∨ (named = false ∧ (nxt s2).k ≠ 3 ∧ t = [] ∧ s3 = s2)) ∧ Ru (want [40]) s3 u s4 ∧ Ru (items [41] name) s4 N s5 ∧ Ru (body L) s5 K s6 ∧ Ru (add { k := 10, n := if b then 1 else 0, t := t, names := N, kids := K, a := T.a }) s6 r s' := by
  obtain ⟨e, n⟩ := h
  unfold func at e
  simp only [] at e
  rcases e0 : skip s with ⟨T, s1⟩
  simp only [e0] at e
  rcases e1 : take [42] s1 with ⟨b, s2⟩
  simp only [e1] at e
  rcases e2 : (if (named || decide ((nxt s2).k = 3)) = true then name s2 else ([], s2)) with ⟨t, s3⟩
  simp only [e2] at e
  rcases e3 : want [40] s3 with ⟨u, s4⟩
  simp only [e3] at e
  rcases e4 : items [41] name s4 with ⟨N, s5⟩
  simp only [e4] at e
  rcases e5 : body L s5 with ⟨K, s6⟩
  simp only [e5] at e
  have gt : Gr (take [42]) := fun s => Nat.le_of_eq (by rw [take_n])
  have n6 := gb (gr_add _) e n
  have n5 := gb (gr_body g) e5 n6
  have n4 := gb (gr_items gr_name _) e4 n5
  have n3 := gb (gr_want _) e3 n4
  cases named
  · by_cases hk : (nxt s2).k = 3
    · rw [if_pos (by simpa using hk)] at e2
      have n2 := gb gr_name e2 n3
      have n1 := gb gt e1 n2
      exact ⟨T, s1, b, s2, t, s3, u, s4, N, s5, K, s6, ⟨e0, n1⟩, ⟨e1, n2⟩, .inr (.inl ⟨rfl, hk, e2, n3⟩), ⟨e3, n4⟩, ⟨e4, n5⟩, ⟨e5, n6⟩, ⟨e, n⟩⟩
    · rw [if_neg (by simpa using hk)] at e2
      obtain ⟨rfl, rfl⟩ := Prod.mk.inj e2
      have n1 := gb gt e1 n3
      exact ⟨T, s1, b, s2, [], s2, u, s4, N, s5, K, s6, ⟨e0, n1⟩, ⟨e1, n3⟩, .inr (.inr ⟨rfl, hk, rfl, rfl⟩), ⟨e3, n4⟩, ⟨e4, n5⟩, ⟨e5, n6⟩, ⟨e, n⟩⟩
  · rw [if_pos (by simp)] at e2
    have n2 := gb gr_name e2 n3
    have n1 := gb gt e1 n2
    exact ⟨T, s1, b, s2, t, s3, u, s4, N, s5, K, s6, ⟨e0, n1⟩, ⟨e1, n2⟩, .inl ⟨rfl, e2, n3⟩, ⟨e3, n4⟩, ⟨e4, n5⟩, ⟨e5, n6⟩, ⟨e, n⟩⟩
open Ps in
theorem definition_ru {L : Lv} (g : GrL L) {s s' : Ps.St} {r : Nat} (h : Ru (definition L) s r s') : ∃ c s1, Ru (func L true) s c s1 ∧ Ru (add { k := 23, a := (nxt s).a, kids := [c] }) s1 r s' := by
  obtain ⟨e, n⟩ := h
  unfold definition at e
  simp only [] at e
  rcases e0 : func L true s with ⟨c, s1⟩
  simp only [e0] at e
  exact ⟨c, s1, ⟨e0, gb (gr_add _) e n⟩, ⟨e, n⟩⟩
/-- An array's own part of 'alone'. -/
def array (L : Ps.Lv) : Ps.M Nat := fun s => Ps.add { k := 9, a := (Ps.skip s).1.a, kids := (Ps.items [93] L.e (Ps.skip s).2).1 } (Ps.items [93] L.e (Ps.skip s).2).2
open Ps in
theorem array_ru {L : Lv} (g : GrL L) {s s' : Ps.St} {r : Nat} (h : Ru (array L) s r s') : ∃ T s1 K s2, Ru skip s T s1 ∧ Ru (items [93] L.e) s1 K s2 ∧ Ru (add { k := 9, a := T.a, kids := K }) s2 r s' := by
  obtain ⟨e, n⟩ := h
  unfold array at e
  rcases e0 : skip s with ⟨T, s1⟩
  simp only [e0] at e
  rcases e1 : items [93] L.e s1 with ⟨K, s2⟩
  simp only [e1] at e
  have n2 := gb (gr_add _) e n
  have n1 := gb (gr_items g.e _) e1 n2
  exact ⟨T, s1, K, s2, ⟨e0, n1⟩, ⟨e1, n2⟩, ⟨e, n⟩⟩
section
variable {F : Nat → Prop} {base B dep : Nat} {L : Ps.Lv} {s s' : Ps.St} {nv : Value} {w : World} {r : Nat}
set_option maxRecDepth 100000 in
set_option maxHeartbeats 2000000 in
theorem c_func {named : Bool} (hL : ∀ F, LvC F base B dep L) (hS : Ps.ShL L) (E : Ru (Ps.func L named) s r s') (h : RS F base B dep s nv w) : Calls Tryz.prog 102 #[.pointer (some ⟨B, 0, none⟩), .bool named] w (Tells F base B dep nv w s' (.int .i64 (r : Int))) := by
  obtain ⟨⟨tk, tt, tn, ta, tl, te⟩, s1, b, s2, t, s3, u, s4, N, s5, K, s6, E1, E2, E3, E4, E5, E6, E7⟩ := func_ru (hL F).gr E
  have hfl := run_field3
  have hfl0 := run_field0
  have HN : Hid (∀ F nv w, RS F base B dep s2 nv w → _) := fun F nv w h => c_next (F := F) (w := w) (nv := nv) h
  clear E
  rcases eT : Ps.nxt s2 with ⟨uk, ut, un, ua, ul, ue⟩
  rw [eT] at HN E3
  simp only [tkA] at HN E3
  clear eT
  cases b
  · rcases E3 with ⟨rfl, E3⟩ | ⟨rfl, rfl, E3⟩ | ⟨rfl, hk, rfl, rfl⟩
    · go_enter Tryz.func102, Tryz.ntmps102
      go_wp2_with fail
      refine Calls.mono (c_skip E1 h) ?_
      rintro e w1 ⟨rfl, nv1, hr1, hc1⟩
      have HC1 : Hid (_) := hc1
      clear hc1
      simp only [tkA] at *
      obtain ⟨hr1b, hcx, hX⟩ := hr1.box (.int .i64 10) (.int .i64 0) (.string ⟨#[]⟩) (.slice none 0 0) (.slice none 0 0) (.int .i64 (ta : Int))
      have HC1b : Hid (_) := HC1.out.trans hcx
      have HX1b : Hid (_) := hX
      have HS : Hid (w.heap.size ≤ w1.heap.size) := HC1.out.size
      clear hcx hX
      go_wp2_with fail
      refine Calls.mono (c_take (m := [42]) E2 hr1b) ?_
      rintro e w2 ⟨rfl, nv2, hr2, hc2⟩
      have HX2 : Hid (_) := HX1b.out.go hr1b hc2
      have HC2 : Hid (_) := HC1b.out.trans hc2
      clear hc2
      go_wp2_with fail
      refine Calls.mono (c_name E3 hr2) ?_
      rintro e w3 ⟨rfl, nv3, hr3, hc3⟩
      have HX3 : Hid (_) := HX2.out.go hr2 hc3
      have HC3 : Hid (_) := HC2.out.trans hc3
      clear hc3
      obtain ⟨⟨p0, p1, p2, p3, p4, p5⟩, ⟨f1, f2, f3, f4⟩, hlt⟩ := HX3.out.facts
      have HX3s : Hid (_) := HX3.out.set2 (.string ⟨t.toArray⟩)
      have hr3s := hr3.foreign HX3.out.far 2 (.string ⟨t.toArray⟩)
      have HC3s : Hid (_) := HC3.out.setX HS.out 2 (.string ⟨t.toArray⟩)
      go_wp2_with fail
      refine Calls.mono (c_want (m := [40]) E4 hr3s) ?_
      rintro e w4 ⟨rfl, nv4, hr4, hc4⟩
      clear p0 p1 p2 p3 p4 p5 f1 f2 f3 f4 hlt
      have HX4 : Hid (_) := HX3s.out.go hr3s hc4
      have HC4 : Hid (_) := HC3s.out.trans hc4
      clear hc4
      go_wp2_with fail
      refine Calls.mono (c_items_n (m := [41]) E5 hr4) ?_
      rintro e w5 ⟨ad5, cap5, rfl, nv5, hr5, hc5, hk5⟩
      have HX5 : Hid (_) := HX4.out.go hr4 hc5
      have HN_5 : Hid (_) := hk5
      clear hk5
      have HC5 : Hid (_) := HC4.out.trans hc5
      clear hc5
      obtain ⟨⟨p0, p1, p2, p3, p4, p5⟩, ⟨f1, f2, f3, f4⟩, hlt⟩ := HX5.out.facts
      have HX5s : Hid (_) := HX5.out.set3 (.slice ad5 N.length cap5)
      have hr5s := hr5.foreign HX5.out.far 3 (.slice ad5 N.length cap5)
      have HC5s : Hid (_) := HC5.out.setX HS.out 3 (.slice ad5 N.length cap5)
      have HN_5s : Hid (_) := HN_5.out.set HX5.out.far 3 (.slice ad5 N.length cap5)
      go_wp2_with fail
      refine Calls.mono (c_body hL hS E6 hr5s) ?_
      rintro e w6 ⟨ad6, cap6, rfl, nv6, hr6, hc6, hk6⟩
      clear p0 p1 p2 p3 p4 p5 f1 f2 f3 f4 hlt
      have HX6 : Hid (_) := HX5s.out.go hr5s hc6
      have HN_6 : Hid (_) := HN_5s.out.go hc6
      have HK_6 : Hid (_) := hk6
      clear hk6
      have HC6 : Hid (_) := HC5s.out.trans hc6
      clear hc6
      obtain ⟨⟨p0, p1, p2, p3, p4, p5⟩, ⟨f1, f2, f3, f4⟩, hlt⟩ := HX6.out.facts
      have HX6s : Hid (_) := HX6.out.set4 (.slice ad6 K.length cap6)
      have hr6s := hr6.foreign HX6.out.far 4 (.slice ad6 K.length cap6)
      have HC6s : Hid (_) := HC6.out.setX HS.out 4 (.slice ad6 K.length cap6)
      have HN_6s : Hid (_) := HN_6.out.set HX6.out.far 4 (.slice ad6 K.length cap6)
      have HK_6s : Hid (_) := HK_6.out.set HX6.out.far 4 (.slice ad6 K.length cap6)
      go_wp2_with fail
      refine Calls.mono (c_addV E7 hr6s HN_6s.out HK_6s.out) ?_
      rintro e w7 ⟨rfl, nv7, hr7, hc7⟩
      clear p0 p1 p2 p3 p4 p5 f1 f2 f3 f4 hlt
      have HX7 : Hid (_) := HX6s.out.go hr6s hc7
      have HN_7 : Hid (_) := HN_6s.out.go hc7
      have HK_7 : Hid (_) := HK_6s.out.go hc7
      have HC7 : Hid (_) := HC6s.out.trans hc7
      clear hc7
      go_wp2_with fail
      go_ret
      exact ⟨rfl, nv7, hr7.less (fun k hk => .inl hk), HC7.out⟩
    · go_enter Tryz.func102, Tryz.ntmps102
      go_wp2_with fail
      refine Calls.mono (c_skip E1 h) ?_
      rintro e w1 ⟨rfl, nv1, hr1, hc1⟩
      have HC1 : Hid (_) := hc1
      clear hc1
      simp only [tkA] at *
      obtain ⟨hr1b, hcx, hX⟩ := hr1.box (.int .i64 10) (.int .i64 0) (.string ⟨#[]⟩) (.slice none 0 0) (.slice none 0 0) (.int .i64 (ta : Int))
      have HC1b : Hid (_) := HC1.out.trans hcx
      have HX1b : Hid (_) := hX
      have HS : Hid (w.heap.size ≤ w1.heap.size) := HC1.out.size
      clear hcx hX
      go_wp2_with fail
      refine Calls.mono (c_take (m := [42]) E2 hr1b) ?_
      rintro e w2 ⟨rfl, nv2, hr2, hc2⟩
      have HX2 : Hid (_) := HX1b.out.go hr1b hc2
      have HC2 : Hid (_) := HC1b.out.trans hc2
      clear hc2
      go_wp2_with fail
      refine Calls.mono (HN.out _ _ _ hr2) ?_
      rintro e w3 ⟨rfl, nv3, hr3, hc3⟩
      have HX3 : Hid (_) := HX2.out.go hr2 hc3
      have HC3 : Hid (_) := HC2.out.trans hc3
      clear hc3
      go_wp2_with fail
      refine Calls.mono (c_name E3 hr3) ?_
      rintro e w4 ⟨rfl, nv4, hr4, hc4⟩
      have HX4 : Hid (_) := HX3.out.go hr3 hc4
      have HC4 : Hid (_) := HC3.out.trans hc4
      clear hc4
      obtain ⟨⟨p0, p1, p2, p3, p4, p5⟩, ⟨f1, f2, f3, f4⟩, hlt⟩ := HX4.out.facts
      have HX4s : Hid (_) := HX4.out.set2 (.string ⟨t.toArray⟩)
      have hr4s := hr4.foreign HX4.out.far 2 (.string ⟨t.toArray⟩)
      have HC4s : Hid (_) := HC4.out.setX HS.out 2 (.string ⟨t.toArray⟩)
      go_wp2_with fail
      refine Calls.mono (c_want (m := [40]) E4 hr4s) ?_
      rintro e w5 ⟨rfl, nv5, hr5, hc5⟩
      clear p0 p1 p2 p3 p4 p5 f1 f2 f3 f4 hlt
      have HX5 : Hid (_) := HX4s.out.go hr4s hc5
      have HC5 : Hid (_) := HC4s.out.trans hc5
      clear hc5
      go_wp2_with fail
      refine Calls.mono (c_items_n (m := [41]) E5 hr5) ?_
      rintro e w6 ⟨ad6, cap6, rfl, nv6, hr6, hc6, hk6⟩
      have HX6 : Hid (_) := HX5.out.go hr5 hc6
      have HN_6 : Hid (_) := hk6
      clear hk6
      have HC6 : Hid (_) := HC5.out.trans hc6
      clear hc6
      obtain ⟨⟨p0, p1, p2, p3, p4, p5⟩, ⟨f1, f2, f3, f4⟩, hlt⟩ := HX6.out.facts
      have HX6s : Hid (_) := HX6.out.set3 (.slice ad6 N.length cap6)
      have hr6s := hr6.foreign HX6.out.far 3 (.slice ad6 N.length cap6)
      have HC6s : Hid (_) := HC6.out.setX HS.out 3 (.slice ad6 N.length cap6)
      have HN_6s : Hid (_) := HN_6.out.set HX6.out.far 3 (.slice ad6 N.length cap6)
      go_wp2_with fail
      refine Calls.mono (c_body hL hS E6 hr6s) ?_
      rintro e w7 ⟨ad7, cap7, rfl, nv7, hr7, hc7, hk7⟩
      clear p0 p1 p2 p3 p4 p5 f1 f2 f3 f4 hlt
      have HX7 : Hid (_) := HX6s.out.go hr6s hc7
      have HN_7 : Hid (_) := HN_6s.out.go hc7
      have HK_7 : Hid (_) := hk7
      clear hk7
      have HC7 : Hid (_) := HC6s.out.trans hc7
      clear hc7
      obtain ⟨⟨p0, p1, p2, p3, p4, p5⟩, ⟨f1, f2, f3, f4⟩, hlt⟩ := HX7.out.facts
      have HX7s : Hid (_) := HX7.out.set4 (.slice ad7 K.length cap7)
      have hr7s := hr7.foreign HX7.out.far 4 (.slice ad7 K.length cap7)
      have HC7s : Hid (_) := HC7.out.setX HS.out 4 (.slice ad7 K.length cap7)
      have HN_7s : Hid (_) := HN_7.out.set HX7.out.far 4 (.slice ad7 K.length cap7)
      have HK_7s : Hid (_) := HK_7.out.set HX7.out.far 4 (.slice ad7 K.length cap7)
      go_wp2_with fail
      refine Calls.mono (c_addV E7 hr7s HN_7s.out HK_7s.out) ?_
      rintro e w8 ⟨rfl, nv8, hr8, hc8⟩
      clear p0 p1 p2 p3 p4 p5 f1 f2 f3 f4 hlt
      have HX8 : Hid (_) := HX7s.out.go hr7s hc8
      have HN_8 : Hid (_) := HN_7s.out.go hc8
      have HK_8 : Hid (_) := HK_7s.out.go hc8
      have HC8 : Hid (_) := HC7s.out.trans hc8
      clear hc8
      go_wp2_with fail
      go_ret
      exact ⟨rfl, nv8, hr8.less (fun k hk => .inl hk), HC8.out⟩
    · have hk' : ((uk : Int) == 3) = false := by rw [beq_eq_false_iff_ne]; omega
      go_enter Tryz.func102, Tryz.ntmps102
      go_wp2_with fail
      refine Calls.mono (c_skip E1 h) ?_
      rintro e w1 ⟨rfl, nv1, hr1, hc1⟩
      have HC1 : Hid (_) := hc1
      clear hc1
      simp only [tkA] at *
      obtain ⟨hr1b, hcx, hX⟩ := hr1.box (.int .i64 10) (.int .i64 0) (.string ⟨#[]⟩) (.slice none 0 0) (.slice none 0 0) (.int .i64 (ta : Int))
      have HC1b : Hid (_) := HC1.out.trans hcx
      have HX1b : Hid (_) := hX
      have HS : Hid (w.heap.size ≤ w1.heap.size) := HC1.out.size
      clear hcx hX
      go_wp2_with fail
      refine Calls.mono (c_take (m := [42]) E2 hr1b) ?_
      rintro e w2 ⟨rfl, nv2, hr2, hc2⟩
      have HX2 : Hid (_) := HX1b.out.go hr1b hc2
      have HC2 : Hid (_) := HC1b.out.trans hc2
      clear hc2
      go_wp2_with fail
      refine Calls.mono (HN.out _ _ _ hr2) ?_
      rintro e w3 ⟨rfl, nv3, hr3, hc3⟩
      have HX3 : Hid (_) := HX2.out.go hr2 hc3
      have HC3 : Hid (_) := HC2.out.trans hc3
      clear hc3
      go_wp2_with fail
      refine Calls.mono (c_want (m := [40]) E4 hr3) ?_
      rintro e w4 ⟨rfl, nv4, hr4, hc4⟩
      have HX4 : Hid (_) := HX3.out.go hr3 hc4
      have HC4 : Hid (_) := HC3.out.trans hc4
      clear hc4
      go_wp2_with fail
      refine Calls.mono (c_items_n (m := [41]) E5 hr4) ?_
      rintro e w5 ⟨ad5, cap5, rfl, nv5, hr5, hc5, hk5⟩
      have HX5 : Hid (_) := HX4.out.go hr4 hc5
      have HN_5 : Hid (_) := hk5
      clear hk5
      have HC5 : Hid (_) := HC4.out.trans hc5
      clear hc5
      obtain ⟨⟨p0, p1, p2, p3, p4, p5⟩, ⟨f1, f2, f3, f4⟩, hlt⟩ := HX5.out.facts
      have HX5s : Hid (_) := HX5.out.set3 (.slice ad5 N.length cap5)
      have hr5s := hr5.foreign HX5.out.far 3 (.slice ad5 N.length cap5)
      have HC5s : Hid (_) := HC5.out.setX HS.out 3 (.slice ad5 N.length cap5)
      have HN_5s : Hid (_) := HN_5.out.set HX5.out.far 3 (.slice ad5 N.length cap5)
      go_wp2_with fail
      refine Calls.mono (c_body hL hS E6 hr5s) ?_
      rintro e w6 ⟨ad6, cap6, rfl, nv6, hr6, hc6, hk6⟩
      clear p0 p1 p2 p3 p4 p5 f1 f2 f3 f4 hlt
      have HX6 : Hid (_) := HX5s.out.go hr5s hc6
      have HN_6 : Hid (_) := HN_5s.out.go hc6
      have HK_6 : Hid (_) := hk6
      clear hk6
      have HC6 : Hid (_) := HC5s.out.trans hc6
      clear hc6
      obtain ⟨⟨p0, p1, p2, p3, p4, p5⟩, ⟨f1, f2, f3, f4⟩, hlt⟩ := HX6.out.facts
      have HX6s : Hid (_) := HX6.out.set4 (.slice ad6 K.length cap6)
      have hr6s := hr6.foreign HX6.out.far 4 (.slice ad6 K.length cap6)
      have HC6s : Hid (_) := HC6.out.setX HS.out 4 (.slice ad6 K.length cap6)
      have HN_6s : Hid (_) := HN_6.out.set HX6.out.far 4 (.slice ad6 K.length cap6)
      have HK_6s : Hid (_) := HK_6.out.set HX6.out.far 4 (.slice ad6 K.length cap6)
      go_wp2_with fail
      refine Calls.mono (c_addV E7 hr6s HN_6s.out HK_6s.out) ?_
      rintro e w7 ⟨rfl, nv7, hr7, hc7⟩
      clear p0 p1 p2 p3 p4 p5 f1 f2 f3 f4 hlt
      have HX7 : Hid (_) := HX6s.out.go hr6s hc7
      have HN_7 : Hid (_) := HN_6s.out.go hc7
      have HK_7 : Hid (_) := HK_6s.out.go hc7
      have HC7 : Hid (_) := HC6s.out.trans hc7
      clear hc7
      go_wp2_with fail
      go_ret
      exact ⟨rfl, nv7, hr7.less (fun k hk => .inl hk), HC7.out⟩
  · rcases E3 with ⟨rfl, E3⟩ | ⟨rfl, rfl, E3⟩ | ⟨rfl, hk, rfl, rfl⟩
    · go_enter Tryz.func102, Tryz.ntmps102
      go_wp2_with fail
      refine Calls.mono (c_skip E1 h) ?_
      rintro e w1 ⟨rfl, nv1, hr1, hc1⟩
      have HC1 : Hid (_) := hc1
      clear hc1
      simp only [tkA] at *
      obtain ⟨hr1b, hcx, hX⟩ := hr1.box (.int .i64 10) (.int .i64 0) (.string ⟨#[]⟩) (.slice none 0 0) (.slice none 0 0) (.int .i64 (ta : Int))
      have HC1b : Hid (_) := HC1.out.trans hcx
      have HX1b : Hid (_) := hX
      have HS : Hid (w.heap.size ≤ w1.heap.size) := HC1.out.size
      clear hcx hX
      go_wp2_with fail
      refine Calls.mono (c_take (m := [42]) E2 hr1b) ?_
      rintro e w2 ⟨rfl, nv2, hr2, hc2⟩
      have HX2 : Hid (_) := HX1b.out.go hr1b hc2
      have HC2 : Hid (_) := HC1b.out.trans hc2
      clear hc2
      obtain ⟨⟨p0, p1, p2, p3, p4, p5⟩, ⟨f1, f2, f3, f4⟩, hlt⟩ := HX2.out.facts
      have HX2s : Hid (_) := HX2.out.set1 (.int .i64 1)
      have hr2s := hr2.foreign HX2.out.far 1 (.int .i64 1)
      have HC2s : Hid (_) := HC2.out.setX HS.out 1 (.int .i64 1)
      go_wp2_with fail
      refine Calls.mono (c_name E3 hr2s) ?_
      rintro e w3 ⟨rfl, nv3, hr3, hc3⟩
      clear p0 p1 p2 p3 p4 p5 f1 f2 f3 f4 hlt
      have HX3 : Hid (_) := HX2s.out.go hr2s hc3
      have HC3 : Hid (_) := HC2s.out.trans hc3
      clear hc3
      obtain ⟨⟨p0, p1, p2, p3, p4, p5⟩, ⟨f1, f2, f3, f4⟩, hlt⟩ := HX3.out.facts
      have HX3s : Hid (_) := HX3.out.set2 (.string ⟨t.toArray⟩)
      have hr3s := hr3.foreign HX3.out.far 2 (.string ⟨t.toArray⟩)
      have HC3s : Hid (_) := HC3.out.setX HS.out 2 (.string ⟨t.toArray⟩)
      go_wp2_with fail
      refine Calls.mono (c_want (m := [40]) E4 hr3s) ?_
      rintro e w4 ⟨rfl, nv4, hr4, hc4⟩
      clear p0 p1 p2 p3 p4 p5 f1 f2 f3 f4 hlt
      have HX4 : Hid (_) := HX3s.out.go hr3s hc4
      have HC4 : Hid (_) := HC3s.out.trans hc4
      clear hc4
      go_wp2_with fail
      refine Calls.mono (c_items_n (m := [41]) E5 hr4) ?_
      rintro e w5 ⟨ad5, cap5, rfl, nv5, hr5, hc5, hk5⟩
      have HX5 : Hid (_) := HX4.out.go hr4 hc5
      have HN_5 : Hid (_) := hk5
      clear hk5
      have HC5 : Hid (_) := HC4.out.trans hc5
      clear hc5
      obtain ⟨⟨p0, p1, p2, p3, p4, p5⟩, ⟨f1, f2, f3, f4⟩, hlt⟩ := HX5.out.facts
      have HX5s : Hid (_) := HX5.out.set3 (.slice ad5 N.length cap5)
      have hr5s := hr5.foreign HX5.out.far 3 (.slice ad5 N.length cap5)
      have HC5s : Hid (_) := HC5.out.setX HS.out 3 (.slice ad5 N.length cap5)
      have HN_5s : Hid (_) := HN_5.out.set HX5.out.far 3 (.slice ad5 N.length cap5)
      go_wp2_with fail
      refine Calls.mono (c_body hL hS E6 hr5s) ?_
      rintro e w6 ⟨ad6, cap6, rfl, nv6, hr6, hc6, hk6⟩
      clear p0 p1 p2 p3 p4 p5 f1 f2 f3 f4 hlt
      have HX6 : Hid (_) := HX5s.out.go hr5s hc6
      have HN_6 : Hid (_) := HN_5s.out.go hc6
      have HK_6 : Hid (_) := hk6
      clear hk6
      have HC6 : Hid (_) := HC5s.out.trans hc6
      clear hc6
      obtain ⟨⟨p0, p1, p2, p3, p4, p5⟩, ⟨f1, f2, f3, f4⟩, hlt⟩ := HX6.out.facts
      have HX6s : Hid (_) := HX6.out.set4 (.slice ad6 K.length cap6)
      have hr6s := hr6.foreign HX6.out.far 4 (.slice ad6 K.length cap6)
      have HC6s : Hid (_) := HC6.out.setX HS.out 4 (.slice ad6 K.length cap6)
      have HN_6s : Hid (_) := HN_6.out.set HX6.out.far 4 (.slice ad6 K.length cap6)
      have HK_6s : Hid (_) := HK_6.out.set HX6.out.far 4 (.slice ad6 K.length cap6)
      go_wp2_with fail
      refine Calls.mono (c_addV E7 hr6s HN_6s.out HK_6s.out) ?_
      rintro e w7 ⟨rfl, nv7, hr7, hc7⟩
      clear p0 p1 p2 p3 p4 p5 f1 f2 f3 f4 hlt
      have HX7 : Hid (_) := HX6s.out.go hr6s hc7
      have HN_7 : Hid (_) := HN_6s.out.go hc7
      have HK_7 : Hid (_) := HK_6s.out.go hc7
      have HC7 : Hid (_) := HC6s.out.trans hc7
      clear hc7
      go_wp2_with fail
      go_ret
      exact ⟨rfl, nv7, hr7.less (fun k hk => .inl hk), HC7.out⟩
    · go_enter Tryz.func102, Tryz.ntmps102
      go_wp2_with fail
      refine Calls.mono (c_skip E1 h) ?_
      rintro e w1 ⟨rfl, nv1, hr1, hc1⟩
      have HC1 : Hid (_) := hc1
      clear hc1
      simp only [tkA] at *
      obtain ⟨hr1b, hcx, hX⟩ := hr1.box (.int .i64 10) (.int .i64 0) (.string ⟨#[]⟩) (.slice none 0 0) (.slice none 0 0) (.int .i64 (ta : Int))
      have HC1b : Hid (_) := HC1.out.trans hcx
      have HX1b : Hid (_) := hX
      have HS : Hid (w.heap.size ≤ w1.heap.size) := HC1.out.size
      clear hcx hX
      go_wp2_with fail
      refine Calls.mono (c_take (m := [42]) E2 hr1b) ?_
      rintro e w2 ⟨rfl, nv2, hr2, hc2⟩
      have HX2 : Hid (_) := HX1b.out.go hr1b hc2
      have HC2 : Hid (_) := HC1b.out.trans hc2
      clear hc2
      obtain ⟨⟨p0, p1, p2, p3, p4, p5⟩, ⟨f1, f2, f3, f4⟩, hlt⟩ := HX2.out.facts
      have HX2s : Hid (_) := HX2.out.set1 (.int .i64 1)
      have hr2s := hr2.foreign HX2.out.far 1 (.int .i64 1)
      have HC2s : Hid (_) := HC2.out.setX HS.out 1 (.int .i64 1)
      go_wp2_with fail
      refine Calls.mono (HN.out _ _ _ hr2s) ?_
      rintro e w3 ⟨rfl, nv3, hr3, hc3⟩
      clear p0 p1 p2 p3 p4 p5 f1 f2 f3 f4 hlt
      have HX3 : Hid (_) := HX2s.out.go hr2s hc3
      have HC3 : Hid (_) := HC2s.out.trans hc3
      clear hc3
      go_wp2_with fail
      refine Calls.mono (c_name E3 hr3) ?_
      rintro e w4 ⟨rfl, nv4, hr4, hc4⟩
      have HX4 : Hid (_) := HX3.out.go hr3 hc4
      have HC4 : Hid (_) := HC3.out.trans hc4
      clear hc4
      obtain ⟨⟨p0, p1, p2, p3, p4, p5⟩, ⟨f1, f2, f3, f4⟩, hlt⟩ := HX4.out.facts
      have HX4s : Hid (_) := HX4.out.set2 (.string ⟨t.toArray⟩)
      have hr4s := hr4.foreign HX4.out.far 2 (.string ⟨t.toArray⟩)
      have HC4s : Hid (_) := HC4.out.setX HS.out 2 (.string ⟨t.toArray⟩)
      go_wp2_with fail
      refine Calls.mono (c_want (m := [40]) E4 hr4s) ?_
      rintro e w5 ⟨rfl, nv5, hr5, hc5⟩
      clear p0 p1 p2 p3 p4 p5 f1 f2 f3 f4 hlt
      have HX5 : Hid (_) := HX4s.out.go hr4s hc5
      have HC5 : Hid (_) := HC4s.out.trans hc5
      clear hc5
      go_wp2_with fail
      refine Calls.mono (c_items_n (m := [41]) E5 hr5) ?_
      rintro e w6 ⟨ad6, cap6, rfl, nv6, hr6, hc6, hk6⟩
      have HX6 : Hid (_) := HX5.out.go hr5 hc6
      have HN_6 : Hid (_) := hk6
      clear hk6
      have HC6 : Hid (_) := HC5.out.trans hc6
      clear hc6
      obtain ⟨⟨p0, p1, p2, p3, p4, p5⟩, ⟨f1, f2, f3, f4⟩, hlt⟩ := HX6.out.facts
      have HX6s : Hid (_) := HX6.out.set3 (.slice ad6 N.length cap6)
      have hr6s := hr6.foreign HX6.out.far 3 (.slice ad6 N.length cap6)
      have HC6s : Hid (_) := HC6.out.setX HS.out 3 (.slice ad6 N.length cap6)
      have HN_6s : Hid (_) := HN_6.out.set HX6.out.far 3 (.slice ad6 N.length cap6)
      go_wp2_with fail
      refine Calls.mono (c_body hL hS E6 hr6s) ?_
      rintro e w7 ⟨ad7, cap7, rfl, nv7, hr7, hc7, hk7⟩
      clear p0 p1 p2 p3 p4 p5 f1 f2 f3 f4 hlt
      have HX7 : Hid (_) := HX6s.out.go hr6s hc7
      have HN_7 : Hid (_) := HN_6s.out.go hc7
      have HK_7 : Hid (_) := hk7
      clear hk7
      have HC7 : Hid (_) := HC6s.out.trans hc7
      clear hc7
      obtain ⟨⟨p0, p1, p2, p3, p4, p5⟩, ⟨f1, f2, f3, f4⟩, hlt⟩ := HX7.out.facts
      have HX7s : Hid (_) := HX7.out.set4 (.slice ad7 K.length cap7)
      have hr7s := hr7.foreign HX7.out.far 4 (.slice ad7 K.length cap7)
      have HC7s : Hid (_) := HC7.out.setX HS.out 4 (.slice ad7 K.length cap7)
      have HN_7s : Hid (_) := HN_7.out.set HX7.out.far 4 (.slice ad7 K.length cap7)
      have HK_7s : Hid (_) := HK_7.out.set HX7.out.far 4 (.slice ad7 K.length cap7)
      go_wp2_with fail
      refine Calls.mono (c_addV E7 hr7s HN_7s.out HK_7s.out) ?_
      rintro e w8 ⟨rfl, nv8, hr8, hc8⟩
      clear p0 p1 p2 p3 p4 p5 f1 f2 f3 f4 hlt
      have HX8 : Hid (_) := HX7s.out.go hr7s hc8
      have HN_8 : Hid (_) := HN_7s.out.go hc8
      have HK_8 : Hid (_) := HK_7s.out.go hc8
      have HC8 : Hid (_) := HC7s.out.trans hc8
      clear hc8
      go_wp2_with fail
      go_ret
      exact ⟨rfl, nv8, hr8.less (fun k hk => .inl hk), HC8.out⟩
    · have hk' : ((uk : Int) == 3) = false := by rw [beq_eq_false_iff_ne]; omega
      go_enter Tryz.func102, Tryz.ntmps102
      go_wp2_with fail
      refine Calls.mono (c_skip E1 h) ?_
      rintro e w1 ⟨rfl, nv1, hr1, hc1⟩
      have HC1 : Hid (_) := hc1
      clear hc1
      simp only [tkA] at *
      obtain ⟨hr1b, hcx, hX⟩ := hr1.box (.int .i64 10) (.int .i64 0) (.string ⟨#[]⟩) (.slice none 0 0) (.slice none 0 0) (.int .i64 (ta : Int))
      have HC1b : Hid (_) := HC1.out.trans hcx
      have HX1b : Hid (_) := hX
      have HS : Hid (w.heap.size ≤ w1.heap.size) := HC1.out.size
      clear hcx hX
      go_wp2_with fail
      refine Calls.mono (c_take (m := [42]) E2 hr1b) ?_
      rintro e w2 ⟨rfl, nv2, hr2, hc2⟩
      have HX2 : Hid (_) := HX1b.out.go hr1b hc2
      have HC2 : Hid (_) := HC1b.out.trans hc2
      clear hc2
      obtain ⟨⟨p0, p1, p2, p3, p4, p5⟩, ⟨f1, f2, f3, f4⟩, hlt⟩ := HX2.out.facts
      have HX2s : Hid (_) := HX2.out.set1 (.int .i64 1)
      have hr2s := hr2.foreign HX2.out.far 1 (.int .i64 1)
      have HC2s : Hid (_) := HC2.out.setX HS.out 1 (.int .i64 1)
      go_wp2_with fail
      refine Calls.mono (HN.out _ _ _ hr2s) ?_
      rintro e w3 ⟨rfl, nv3, hr3, hc3⟩
      clear p0 p1 p2 p3 p4 p5 f1 f2 f3 f4 hlt
      have HX3 : Hid (_) := HX2s.out.go hr2s hc3
      have HC3 : Hid (_) := HC2s.out.trans hc3
      clear hc3
      go_wp2_with fail
      refine Calls.mono (c_want (m := [40]) E4 hr3) ?_
      rintro e w4 ⟨rfl, nv4, hr4, hc4⟩
      have HX4 : Hid (_) := HX3.out.go hr3 hc4
      have HC4 : Hid (_) := HC3.out.trans hc4
      clear hc4
      go_wp2_with fail
      refine Calls.mono (c_items_n (m := [41]) E5 hr4) ?_
      rintro e w5 ⟨ad5, cap5, rfl, nv5, hr5, hc5, hk5⟩
      have HX5 : Hid (_) := HX4.out.go hr4 hc5
      have HN_5 : Hid (_) := hk5
      clear hk5
      have HC5 : Hid (_) := HC4.out.trans hc5
      clear hc5
      obtain ⟨⟨p0, p1, p2, p3, p4, p5⟩, ⟨f1, f2, f3, f4⟩, hlt⟩ := HX5.out.facts
      have HX5s : Hid (_) := HX5.out.set3 (.slice ad5 N.length cap5)
      have hr5s := hr5.foreign HX5.out.far 3 (.slice ad5 N.length cap5)
      have HC5s : Hid (_) := HC5.out.setX HS.out 3 (.slice ad5 N.length cap5)
      have HN_5s : Hid (_) := HN_5.out.set HX5.out.far 3 (.slice ad5 N.length cap5)
      go_wp2_with fail
      refine Calls.mono (c_body hL hS E6 hr5s) ?_
      rintro e w6 ⟨ad6, cap6, rfl, nv6, hr6, hc6, hk6⟩
      clear p0 p1 p2 p3 p4 p5 f1 f2 f3 f4 hlt
      have HX6 : Hid (_) := HX5s.out.go hr5s hc6
      have HN_6 : Hid (_) := HN_5s.out.go hc6
      have HK_6 : Hid (_) := hk6
      clear hk6
      have HC6 : Hid (_) := HC5s.out.trans hc6
      clear hc6
      obtain ⟨⟨p0, p1, p2, p3, p4, p5⟩, ⟨f1, f2, f3, f4⟩, hlt⟩ := HX6.out.facts
      have HX6s : Hid (_) := HX6.out.set4 (.slice ad6 K.length cap6)
      have hr6s := hr6.foreign HX6.out.far 4 (.slice ad6 K.length cap6)
      have HC6s : Hid (_) := HC6.out.setX HS.out 4 (.slice ad6 K.length cap6)
      have HN_6s : Hid (_) := HN_6.out.set HX6.out.far 4 (.slice ad6 K.length cap6)
      have HK_6s : Hid (_) := HK_6.out.set HX6.out.far 4 (.slice ad6 K.length cap6)
      go_wp2_with fail
      refine Calls.mono (c_addV E7 hr6s HN_6s.out HK_6s.out) ?_
      rintro e w7 ⟨rfl, nv7, hr7, hc7⟩
      clear p0 p1 p2 p3 p4 p5 f1 f2 f3 f4 hlt
      have HX7 : Hid (_) := HX6s.out.go hr6s hc7
      have HN_7 : Hid (_) := HN_6s.out.go hc7
      have HK_7 : Hid (_) := HK_6s.out.go hc7
      have HC7 : Hid (_) := HC6s.out.trans hc7
      clear hc7
      go_wp2_with fail
      go_ret
      exact ⟨rfl, nv7, hr7.less (fun k hk => .inl hk), HC7.out⟩
set_option maxRecDepth 100000 in
set_option maxHeartbeats 2000000 in
theorem c_definition (hL : ∀ F, LvC F base B dep L) (hS : Ps.ShL L) (E : Ru (Ps.definition L) s r s') (h : RS F base B dep s nv w) : Calls Tryz.prog 86 #[.pointer (some ⟨B, 0, none⟩)] w (Tells F base B dep nv w s' (.int .i64 (r : Int))) := by
  obtain ⟨c, s1, E1, E2⟩ := definition_ru (hL F).gr E
  have HN : Hid (_) := c_next h
  have hfl := run_field3
  clear E
  rcases eT : Ps.nxt s with ⟨tk, tt, tn, ta, tl, te⟩
  rw [eT] at HN E2
  simp only [tkA] at HN E2
  clear eT
  go_enter Tryz.func86, Tryz.ntmps86
  go_wp2_with fail
  refine Calls.mono (HN.out) ?_
  rintro e w1 ⟨rfl, nv1, hr1, hc1⟩
  have HC1 : Hid (_) := hc1
  clear hc1
  go_wp2_with fail
  refine Calls.mono (c_func (named := true) hL hS E1 hr1) ?_
  rintro e w2 ⟨rfl, nv2, hr2, hc2⟩
  have HC2 : Hid (_) := HC1.out.trans hc2
  clear hc2
  have HK_2l : Hid (_) := KV.lit hr2 [c] #[.int .i64 (c : Int)] 1 rfl (fun j hj => by
    have : j = 0 := by simpa using hj
    subst this; rfl)
  have hb : Below w2.heap.size w2 (w2.alloc (.cells #[.int .i64 (c : Int)] 3)) := (Below.refl _ _).alloc (Nat.le_refl _) _
  have hr2l := hr2.below hb
  have HC2l : Hid (_) := HC2.out.trans (Chg.below nv2 hb)
  clear hb
  go_wp2_with fail
  refine Calls.mono (c_addV E2 hr2l (NV.nil _ _ _ _) HK_2l.out) ?_
  rintro e w3 ⟨rfl, nv3, hr3, hc3⟩
  have HK_3 : Hid (_) := HK_2l.out.go hc3
  have HC3 : Hid (_) := HC2l.out.trans hc3
  clear hc3
  go_wp2_with fail
  go_ret
  exact ⟨rfl, nv3, hr3, HC3.out⟩
set_option maxRecDepth 100000 in
set_option maxHeartbeats 2000000 in
theorem c_array (hL : ∀ F, LvC F base B dep L) (hS : Ps.ShL L) (E : Ru (array L) s r s') (h : RS F base B dep s nv w) : Calls Tryz.prog 132 #[.pointer (some ⟨B, 0, none⟩)] w (Tells F base B dep nv w s' (.int .i64 (r : Int))) := by
  obtain ⟨⟨tk, tt, tn, ta, tl, te⟩, s1, K, s2, E1, E2, E3⟩ := array_ru (hL F).gr E
  have hfl := run_field3
  clear E
  go_enter Tryz.func132, Tryz.ntmps132
  go_wp2_with fail
  refine Calls.mono (c_skip E1 h) ?_
  rintro e w1 ⟨rfl, nv1, hr1, hc1⟩
  have HC1 : Hid (_) := hc1
  clear hc1
  simp only [tkA] at *
  go_wp2_with fail
  refine Calls.mono (c_items_e (m := [93]) hL hS E2 hr1) ?_
  rintro e w2 ⟨ad2, cap2, rfl, nv2, hr2, hc2, hk2⟩
  have HK_2 : Hid (_) := hk2
  clear hk2
  have HC2 : Hid (_) := HC1.out.trans hc2
  clear hc2
  go_wp2_with fail
  refine Calls.mono (c_addV E3 hr2 (NV.nil _ _ _ _) HK_2.out) ?_
  rintro e w3 ⟨rfl, nv3, hr3, hc3⟩
  have HK_3 : Hid (_) := HK_2.out.go hc3
  have HC3 : Hid (_) := HC2.out.trans hc3
  clear hc3
  go_wp2_with fail
  go_ret
  exact ⟨rfl, nv3, hr3, HC3.out⟩
end
end Go.Proofs.YtpjmapoiinjakaaGreatDoor.R
end
section
namespace Go.Proofs.YtpjmapoiinjakaaGreatDoor.R
open Go.RowKit
open L (tkA)
set_option linter.unusedVariables false
/-- Texts lie from an address on. -/
def TxIn (W : World) (g off : Nat) (T : List (List UInt8)) : Prop := g < W.heap.size ∧ ∀ j (h : j < T.length), W.cell? ⟨g, off + j, none⟩ = some (.string ⟨T[j].toArray⟩)
theorem TxIn.below {W W' : World} {g off : Nat} {T : List (List UInt8)} (h : TxIn W g off T) (hb : Below W.heap.size W W') : TxIn W' g off T := ⟨Nat.lt_of_lt_of_le h.1 hb.size, fun j hj => (hb.cell h.1).trans (h.2 j hj)⟩
set_option maxRecDepth 100000 in
set_option maxHeartbeats 2000000 in
theorem index_any {w : World} {g off cap : Nat} {T : List (List UInt8)} (m : List UInt8) (h : TxIn w g off T) (hl : T.length ≤ 100) (hc : T.length ≤ cap) :
    Calls Tryz.prog 154 #[.slice (some ⟨g, off, none⟩) T.length cap, .string ⟨m.toArray⟩] w fun e w' => ∃ i : Int, e = .returned (.int .i64 i) ∧ (decide (i ≥ 0) = decide (m ∈ T)) ∧ w' = w := by
  have H : Hid (_) := h
  clear h
  go_enter Tryz.func154, Tryz.ntmps154
  go_wp2_with fail
  go_loop [8] (fun i => ∃ k : Nat, k ≤ T.length ∧ i = .int .i64 (k : Int) ∧ Hid (∀ j (h : j < T.length), j < k → m ≠ T[j])) (fun i => T.length - (intOf i).toNat)
  case atStart => exact ⟨0, by omega, rfl, fun j h h' => absurd h' (by omega)⟩
  case round =>
    obtain ⟨k, hk, rfl, HA⟩ := hrel
    by_cases hlt : k < T.length
    · have hlt' : (k : Int) < T.length := by omega
      have hcell := H.out.2 k hlt
      by_cases he : m = T[k]
      · have hm : m ∈ T := by rw [he]; exact List.getElem_mem _
        have HM : Hid (m ∈ T) := hm
        rw [← he] at hcell
        clear HA he hm H
        go_wp2_with fail
        go_ret
        exact ⟨_, rfl, ⟨fun _ => HM.out, fun _ => by omega⟩, rfl⟩
      · have HA' : Hid (∀ j (h : j < T.length), j < k + 1 → m ≠ T[j]) := fun j h h' => by
          by_cases e : j = k
          · subst e; exact he
          · exact HA.out j h (by omega)
        have hne : (m == T[k]) = false := by simpa using he
        clear HA he H
        generalize T[k] = tk at *
        go_wp2_with fail
        go_round
        case rel => exact ⟨k + 1, by omega, by go_num, HA'⟩
        case measure => simp [intOf]; omega
    · have hlt' : ¬ (k : Int) < T.length := by omega
      have HM : Hid (¬ m ∈ T) := fun hm => by
        obtain ⟨j, hj, e⟩ := List.getElem_of_mem hm
        exact HA.out j hj (by omega) e.symm
      clear HA H
      go_wp2_with fail
      go_ret
      exact ⟨_, rfl, ⟨fun h => absurd h (by decide), fun h => absurd h HM.out⟩, rfl⟩
set_option maxRecDepth 100000 in
set_option maxHeartbeats 2000000 in
theorem contains_any {w : World} {g off cap : Nat} {T : List (List UInt8)} (m : List UInt8) (h : TxIn w g off T) (hl : T.length ≤ 100) (hc : T.length ≤ cap) :
    Calls Tryz.prog 153 #[.slice (some ⟨g, off, none⟩) T.length cap, .string ⟨m.toArray⟩] w fun e w' => e = .returned (.bool (decide (m ∈ T))) ∧ w' = w := by
  have HI : Hid (_) := index_any m h hl hc
  clear h
  go_enter Tryz.func153, Tryz.ntmps153
  go_wp2_with fail
  refine Calls.mono HI.out ?_
  rintro e w1 ⟨i, rfl, hi, rfl⟩
  go_wp2_with fail
  go_ret
  exact ⟨rfl, rfl⟩
set_option maxRecDepth 100000 in
set_option maxHeartbeats 2000000 in
theorem binary_any {w : World} {g off cap : Nat} {T : List (List UInt8)} (m : List UInt8) (h : TxIn w g off T) (hl : T.length ≤ 100) (hc : T.length ≤ cap) :
    Calls Tryz.prog 152 #[.slice (some ⟨g, off, none⟩) T.length cap, .string ⟨m.toArray⟩] w fun e w' => e = .returned (.tuple #[.agg #[.int .i64 15, .int .i64 0, .string ⟨m.toArray⟩, .slice none 0 0, .slice none 0 0, .int .i64 0], .bool (decide (m ∈ T))]) ∧ Below w.heap.size w w' := by
  have HI : Hid (∀ W, Below w.heap.size w W → _) := fun W hW => contains_any (w := W) m (h.below hW) hl hc
  clear h
  go_enter Tryz.func152, Tryz.ntmps152
  go_wp2_with fail
  refine Calls.mono (HI.out _ ((Below.refl _ _).alloc (Nat.le_refl _) _)) ?_
  rintro e w1 ⟨rfl, rfl⟩
  go_wp2_with fail
  refine bodyPost_ret (v := .tuple #[.agg #[.int .i64 15, .int .i64 0, .string ⟨m.toArray⟩, .slice none 0 0, .slice none 0 0, .int .i64 0], .bool (decide (m ∈ T))]) (by simp [results, Tryz.results152, go_sem, *]) rfl ⟨rfl, ?_⟩
  repeat (first | with_reducible exact Below.refl _ _ | (with_reducible refine Below.setCell ?_ (by first | exact Nat.le_refl _ | omega | simp) _) | (with_reducible refine Below.alloc ?_ (by first | exact Nat.le_refl _ | omega | simp | (simp; omega)) _))
set_option maxRecDepth 100000 in
set_option maxHeartbeats 2000000 in
theorem logic_any {w : World} (sign : List UInt8) (k : Nat) (m : List UInt8) :
    Calls Tryz.prog 151 #[.agg #[.string ⟨sign.toArray⟩, .int .i64 (k : Int)], .string ⟨m.toArray⟩] w fun e w' => e = .returned (.tuple #[.agg #[.int .i64 (k : Int), .int .i64 0, .string ⟨#[]⟩, .slice none 0 0, .slice none 0 0, .int .i64 0], .bool (decide (m = sign))]) ∧ Below w.heap.size w w' := by
  have hq : (m == sign) = decide (m = sign) := by by_cases h : m = sign <;> simp [h]
  go_enter Tryz.func151, Tryz.ntmps151
  go_wp2_with fail
  go_region
  all_goals
    go_wp2_with fail
    refine bodyPost_ret (v := .tuple #[.agg #[.int .i64 (k : Int), .int .i64 0, .string ⟨#[]⟩, .slice none 0 0, .slice none 0 0, .int .i64 0], .bool (decide (m = sign))]) (by simp [results, Tryz.results151, go_sem, *]) rfl ⟨rfl, ?_⟩
    repeat (first | with_reducible exact Below.refl _ _ | (with_reducible refine Below.drew ?_) | (with_reducible refine Below.setCell ?_ (by first | exact Nat.le_refl _ | omega | simp) _) | (with_reducible refine Below.alloc ?_ (by first | exact Nat.le_refl _ | omega | simp | (simp; omega)) _))
end Go.Proofs.YtpjmapoiinjakaaGreatDoor.R
end
section
namespace Go.Proofs.YtpjmapoiinjakaaGreatDoor.R
open Go.RowKit
open L (tkA)
set_option linter.unusedVariables false
open Ps in
theorem chainLoop_ru {lv : List UInt8 → Option Nd} {sub : M Nat} {f left : Nat} {s s' : Ps.St} {r : Nat} (g : Gr sub) (h : Ru (chainLoop lv sub (f + 1) left) s r s') :
    (lv (Ps.mark s) = none ∧ r = left ∧ s' = s) ∨ ∃ n T s1 x s2 o s3, lv (Ps.mark s) = some n ∧ Ru skip s T s1 ∧ Ru sub s1 x s2 ∧ Ru (over n [left, x]) s2 o s3 ∧ Ru (chainLoop lv sub f o) s3 r s' := by
  obtain ⟨e, n⟩ := h
  unfold chainLoop at e
  cases hl : lv (Ps.mark s) with
  | none =>
    rw [hl] at e
    simp only at e
    obtain ⟨rfl, rfl⟩ := Prod.mk.inj e
    exact .inl ⟨rfl, rfl, rfl⟩
  | some nd =>
    rw [hl] at e
    simp only at e
    rcases e0 : skip s with ⟨T, s1⟩
    simp only [e0] at e
    rcases e1 : sub s1 with ⟨x, s2⟩
    simp only [e1] at e
    rcases e2 : over nd [left, x] s2 with ⟨o, s3⟩
    simp only [e2] at e
    have n3 := gb (gr_chainLoop g _ _) e n
    have n2 := gb (gr_over _ _) e2 n3
    have n1 := gb g e1 n2
    exact .inr ⟨nd, T, s1, x, s2, o, s3, rfl, ⟨e0, n1⟩, ⟨e1, n2⟩, ⟨e2, n3⟩, ⟨e, n⟩⟩
open Ps in
theorem chain_ru {lv : List UInt8 → Option Nd} {part : M Nat} {row : List (List UInt8 → Option Nd)} {s s' : Ps.St} {r : Nat} (g : Gr part) (h : Ru (chain part (lv :: row)) s r s') :
    ∃ x s1, Ru (chain part row) s x s1 ∧ Ru (chainLoop lv (chain part row) s1.toks.length x) s1 r s' := by
  obtain ⟨e, n⟩ := h
  simp only [chain] at e
  rcases e0 : chain part row s with ⟨x, s1⟩
  simp only [e0] at e
  exact ⟨x, s1, ⟨e0, gb (gr_chainLoop (gr_chain g _) _ _) e n⟩, ⟨e, n⟩⟩
theorem RS.keepF {F : Nat → Prop} {base B dep : Nat} {s : Ps.St} {nv nv' : Value} {W W' : World} (h : RS F base B dep s nv W) (c : Chg B nv nv' W W') {g : Nat} (hg : F g) : W'.heap[g]? = W.heap[g]? := c.block g (h.far g hg).1 (h.far g hg).2.1 (h.far g hg).2.2
/-- A node's box. -/
def BoxAt (X : Nat) (V : Array Value) (W : World) : Prop := W.heap[X]? = some (.cells V 43 (0, 0))
theorem BoxAt.new (w : World) (V : Array Value) : BoxAt w.heap.size V (w.alloc (.cells V 43)) := Array.getElem?_push_size
theorem BoxAt.old {W : World} {X : Nat} {V : Array Value} (h : BoxAt X V W) (hV : V.size = 6) (y0 y1 y2 y3 y4 y5 : Value) :
    BoxAt X #[y0, y1, y2, y3, y4, y5] ((((((W.setCell ⟨X, 0, none⟩ y0).setCell ⟨X, 1, none⟩ y1).setCell ⟨X, 2, none⟩ y2).setCell ⟨X, 3, none⟩ y3).setCell ⟨X, 4, none⟩ y4).setCell ⟨X, 5, none⟩ y5) := by
  obtain ⟨l⟩ := V
  match l, hV with
  | [x0, x1, x2, x3, x4, x5], _ =>
    unfold BoxAt at *
    simp [World.setCell, Array.getElem?_modify, h]
theorem BoxAt.below {W W' : World} {X : Nat} {V : Array Value} (h : BoxAt X V W) (hb : Below W.heap.size W W') : BoxAt X V W' :=
  (hb.block X (Nat.lt_of_not_le fun hg => by rw [BoxAt, Array.getElem?_eq_none hg] at h; cases h)).trans h
theorem BoxAt.drew {W : World} {X : Nat} {V : Array Value} (h : BoxAt X V W) : BoxAt X V W.drew := h
theorem below_set6 {n : Nat} {w W : World} (h : Below n w W) {X : Nat} (hX : n ≤ X) (y0 y1 y2 y3 y4 y5 : Value) :
    Below n w ((((((W.setCell ⟨X, 0, none⟩ y0).setCell ⟨X, 1, none⟩ y1).setCell ⟨X, 2, none⟩ y2).setCell ⟨X, 3, none⟩ y3).setCell ⟨X, 4, none⟩ y4).setCell ⟨X, 5, none⟩ y5) :=
  (((((h.setCell hX _).setCell hX _).setCell hX _).setCell hX _).setCell hX _).setCell hX _
theorem lt_alloc {w : World} {o : Obj} {n : Nat} (h : (w.alloc o).heap.size ≤ n) : w.heap.size < n := by rw [alloc_size'] at h; omega
/-- The reader somewhere behind w0. -/
def Som (F : Nat → Prop) (base B dep : Nat) (s : Ps.St) (nv0 : Value) (w0 W : World) : Prop := ∃ nv, RS F base B dep s nv W ∧ Chg B nv0 nv w0 W
theorem Som.below {F : Nat → Prop} {base B dep : Nat} {s : Ps.St} {nv0 : Value} {w0 W W' : World} (h : Som F base B dep s nv0 w0 W) (hb : Below W.heap.size W W') : Som F base B dep s nv0 w0 W' := by
  obtain ⟨nv, h1, h2⟩ := h
  exact ⟨nv, h1.below hb, h2.trans (Chg.below nv hb)⟩
theorem Som.drew {F : Nat → Prop} {base B dep : Nat} {s : Ps.St} {nv0 : Value} {w0 W : World} (h : Som F base B dep s nv0 w0 W) : Som F base B dep s nv0 w0 W.drew := h.below (Below.refl _ _).drew
/-- The reader with one box more beside it. -/
theorem Som.beside {F : Nat → Prop} {base B dep : Nat} {s : Ps.St} {nv0 : Value} {w0 W W' : World} (h : Som F base B dep s nv0 w0 W) (hb : Below W.heap.size W W') {X : Nat} (hX : W.heap.size ≤ X) (hlt : X < W'.heap.size) : Som (fun k => F k ∨ k = X) base B dep s nv0 w0 W' := by
  obtain ⟨nv, h1, h2⟩ := h
  refine ⟨nv, h1.grow hb.size (fun k hk _ => hb.block k hk) (fun k hk => ?_), h2.trans (Chg.below nv hb)⟩
  rcases hk with hk | rfl
  · exact ⟨.inl hk, Nat.lt_of_lt_of_le (h1.far k hk).1 hb.size⟩
  · exact ⟨.inr hX, hlt⟩
theorem Som.less {F F' : Nat → Prop} {base B dep : Nat} {s : Ps.St} {nv0 : Value} {w0 W : World} (h : Som F base B dep s nv0 w0 W) (hF : ∀ k, F' k → F k) : Som F' base B dep s nv0 w0 W := by
  obtain ⟨nv, h1, h2⟩ := h
  exact ⟨nv, h1.less hF, h2⟩
/-- A box has been made behind wr, and nothing old has turned. -/
def CutR (wr wx : World) (X : Nat) (V : Array Value) : Prop := wr.heap.size ≤ X ∧ X < wx.heap.size ∧ BoxAt X V wx ∧ Below wr.heap.size wr wx
theorem CutR.new {wr W : World} (hb : Below wr.heap.size wr W) (V : Array Value) : CutR wr (W.alloc (.cells V 43)) W.heap.size V := ⟨hb.size, by rw [alloc_size']; omega, BoxAt.new _ _, hb.alloc hb.size _⟩
theorem CutR.old {wr W : World} (hb : Below wr.heap.size wr W) {X : Nat} (hX : wr.heap.size ≤ X) {V : Array Value} (h : BoxAt X V W) (hV : V.size = 6) (y0 y1 y2 y3 y4 y5 : Value) : CutR wr ((((((W.setCell ⟨X, 0, none⟩ y0).setCell ⟨X, 1, none⟩ y1).setCell ⟨X, 2, none⟩ y2).setCell ⟨X, 3, none⟩ y3).setCell ⟨X, 4, none⟩ y4).setCell ⟨X, 5, none⟩ y5) X #[y0, y1, y2, y3, y4, y5] :=
  ⟨hX, by
    have : X < W.heap.size := Nat.lt_of_not_le fun hg => by rw [BoxAt, Array.getElem?_eq_none hg] at h; cases h
    simpa [World.setCell] using this, h.old hV y0 y1 y2 y3 y4 y5, below_set6 hb hX y0 y1 y2 y3 y4 y5⟩
open Ps in
theorem skip_fewer {s : Ps.St} (g : Ps.Good s) (h : Ps.mark s ≠ []) {T : Lx.Tk} {s' : Ps.St} (e : skip s = (T, s')) : s'.toks.length + 1 ≤ s.toks.length := by
  have h1 := more_of g (mark_kind h)
  unfold skip at e
  rw [if_pos h1] at e
  obtain ⟨_, rfl⟩ := Prod.mk.inj e
  simp; omega
def FarX (F : Nat → Prop) (X : Nat) (W : World) : Prop := F X ∧ X < W.heap.size
/-- Six cells of a box that is another one's. -/
def Six (F : Nat → Prop) (X : Nat) (y0 y1 y2 y3 y4 y5 : Value) (W : World) : Prop := W.cell? ⟨X, 0, none⟩ = some y0 ∧ W.cell? ⟨X, 1, none⟩ = some y1 ∧ W.cell? ⟨X, 2, none⟩ = some y2 ∧ W.cell? ⟨X, 3, none⟩ = some y3 ∧ W.cell? ⟨X, 4, none⟩ = some y4 ∧ W.cell? ⟨X, 5, none⟩ = some y5 ∧ Hid (FarX F X W)
theorem Six.of {F : Nat → Prop} {X : Nat} {y0 y1 y2 y3 y4 y5 : Value} {W : World} (h : BoxAt X #[y0, y1, y2, y3, y4, y5] W) (hF : F X) : Six F X y0 y1 y2 y3 y4 y5 W := by
  unfold BoxAt at h
  refine ⟨?_, ?_, ?_, ?_, ?_, ?_, ⟨hF, Nat.lt_of_not_le fun hg => by rw [Array.getElem?_eq_none hg] at h; cases h⟩⟩ <;> simp [World.cell?, h]
theorem Six.go {F : Nat → Prop} {X : Nat} {y0 y1 y2 y3 y4 y5 : Value} {W W' : World} (h : Six F X y0 y1 y2 y3 y4 y5 W) (hs : W.heap.size ≤ W'.heap.size) (hb : W'.heap[X]? = W.heap[X]?) : Six F X y0 y1 y2 y3 y4 y5 W' := by
  obtain ⟨a0, a1, a2, a3, a4, a5, h1⟩ := h
  exact ⟨(cell_of_block hb _).trans a0, (cell_of_block hb _).trans a1, (cell_of_block hb _).trans a2, (cell_of_block hb _).trans a3, (cell_of_block hb _).trans a4, (cell_of_block hb _).trans a5, ⟨h1.out.1, Nat.lt_of_lt_of_le h1.out.2 hs⟩⟩
theorem Six.drew {F : Nat → Prop} {X : Nat} {y0 y1 y2 y3 y4 y5 : Value} {W : World} (h : Six F X y0 y1 y2 y3 y4 y5 W) : Six F X y0 y1 y2 y3 y4 y5 W.drew := h.go (Nat.le_refl _) rfl
theorem Six.alloc {F : Nat → Prop} {X : Nat} {y0 y1 y2 y3 y4 y5 : Value} {W : World} (h : Six F X y0 y1 y2 y3 y4 y5 W) (o : Obj) : Six F X y0 y1 y2 y3 y4 y5 (W.alloc o) := h.go (by rw [alloc_size']; omega) (Below.heap_alloc W o X h.2.2.2.2.2.2.out.2)
theorem Six.call {F : Nat → Prop} {base B dep : Nat} {s : Ps.St} {nv nv' : Value} {X : Nat} {y0 y1 y2 y3 y4 y5 : Value} {W W' : World} (h : Six F X y0 y1 y2 y3 y4 y5 W) (hr : RS F base B dep s nv W) (c : Chg B nv nv' W W') : Six F X y0 y1 y2 y3 y4 y5 W' := h.go c.size (hr.keepF c h.2.2.2.2.2.2.out.1)
end Go.Proofs.YtpjmapoiinjakaaGreatDoor.R
end
