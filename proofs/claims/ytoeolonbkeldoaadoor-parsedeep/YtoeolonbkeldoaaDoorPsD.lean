/- The parser's function, array by their contracts. -/
import Derived.Test.YtoeolonbkeldoaaDoorPsC
namespace Go.Proofs.YtoeolonbkeldoaaDoor.R
open Go.RowKit
open L (tkA intOf wpList_append_run)
set_option linter.unusedVariables false
open Ps in
theorem func_ru {L : Lv} {named : Bool} (g : GrL L) {s s' : Ps.St} {r : Nat} (h : Ru (func L named) s r s') : ∃ T s1 b s2 t s3 u s4 N s5 K s6, Ru skip s T s1 ∧ Ru (take [42]) s1 b s2 ∧ ((named = true ∧ Ru name s2 t s3) ∨ (named = false ∧ (nxt s2).k = 3 ∧ Ru name s2 t s3) ∨ (named = false ∧ (nxt s2).k ≠ 3 ∧ t = [] ∧ s3 = s2)) ∧ Ru (want [40]) s3 u s4 ∧ Ru (items [41] name) s4 N s5 ∧ Ru (body L) s5 K s6 ∧ Ru (add { k := 10, n := if b then 1 else 0, t := t, names := N, kids := K, a := T.a }) s6 r s' := by
  obtain ⟨e, n⟩ := h
  unfold func at e
  simp only [] at e
  rcases e0 : skip s with ⟨T, s1⟩
  simp only [e0] at e
  rcases e1 : take [42] s1 with ⟨b, s2⟩
  simp only [e1] at e
  rcases e2 : (if (named || decide ((nxt s2).k = 3)) = true then name s2 else ([], s2)) with ⟨t, s3⟩
  simp only [e2] at e
  rcases e3 : want [40] s3 with ⟨u, s4⟩
  simp only [e3] at e
  rcases e4 : items [41] name s4 with ⟨N, s5⟩
  simp only [e4] at e
  rcases e5 : body L s5 with ⟨K, s6⟩
  simp only [e5] at e
  have gt : Gr (take [42]) := fun s => Nat.le_of_eq (by rw [take_n])
  have n6 := gb (gr_add _) e n
  have n5 := gb (gr_body g) e5 n6
  have n4 := gb (gr_items gr_name _) e4 n5
  have n3 := gb (gr_want _) e3 n4
  cases named
  · by_cases hk : (nxt s2).k = 3
    · rw [if_pos (by simpa using hk)] at e2
      have n2 := gb gr_name e2 n3
      have n1 := gb gt e1 n2
      exact ⟨T, s1, b, s2, t, s3, u, s4, N, s5, K, s6, ⟨e0, n1⟩, ⟨e1, n2⟩, .inr (.inl ⟨rfl, hk, e2, n3⟩), ⟨e3, n4⟩, ⟨e4, n5⟩, ⟨e5, n6⟩, ⟨e, n⟩⟩
    · rw [if_neg (by simpa using hk)] at e2
      obtain ⟨rfl, rfl⟩ := Prod.mk.inj e2
      have n1 := gb gt e1 n3
      exact ⟨T, s1, b, s2, [], s2, u, s4, N, s5, K, s6, ⟨e0, n1⟩, ⟨e1, n3⟩, .inr (.inr ⟨rfl, hk, rfl, rfl⟩), ⟨e3, n4⟩, ⟨e4, n5⟩, ⟨e5, n6⟩, ⟨e, n⟩⟩
  · rw [if_pos (by simp)] at e2
    have n2 := gb gr_name e2 n3
    have n1 := gb gt e1 n2
    exact ⟨T, s1, b, s2, t, s3, u, s4, N, s5, K, s6, ⟨e0, n1⟩, ⟨e1, n2⟩, .inl ⟨rfl, e2, n3⟩, ⟨e3, n4⟩, ⟨e4, n5⟩, ⟨e5, n6⟩, ⟨e, n⟩⟩
open Ps in
theorem definition_ru {L : Lv} (g : GrL L) {s s' : Ps.St} {r : Nat} (h : Ru (definition L) s r s') : ∃ c s1, Ru (func L true) s c s1 ∧ Ru (add { k := 23, a := (nxt s).a, kids := [c] }) s1 r s' := by
  obtain ⟨e, n⟩ := h
  unfold definition at e
  simp only [] at e
  rcases e0 : func L true s with ⟨c, s1⟩
  simp only [e0] at e
  exact ⟨c, s1, ⟨e0, gb (gr_add _) e n⟩, ⟨e, n⟩⟩
/-- An array's own part of 'alone'. -/
def array (L : Ps.Lv) : Ps.M Nat := fun s => Ps.add { k := 9, a := (Ps.skip s).1.a, kids := (Ps.items [93] L.e (Ps.skip s).2).1 } (Ps.items [93] L.e (Ps.skip s).2).2
open Ps in
theorem array_ru {L : Lv} (g : GrL L) {s s' : Ps.St} {r : Nat} (h : Ru (array L) s r s') : ∃ T s1 K s2, Ru skip s T s1 ∧ Ru (items [93] L.e) s1 K s2 ∧ Ru (add { k := 9, a := T.a, kids := K }) s2 r s' := by
  obtain ⟨e, n⟩ := h
  unfold array at e
  rcases e0 : skip s with ⟨T, s1⟩
  simp only [e0] at e
  rcases e1 : items [93] L.e s1 with ⟨K, s2⟩
  simp only [e1] at e
  have n2 := gb (gr_add _) e n
  have n1 := gb (gr_items g.e _) e1 n2
  exact ⟨T, s1, K, s2, ⟨e0, n1⟩, ⟨e1, n2⟩, ⟨e, n⟩⟩
section
variable {F : Nat → Prop} {base B dep : Nat} {L : Ps.Lv} {s s' : Ps.St} {nv : Value} {w : World} {r : Nat}
set_option maxRecDepth 100000 in
set_option maxHeartbeats 2000000 in
theorem c_func {named : Bool} (hL : ∀ F, LvC F base B dep L) (hS : Ps.ShL L) (E : Ru (Ps.func L named) s r s') (h : RS F base B dep s nv w) : Calls Tryd.prog 70 #[.pointer (some ⟨B, 0, none⟩), .bool named] w (Tells F base B dep nv w s' (.int .i64 (r : Int))) := by
  obtain ⟨⟨tk, tt, tn, ta, tl, te⟩, s1, b, s2, t, s3, u, s4, N, s5, K, s6, E1, E2, E3, E4, E5, E6, E7⟩ := func_ru (hL F).gr E
  have hfl := run_field3
  have hfl0 := run_field0
  have HN : Hid (∀ F nv w, RS F base B dep s2 nv w → _) := fun F nv w h => c_next (F := F) (w := w) (nv := nv) h
  clear E
  rcases eT : Ps.nxt s2 with ⟨uk, ut, un, ua, ul, ue⟩
  rw [eT] at HN E3
  simp only [tkA] at HN E3
  clear eT
  cases b
  · rcases E3 with ⟨rfl, E3⟩ | ⟨rfl, rfl, E3⟩ | ⟨rfl, hk, rfl, rfl⟩
    · go_enter Tryd.func70, Tryd.ntmps70
      go_wp2_with fail
      refine Calls.mono (c_skip E1 h) ?_
      rintro e w1 ⟨rfl, nv1, hr1, hc1⟩
      have HC1 : Hid (_) := hc1
      clear hc1
      simp only [tkA] at *
      obtain ⟨hr1b, hcx, hX⟩ := hr1.box (.int .i64 10) (.int .i64 0) (.string ⟨#[]⟩) (.slice none 0 0) (.slice none 0 0) (.int .i64 (ta : Int))
      have HC1b : Hid (_) := HC1.out.trans hcx
      have HX1b : Hid (_) := hX
      have HS : Hid (w.heap.size ≤ w1.heap.size) := HC1.out.size
      clear hcx hX
      go_wp2_with fail
      refine Calls.mono (c_take (m := [42]) E2 hr1b) ?_
      rintro e w2 ⟨rfl, nv2, hr2, hc2⟩
      have HX2 : Hid (_) := HX1b.out.go hr1b hc2
      have HC2 : Hid (_) := HC1b.out.trans hc2
      clear hc2
      go_wp2_with fail
      refine Calls.mono (c_name E3 hr2) ?_
      rintro e w3 ⟨rfl, nv3, hr3, hc3⟩
      have HX3 : Hid (_) := HX2.out.go hr2 hc3
      have HC3 : Hid (_) := HC2.out.trans hc3
      clear hc3
      obtain ⟨⟨p0, p1, p2, p3, p4, p5⟩, ⟨f1, f2, f3, f4⟩, hlt⟩ := HX3.out.facts
      have HX3s : Hid (_) := HX3.out.set2 (.string ⟨t.toArray⟩)
      have hr3s := hr3.foreign HX3.out.far 2 (.string ⟨t.toArray⟩)
      have HC3s : Hid (_) := HC3.out.setX HS.out 2 (.string ⟨t.toArray⟩)
      go_wp2_with fail
      refine Calls.mono (c_want (m := [40]) E4 hr3s) ?_
      rintro e w4 ⟨rfl, nv4, hr4, hc4⟩
      clear p0 p1 p2 p3 p4 p5 f1 f2 f3 f4 hlt
      have HX4 : Hid (_) := HX3s.out.go hr3s hc4
      have HC4 : Hid (_) := HC3s.out.trans hc4
      clear hc4
      go_wp2_with fail
      refine Calls.mono (c_items_n (m := [41]) E5 hr4) ?_
      rintro e w5 ⟨ad5, cap5, rfl, nv5, hr5, hc5, hk5⟩
      have HX5 : Hid (_) := HX4.out.go hr4 hc5
      have HN_5 : Hid (_) := hk5
      clear hk5
      have HC5 : Hid (_) := HC4.out.trans hc5
      clear hc5
      obtain ⟨⟨p0, p1, p2, p3, p4, p5⟩, ⟨f1, f2, f3, f4⟩, hlt⟩ := HX5.out.facts
      have HX5s : Hid (_) := HX5.out.set3 (.slice ad5 N.length cap5)
      have hr5s := hr5.foreign HX5.out.far 3 (.slice ad5 N.length cap5)
      have HC5s : Hid (_) := HC5.out.setX HS.out 3 (.slice ad5 N.length cap5)
      have HN_5s : Hid (_) := HN_5.out.set HX5.out.far 3 (.slice ad5 N.length cap5)
      go_wp2_with fail
      refine Calls.mono (c_body hL hS E6 hr5s) ?_
      rintro e w6 ⟨ad6, cap6, rfl, nv6, hr6, hc6, hk6⟩
      clear p0 p1 p2 p3 p4 p5 f1 f2 f3 f4 hlt
      have HX6 : Hid (_) := HX5s.out.go hr5s hc6
      have HN_6 : Hid (_) := HN_5s.out.go hc6
      have HK_6 : Hid (_) := hk6
      clear hk6
      have HC6 : Hid (_) := HC5s.out.trans hc6
      clear hc6
      obtain ⟨⟨p0, p1, p2, p3, p4, p5⟩, ⟨f1, f2, f3, f4⟩, hlt⟩ := HX6.out.facts
      have HX6s : Hid (_) := HX6.out.set4 (.slice ad6 K.length cap6)
      have hr6s := hr6.foreign HX6.out.far 4 (.slice ad6 K.length cap6)
      have HC6s : Hid (_) := HC6.out.setX HS.out 4 (.slice ad6 K.length cap6)
      have HN_6s : Hid (_) := HN_6.out.set HX6.out.far 4 (.slice ad6 K.length cap6)
      have HK_6s : Hid (_) := HK_6.out.set HX6.out.far 4 (.slice ad6 K.length cap6)
      go_wp2_with fail
      refine Calls.mono (c_addV E7 hr6s HN_6s.out HK_6s.out) ?_
      rintro e w7 ⟨rfl, nv7, hr7, hc7⟩
      clear p0 p1 p2 p3 p4 p5 f1 f2 f3 f4 hlt
      have HX7 : Hid (_) := HX6s.out.go hr6s hc7
      have HN_7 : Hid (_) := HN_6s.out.go hc7
      have HK_7 : Hid (_) := HK_6s.out.go hc7
      have HC7 : Hid (_) := HC6s.out.trans hc7
      clear hc7
      go_wp2_with fail
      go_ret
      exact ⟨rfl, nv7, hr7.less (fun k hk => .inl hk), HC7.out⟩
    · go_enter Tryd.func70, Tryd.ntmps70
      go_wp2_with fail
      refine Calls.mono (c_skip E1 h) ?_
      rintro e w1 ⟨rfl, nv1, hr1, hc1⟩
      have HC1 : Hid (_) := hc1
      clear hc1
      simp only [tkA] at *
      obtain ⟨hr1b, hcx, hX⟩ := hr1.box (.int .i64 10) (.int .i64 0) (.string ⟨#[]⟩) (.slice none 0 0) (.slice none 0 0) (.int .i64 (ta : Int))
      have HC1b : Hid (_) := HC1.out.trans hcx
      have HX1b : Hid (_) := hX
      have HS : Hid (w.heap.size ≤ w1.heap.size) := HC1.out.size
      clear hcx hX
      go_wp2_with fail
      refine Calls.mono (c_take (m := [42]) E2 hr1b) ?_
      rintro e w2 ⟨rfl, nv2, hr2, hc2⟩
      have HX2 : Hid (_) := HX1b.out.go hr1b hc2
      have HC2 : Hid (_) := HC1b.out.trans hc2
      clear hc2
      go_wp2_with fail
      refine Calls.mono (HN.out _ _ _ hr2) ?_
      rintro e w3 ⟨rfl, nv3, hr3, hc3⟩
      have HX3 : Hid (_) := HX2.out.go hr2 hc3
      have HC3 : Hid (_) := HC2.out.trans hc3
      clear hc3
      go_wp2_with fail
      refine Calls.mono (c_name E3 hr3) ?_
      rintro e w4 ⟨rfl, nv4, hr4, hc4⟩
      have HX4 : Hid (_) := HX3.out.go hr3 hc4
      have HC4 : Hid (_) := HC3.out.trans hc4
      clear hc4
      obtain ⟨⟨p0, p1, p2, p3, p4, p5⟩, ⟨f1, f2, f3, f4⟩, hlt⟩ := HX4.out.facts
      have HX4s : Hid (_) := HX4.out.set2 (.string ⟨t.toArray⟩)
      have hr4s := hr4.foreign HX4.out.far 2 (.string ⟨t.toArray⟩)
      have HC4s : Hid (_) := HC4.out.setX HS.out 2 (.string ⟨t.toArray⟩)
      go_wp2_with fail
      refine Calls.mono (c_want (m := [40]) E4 hr4s) ?_
      rintro e w5 ⟨rfl, nv5, hr5, hc5⟩
      clear p0 p1 p2 p3 p4 p5 f1 f2 f3 f4 hlt
      have HX5 : Hid (_) := HX4s.out.go hr4s hc5
      have HC5 : Hid (_) := HC4s.out.trans hc5
      clear hc5
      go_wp2_with fail
      refine Calls.mono (c_items_n (m := [41]) E5 hr5) ?_
      rintro e w6 ⟨ad6, cap6, rfl, nv6, hr6, hc6, hk6⟩
      have HX6 : Hid (_) := HX5.out.go hr5 hc6
      have HN_6 : Hid (_) := hk6
      clear hk6
      have HC6 : Hid (_) := HC5.out.trans hc6
      clear hc6
      obtain ⟨⟨p0, p1, p2, p3, p4, p5⟩, ⟨f1, f2, f3, f4⟩, hlt⟩ := HX6.out.facts
      have HX6s : Hid (_) := HX6.out.set3 (.slice ad6 N.length cap6)
      have hr6s := hr6.foreign HX6.out.far 3 (.slice ad6 N.length cap6)
      have HC6s : Hid (_) := HC6.out.setX HS.out 3 (.slice ad6 N.length cap6)
      have HN_6s : Hid (_) := HN_6.out.set HX6.out.far 3 (.slice ad6 N.length cap6)
      go_wp2_with fail
      refine Calls.mono (c_body hL hS E6 hr6s) ?_
      rintro e w7 ⟨ad7, cap7, rfl, nv7, hr7, hc7, hk7⟩
      clear p0 p1 p2 p3 p4 p5 f1 f2 f3 f4 hlt
      have HX7 : Hid (_) := HX6s.out.go hr6s hc7
      have HN_7 : Hid (_) := HN_6s.out.go hc7
      have HK_7 : Hid (_) := hk7
      clear hk7
      have HC7 : Hid (_) := HC6s.out.trans hc7
      clear hc7
      obtain ⟨⟨p0, p1, p2, p3, p4, p5⟩, ⟨f1, f2, f3, f4⟩, hlt⟩ := HX7.out.facts
      have HX7s : Hid (_) := HX7.out.set4 (.slice ad7 K.length cap7)
      have hr7s := hr7.foreign HX7.out.far 4 (.slice ad7 K.length cap7)
      have HC7s : Hid (_) := HC7.out.setX HS.out 4 (.slice ad7 K.length cap7)
      have HN_7s : Hid (_) := HN_7.out.set HX7.out.far 4 (.slice ad7 K.length cap7)
      have HK_7s : Hid (_) := HK_7.out.set HX7.out.far 4 (.slice ad7 K.length cap7)
      go_wp2_with fail
      refine Calls.mono (c_addV E7 hr7s HN_7s.out HK_7s.out) ?_
      rintro e w8 ⟨rfl, nv8, hr8, hc8⟩
      clear p0 p1 p2 p3 p4 p5 f1 f2 f3 f4 hlt
      have HX8 : Hid (_) := HX7s.out.go hr7s hc8
      have HN_8 : Hid (_) := HN_7s.out.go hc8
      have HK_8 : Hid (_) := HK_7s.out.go hc8
      have HC8 : Hid (_) := HC7s.out.trans hc8
      clear hc8
      go_wp2_with fail
      go_ret
      exact ⟨rfl, nv8, hr8.less (fun k hk => .inl hk), HC8.out⟩
    · have hk' : ((uk : Int) == 3) = false := by rw [beq_eq_false_iff_ne]; omega
      go_enter Tryd.func70, Tryd.ntmps70
      go_wp2_with fail
      refine Calls.mono (c_skip E1 h) ?_
      rintro e w1 ⟨rfl, nv1, hr1, hc1⟩
      have HC1 : Hid (_) := hc1
      clear hc1
      simp only [tkA] at *
      obtain ⟨hr1b, hcx, hX⟩ := hr1.box (.int .i64 10) (.int .i64 0) (.string ⟨#[]⟩) (.slice none 0 0) (.slice none 0 0) (.int .i64 (ta : Int))
      have HC1b : Hid (_) := HC1.out.trans hcx
      have HX1b : Hid (_) := hX
      have HS : Hid (w.heap.size ≤ w1.heap.size) := HC1.out.size
      clear hcx hX
      go_wp2_with fail
      refine Calls.mono (c_take (m := [42]) E2 hr1b) ?_
      rintro e w2 ⟨rfl, nv2, hr2, hc2⟩
      have HX2 : Hid (_) := HX1b.out.go hr1b hc2
      have HC2 : Hid (_) := HC1b.out.trans hc2
      clear hc2
      go_wp2_with fail
      refine Calls.mono (HN.out _ _ _ hr2) ?_
      rintro e w3 ⟨rfl, nv3, hr3, hc3⟩
      have HX3 : Hid (_) := HX2.out.go hr2 hc3
      have HC3 : Hid (_) := HC2.out.trans hc3
      clear hc3
      go_wp2_with fail
      refine Calls.mono (c_want (m := [40]) E4 hr3) ?_
      rintro e w4 ⟨rfl, nv4, hr4, hc4⟩
      have HX4 : Hid (_) := HX3.out.go hr3 hc4
      have HC4 : Hid (_) := HC3.out.trans hc4
      clear hc4
      go_wp2_with fail
      refine Calls.mono (c_items_n (m := [41]) E5 hr4) ?_
      rintro e w5 ⟨ad5, cap5, rfl, nv5, hr5, hc5, hk5⟩
      have HX5 : Hid (_) := HX4.out.go hr4 hc5
      have HN_5 : Hid (_) := hk5
      clear hk5
      have HC5 : Hid (_) := HC4.out.trans hc5
      clear hc5
      obtain ⟨⟨p0, p1, p2, p3, p4, p5⟩, ⟨f1, f2, f3, f4⟩, hlt⟩ := HX5.out.facts
      have HX5s : Hid (_) := HX5.out.set3 (.slice ad5 N.length cap5)
      have hr5s := hr5.foreign HX5.out.far 3 (.slice ad5 N.length cap5)
      have HC5s : Hid (_) := HC5.out.setX HS.out 3 (.slice ad5 N.length cap5)
      have HN_5s : Hid (_) := HN_5.out.set HX5.out.far 3 (.slice ad5 N.length cap5)
      go_wp2_with fail
      refine Calls.mono (c_body hL hS E6 hr5s) ?_
      rintro e w6 ⟨ad6, cap6, rfl, nv6, hr6, hc6, hk6⟩
      clear p0 p1 p2 p3 p4 p5 f1 f2 f3 f4 hlt
      have HX6 : Hid (_) := HX5s.out.go hr5s hc6
      have HN_6 : Hid (_) := HN_5s.out.go hc6
      have HK_6 : Hid (_) := hk6
      clear hk6
      have HC6 : Hid (_) := HC5s.out.trans hc6
      clear hc6
      obtain ⟨⟨p0, p1, p2, p3, p4, p5⟩, ⟨f1, f2, f3, f4⟩, hlt⟩ := HX6.out.facts
      have HX6s : Hid (_) := HX6.out.set4 (.slice ad6 K.length cap6)
      have hr6s := hr6.foreign HX6.out.far 4 (.slice ad6 K.length cap6)
      have HC6s : Hid (_) := HC6.out.setX HS.out 4 (.slice ad6 K.length cap6)
      have HN_6s : Hid (_) := HN_6.out.set HX6.out.far 4 (.slice ad6 K.length cap6)
      have HK_6s : Hid (_) := HK_6.out.set HX6.out.far 4 (.slice ad6 K.length cap6)
      go_wp2_with fail
      refine Calls.mono (c_addV E7 hr6s HN_6s.out HK_6s.out) ?_
      rintro e w7 ⟨rfl, nv7, hr7, hc7⟩
      clear p0 p1 p2 p3 p4 p5 f1 f2 f3 f4 hlt
      have HX7 : Hid (_) := HX6s.out.go hr6s hc7
      have HN_7 : Hid (_) := HN_6s.out.go hc7
      have HK_7 : Hid (_) := HK_6s.out.go hc7
      have HC7 : Hid (_) := HC6s.out.trans hc7
      clear hc7
      go_wp2_with fail
      go_ret
      exact ⟨rfl, nv7, hr7.less (fun k hk => .inl hk), HC7.out⟩
  · rcases E3 with ⟨rfl, E3⟩ | ⟨rfl, rfl, E3⟩ | ⟨rfl, hk, rfl, rfl⟩
    · go_enter Tryd.func70, Tryd.ntmps70
      go_wp2_with fail
      refine Calls.mono (c_skip E1 h) ?_
      rintro e w1 ⟨rfl, nv1, hr1, hc1⟩
      have HC1 : Hid (_) := hc1
      clear hc1
      simp only [tkA] at *
      obtain ⟨hr1b, hcx, hX⟩ := hr1.box (.int .i64 10) (.int .i64 0) (.string ⟨#[]⟩) (.slice none 0 0) (.slice none 0 0) (.int .i64 (ta : Int))
      have HC1b : Hid (_) := HC1.out.trans hcx
      have HX1b : Hid (_) := hX
      have HS : Hid (w.heap.size ≤ w1.heap.size) := HC1.out.size
      clear hcx hX
      go_wp2_with fail
      refine Calls.mono (c_take (m := [42]) E2 hr1b) ?_
      rintro e w2 ⟨rfl, nv2, hr2, hc2⟩
      have HX2 : Hid (_) := HX1b.out.go hr1b hc2
      have HC2 : Hid (_) := HC1b.out.trans hc2
      clear hc2
      obtain ⟨⟨p0, p1, p2, p3, p4, p5⟩, ⟨f1, f2, f3, f4⟩, hlt⟩ := HX2.out.facts
      have HX2s : Hid (_) := HX2.out.set1 (.int .i64 1)
      have hr2s := hr2.foreign HX2.out.far 1 (.int .i64 1)
      have HC2s : Hid (_) := HC2.out.setX HS.out 1 (.int .i64 1)
      go_wp2_with fail
      refine Calls.mono (c_name E3 hr2s) ?_
      rintro e w3 ⟨rfl, nv3, hr3, hc3⟩
      clear p0 p1 p2 p3 p4 p5 f1 f2 f3 f4 hlt
      have HX3 : Hid (_) := HX2s.out.go hr2s hc3
      have HC3 : Hid (_) := HC2s.out.trans hc3
      clear hc3
      obtain ⟨⟨p0, p1, p2, p3, p4, p5⟩, ⟨f1, f2, f3, f4⟩, hlt⟩ := HX3.out.facts
      have HX3s : Hid (_) := HX3.out.set2 (.string ⟨t.toArray⟩)
      have hr3s := hr3.foreign HX3.out.far 2 (.string ⟨t.toArray⟩)
      have HC3s : Hid (_) := HC3.out.setX HS.out 2 (.string ⟨t.toArray⟩)
      go_wp2_with fail
      refine Calls.mono (c_want (m := [40]) E4 hr3s) ?_
      rintro e w4 ⟨rfl, nv4, hr4, hc4⟩
      clear p0 p1 p2 p3 p4 p5 f1 f2 f3 f4 hlt
      have HX4 : Hid (_) := HX3s.out.go hr3s hc4
      have HC4 : Hid (_) := HC3s.out.trans hc4
      clear hc4
      go_wp2_with fail
      refine Calls.mono (c_items_n (m := [41]) E5 hr4) ?_
      rintro e w5 ⟨ad5, cap5, rfl, nv5, hr5, hc5, hk5⟩
      have HX5 : Hid (_) := HX4.out.go hr4 hc5
      have HN_5 : Hid (_) := hk5
      clear hk5
      have HC5 : Hid (_) := HC4.out.trans hc5
      clear hc5
      obtain ⟨⟨p0, p1, p2, p3, p4, p5⟩, ⟨f1, f2, f3, f4⟩, hlt⟩ := HX5.out.facts
      have HX5s : Hid (_) := HX5.out.set3 (.slice ad5 N.length cap5)
      have hr5s := hr5.foreign HX5.out.far 3 (.slice ad5 N.length cap5)
      have HC5s : Hid (_) := HC5.out.setX HS.out 3 (.slice ad5 N.length cap5)
      have HN_5s : Hid (_) := HN_5.out.set HX5.out.far 3 (.slice ad5 N.length cap5)
      go_wp2_with fail
      refine Calls.mono (c_body hL hS E6 hr5s) ?_
      rintro e w6 ⟨ad6, cap6, rfl, nv6, hr6, hc6, hk6⟩
      clear p0 p1 p2 p3 p4 p5 f1 f2 f3 f4 hlt
      have HX6 : Hid (_) := HX5s.out.go hr5s hc6
      have HN_6 : Hid (_) := HN_5s.out.go hc6
      have HK_6 : Hid (_) := hk6
      clear hk6
      have HC6 : Hid (_) := HC5s.out.trans hc6
      clear hc6
      obtain ⟨⟨p0, p1, p2, p3, p4, p5⟩, ⟨f1, f2, f3, f4⟩, hlt⟩ := HX6.out.facts
      have HX6s : Hid (_) := HX6.out.set4 (.slice ad6 K.length cap6)
      have hr6s := hr6.foreign HX6.out.far 4 (.slice ad6 K.length cap6)
      have HC6s : Hid (_) := HC6.out.setX HS.out 4 (.slice ad6 K.length cap6)
      have HN_6s : Hid (_) := HN_6.out.set HX6.out.far 4 (.slice ad6 K.length cap6)
      have HK_6s : Hid (_) := HK_6.out.set HX6.out.far 4 (.slice ad6 K.length cap6)
      go_wp2_with fail
      refine Calls.mono (c_addV E7 hr6s HN_6s.out HK_6s.out) ?_
      rintro e w7 ⟨rfl, nv7, hr7, hc7⟩
      clear p0 p1 p2 p3 p4 p5 f1 f2 f3 f4 hlt
      have HX7 : Hid (_) := HX6s.out.go hr6s hc7
      have HN_7 : Hid (_) := HN_6s.out.go hc7
      have HK_7 : Hid (_) := HK_6s.out.go hc7
      have HC7 : Hid (_) := HC6s.out.trans hc7
      clear hc7
      go_wp2_with fail
      go_ret
      exact ⟨rfl, nv7, hr7.less (fun k hk => .inl hk), HC7.out⟩
    · go_enter Tryd.func70, Tryd.ntmps70
      go_wp2_with fail
      refine Calls.mono (c_skip E1 h) ?_
      rintro e w1 ⟨rfl, nv1, hr1, hc1⟩
      have HC1 : Hid (_) := hc1
      clear hc1
      simp only [tkA] at *
      obtain ⟨hr1b, hcx, hX⟩ := hr1.box (.int .i64 10) (.int .i64 0) (.string ⟨#[]⟩) (.slice none 0 0) (.slice none 0 0) (.int .i64 (ta : Int))
      have HC1b : Hid (_) := HC1.out.trans hcx
      have HX1b : Hid (_) := hX
      have HS : Hid (w.heap.size ≤ w1.heap.size) := HC1.out.size
      clear hcx hX
      go_wp2_with fail
      refine Calls.mono (c_take (m := [42]) E2 hr1b) ?_
      rintro e w2 ⟨rfl, nv2, hr2, hc2⟩
      have HX2 : Hid (_) := HX1b.out.go hr1b hc2
      have HC2 : Hid (_) := HC1b.out.trans hc2
      clear hc2
      obtain ⟨⟨p0, p1, p2, p3, p4, p5⟩, ⟨f1, f2, f3, f4⟩, hlt⟩ := HX2.out.facts
      have HX2s : Hid (_) := HX2.out.set1 (.int .i64 1)
      have hr2s := hr2.foreign HX2.out.far 1 (.int .i64 1)
      have HC2s : Hid (_) := HC2.out.setX HS.out 1 (.int .i64 1)
      go_wp2_with fail
      refine Calls.mono (HN.out _ _ _ hr2s) ?_
      rintro e w3 ⟨rfl, nv3, hr3, hc3⟩
      clear p0 p1 p2 p3 p4 p5 f1 f2 f3 f4 hlt
      have HX3 : Hid (_) := HX2s.out.go hr2s hc3
      have HC3 : Hid (_) := HC2s.out.trans hc3
      clear hc3
      go_wp2_with fail
      refine Calls.mono (c_name E3 hr3) ?_
      rintro e w4 ⟨rfl, nv4, hr4, hc4⟩
      have HX4 : Hid (_) := HX3.out.go hr3 hc4
      have HC4 : Hid (_) := HC3.out.trans hc4
      clear hc4
      obtain ⟨⟨p0, p1, p2, p3, p4, p5⟩, ⟨f1, f2, f3, f4⟩, hlt⟩ := HX4.out.facts
      have HX4s : Hid (_) := HX4.out.set2 (.string ⟨t.toArray⟩)
      have hr4s := hr4.foreign HX4.out.far 2 (.string ⟨t.toArray⟩)
      have HC4s : Hid (_) := HC4.out.setX HS.out 2 (.string ⟨t.toArray⟩)
      go_wp2_with fail
      refine Calls.mono (c_want (m := [40]) E4 hr4s) ?_
      rintro e w5 ⟨rfl, nv5, hr5, hc5⟩
      clear p0 p1 p2 p3 p4 p5 f1 f2 f3 f4 hlt
      have HX5 : Hid (_) := HX4s.out.go hr4s hc5
      have HC5 : Hid (_) := HC4s.out.trans hc5
      clear hc5
      go_wp2_with fail
      refine Calls.mono (c_items_n (m := [41]) E5 hr5) ?_
      rintro e w6 ⟨ad6, cap6, rfl, nv6, hr6, hc6, hk6⟩
      have HX6 : Hid (_) := HX5.out.go hr5 hc6
      have HN_6 : Hid (_) := hk6
      clear hk6
      have HC6 : Hid (_) := HC5.out.trans hc6
      clear hc6
      obtain ⟨⟨p0, p1, p2, p3, p4, p5⟩, ⟨f1, f2, f3, f4⟩, hlt⟩ := HX6.out.facts
      have HX6s : Hid (_) := HX6.out.set3 (.slice ad6 N.length cap6)
      have hr6s := hr6.foreign HX6.out.far 3 (.slice ad6 N.length cap6)
      have HC6s : Hid (_) := HC6.out.setX HS.out 3 (.slice ad6 N.length cap6)
      have HN_6s : Hid (_) := HN_6.out.set HX6.out.far 3 (.slice ad6 N.length cap6)
      go_wp2_with fail
      refine Calls.mono (c_body hL hS E6 hr6s) ?_
      rintro e w7 ⟨ad7, cap7, rfl, nv7, hr7, hc7, hk7⟩
      clear p0 p1 p2 p3 p4 p5 f1 f2 f3 f4 hlt
      have HX7 : Hid (_) := HX6s.out.go hr6s hc7
      have HN_7 : Hid (_) := HN_6s.out.go hc7
      have HK_7 : Hid (_) := hk7
      clear hk7
      have HC7 : Hid (_) := HC6s.out.trans hc7
      clear hc7
      obtain ⟨⟨p0, p1, p2, p3, p4, p5⟩, ⟨f1, f2, f3, f4⟩, hlt⟩ := HX7.out.facts
      have HX7s : Hid (_) := HX7.out.set4 (.slice ad7 K.length cap7)
      have hr7s := hr7.foreign HX7.out.far 4 (.slice ad7 K.length cap7)
      have HC7s : Hid (_) := HC7.out.setX HS.out 4 (.slice ad7 K.length cap7)
      have HN_7s : Hid (_) := HN_7.out.set HX7.out.far 4 (.slice ad7 K.length cap7)
      have HK_7s : Hid (_) := HK_7.out.set HX7.out.far 4 (.slice ad7 K.length cap7)
      go_wp2_with fail
      refine Calls.mono (c_addV E7 hr7s HN_7s.out HK_7s.out) ?_
      rintro e w8 ⟨rfl, nv8, hr8, hc8⟩
      clear p0 p1 p2 p3 p4 p5 f1 f2 f3 f4 hlt
      have HX8 : Hid (_) := HX7s.out.go hr7s hc8
      have HN_8 : Hid (_) := HN_7s.out.go hc8
      have HK_8 : Hid (_) := HK_7s.out.go hc8
      have HC8 : Hid (_) := HC7s.out.trans hc8
      clear hc8
      go_wp2_with fail
      go_ret
      exact ⟨rfl, nv8, hr8.less (fun k hk => .inl hk), HC8.out⟩
    · have hk' : ((uk : Int) == 3) = false := by rw [beq_eq_false_iff_ne]; omega
      go_enter Tryd.func70, Tryd.ntmps70
      go_wp2_with fail
      refine Calls.mono (c_skip E1 h) ?_
      rintro e w1 ⟨rfl, nv1, hr1, hc1⟩
      have HC1 : Hid (_) := hc1
      clear hc1
      simp only [tkA] at *
      obtain ⟨hr1b, hcx, hX⟩ := hr1.box (.int .i64 10) (.int .i64 0) (.string ⟨#[]⟩) (.slice none 0 0) (.slice none 0 0) (.int .i64 (ta : Int))
      have HC1b : Hid (_) := HC1.out.trans hcx
      have HX1b : Hid (_) := hX
      have HS : Hid (w.heap.size ≤ w1.heap.size) := HC1.out.size
      clear hcx hX
      go_wp2_with fail
      refine Calls.mono (c_take (m := [42]) E2 hr1b) ?_
      rintro e w2 ⟨rfl, nv2, hr2, hc2⟩
      have HX2 : Hid (_) := HX1b.out.go hr1b hc2
      have HC2 : Hid (_) := HC1b.out.trans hc2
      clear hc2
      obtain ⟨⟨p0, p1, p2, p3, p4, p5⟩, ⟨f1, f2, f3, f4⟩, hlt⟩ := HX2.out.facts
      have HX2s : Hid (_) := HX2.out.set1 (.int .i64 1)
      have hr2s := hr2.foreign HX2.out.far 1 (.int .i64 1)
      have HC2s : Hid (_) := HC2.out.setX HS.out 1 (.int .i64 1)
      go_wp2_with fail
      refine Calls.mono (HN.out _ _ _ hr2s) ?_
      rintro e w3 ⟨rfl, nv3, hr3, hc3⟩
      clear p0 p1 p2 p3 p4 p5 f1 f2 f3 f4 hlt
      have HX3 : Hid (_) := HX2s.out.go hr2s hc3
      have HC3 : Hid (_) := HC2s.out.trans hc3
      clear hc3
      go_wp2_with fail
      refine Calls.mono (c_want (m := [40]) E4 hr3) ?_
      rintro e w4 ⟨rfl, nv4, hr4, hc4⟩
      have HX4 : Hid (_) := HX3.out.go hr3 hc4
      have HC4 : Hid (_) := HC3.out.trans hc4
      clear hc4
      go_wp2_with fail
      refine Calls.mono (c_items_n (m := [41]) E5 hr4) ?_
      rintro e w5 ⟨ad5, cap5, rfl, nv5, hr5, hc5, hk5⟩
      have HX5 : Hid (_) := HX4.out.go hr4 hc5
      have HN_5 : Hid (_) := hk5
      clear hk5
      have HC5 : Hid (_) := HC4.out.trans hc5
      clear hc5
      obtain ⟨⟨p0, p1, p2, p3, p4, p5⟩, ⟨f1, f2, f3, f4⟩, hlt⟩ := HX5.out.facts
      have HX5s : Hid (_) := HX5.out.set3 (.slice ad5 N.length cap5)
      have hr5s := hr5.foreign HX5.out.far 3 (.slice ad5 N.length cap5)
      have HC5s : Hid (_) := HC5.out.setX HS.out 3 (.slice ad5 N.length cap5)
      have HN_5s : Hid (_) := HN_5.out.set HX5.out.far 3 (.slice ad5 N.length cap5)
      go_wp2_with fail
      refine Calls.mono (c_body hL hS E6 hr5s) ?_
      rintro e w6 ⟨ad6, cap6, rfl, nv6, hr6, hc6, hk6⟩
      clear p0 p1 p2 p3 p4 p5 f1 f2 f3 f4 hlt
      have HX6 : Hid (_) := HX5s.out.go hr5s hc6
      have HN_6 : Hid (_) := HN_5s.out.go hc6
      have HK_6 : Hid (_) := hk6
      clear hk6
      have HC6 : Hid (_) := HC5s.out.trans hc6
      clear hc6
      obtain ⟨⟨p0, p1, p2, p3, p4, p5⟩, ⟨f1, f2, f3, f4⟩, hlt⟩ := HX6.out.facts
      have HX6s : Hid (_) := HX6.out.set4 (.slice ad6 K.length cap6)
      have hr6s := hr6.foreign HX6.out.far 4 (.slice ad6 K.length cap6)
      have HC6s : Hid (_) := HC6.out.setX HS.out 4 (.slice ad6 K.length cap6)
      have HN_6s : Hid (_) := HN_6.out.set HX6.out.far 4 (.slice ad6 K.length cap6)
      have HK_6s : Hid (_) := HK_6.out.set HX6.out.far 4 (.slice ad6 K.length cap6)
      go_wp2_with fail
      refine Calls.mono (c_addV E7 hr6s HN_6s.out HK_6s.out) ?_
      rintro e w7 ⟨rfl, nv7, hr7, hc7⟩
      clear p0 p1 p2 p3 p4 p5 f1 f2 f3 f4 hlt
      have HX7 : Hid (_) := HX6s.out.go hr6s hc7
      have HN_7 : Hid (_) := HN_6s.out.go hc7
      have HK_7 : Hid (_) := HK_6s.out.go hc7
      have HC7 : Hid (_) := HC6s.out.trans hc7
      clear hc7
      go_wp2_with fail
      go_ret
      exact ⟨rfl, nv7, hr7.less (fun k hk => .inl hk), HC7.out⟩
set_option maxRecDepth 100000 in
set_option maxHeartbeats 2000000 in
theorem c_definition (hL : ∀ F, LvC F base B dep L) (hS : Ps.ShL L) (E : Ru (Ps.definition L) s r s') (h : RS F base B dep s nv w) : Calls Tryd.prog 55 #[.pointer (some ⟨B, 0, none⟩)] w (Tells F base B dep nv w s' (.int .i64 (r : Int))) := by
  obtain ⟨c, s1, E1, E2⟩ := definition_ru (hL F).gr E
  have HN : Hid (_) := c_next h
  have hfl := run_field3
  clear E
  rcases eT : Ps.nxt s with ⟨tk, tt, tn, ta, tl, te⟩
  rw [eT] at HN E2
  simp only [tkA] at HN E2
  clear eT
  go_enter Tryd.func55, Tryd.ntmps55
  go_wp2_with fail
  refine Calls.mono (HN.out) ?_
  rintro e w1 ⟨rfl, nv1, hr1, hc1⟩
  have HC1 : Hid (_) := hc1
  clear hc1
  go_wp2_with fail
  refine Calls.mono (c_func (named := true) hL hS E1 hr1) ?_
  rintro e w2 ⟨rfl, nv2, hr2, hc2⟩
  have HC2 : Hid (_) := HC1.out.trans hc2
  clear hc2
  have HK_2l : Hid (_) := KV.lit hr2 [c] #[.int .i64 (c : Int)] 1 rfl (fun j hj => by
    have : j = 0 := by simpa using hj
    subst this; rfl)
  have hb : Below w2.heap.size w2 (w2.alloc (.cells #[.int .i64 (c : Int)] 3)) := (Below.refl _ _).alloc (Nat.le_refl _) _
  have hr2l := hr2.below hb
  have HC2l : Hid (_) := HC2.out.trans (Chg.below nv2 hb)
  clear hb
  go_wp2_with fail
  refine Calls.mono (c_addV E2 hr2l (NV.nil _ _ _ _) HK_2l.out) ?_
  rintro e w3 ⟨rfl, nv3, hr3, hc3⟩
  have HK_3 : Hid (_) := HK_2l.out.go hc3
  have HC3 : Hid (_) := HC2l.out.trans hc3
  clear hc3
  go_wp2_with fail
  go_ret
  exact ⟨rfl, nv3, hr3, HC3.out⟩
set_option maxRecDepth 100000 in
set_option maxHeartbeats 2000000 in
theorem c_array (hL : ∀ F, LvC F base B dep L) (hS : Ps.ShL L) (E : Ru (array L) s r s') (h : RS F base B dep s nv w) : Calls Tryd.prog 91 #[.pointer (some ⟨B, 0, none⟩)] w (Tells F base B dep nv w s' (.int .i64 (r : Int))) := by
  obtain ⟨⟨tk, tt, tn, ta, tl, te⟩, s1, K, s2, E1, E2, E3⟩ := array_ru (hL F).gr E
  have hfl := run_field3
  clear E
  go_enter Tryd.func91, Tryd.ntmps91
  go_wp2_with fail
  refine Calls.mono (c_skip E1 h) ?_
  rintro e w1 ⟨rfl, nv1, hr1, hc1⟩
  have HC1 : Hid (_) := hc1
  clear hc1
  simp only [tkA] at *
  go_wp2_with fail
  refine Calls.mono (c_items_e (m := [93]) hL hS E2 hr1) ?_
  rintro e w2 ⟨ad2, cap2, rfl, nv2, hr2, hc2, hk2⟩
  have HK_2 : Hid (_) := hk2
  clear hk2
  have HC2 : Hid (_) := HC1.out.trans hc2
  clear hc2
  go_wp2_with fail
  refine Calls.mono (c_addV E3 hr2 (NV.nil _ _ _ _) HK_2.out) ?_
  rintro e w3 ⟨rfl, nv3, hr3, hc3⟩
  have HK_3 : Hid (_) := HK_2.out.go hc3
  have HC3 : Hid (_) := HC2.out.trans hc3
  clear hc3
  go_wp2_with fail
  go_ret
  exact ⟨rfl, nv3, hr3, HC3.out⟩
end
end Go.Proofs.YtoeolonbkeldoaaDoor.R
