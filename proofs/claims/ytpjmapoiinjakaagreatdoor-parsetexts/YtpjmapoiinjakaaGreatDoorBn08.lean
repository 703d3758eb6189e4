/- Texts: PsBi PsC. -/
import Derived.Test.YtpjmapoiinjakaaGreatDoorBn07
section
namespace Go.Proofs.YtpjmapoiinjakaaGreatDoor.R
open Go.RowKit
open L (tkA intOf wpList_append_run)
set_option linter.unusedVariables false
section
variable {F : Nat → Prop} {base B dep : Nat} {L : Ps.Lv} {s s' : Ps.St} {nv : Value} {w : World} {r : Nat}
set_option maxRecDepth 100000 in
set_option maxHeartbeats 2000000 in
theorem c_binding {k : Nat} (hL : ∀ F, LvC F base B dep L) (E : Ru (Ps.binding L k) s r s') (h : RS F base B dep s nv w) : Calls Tryz.prog 85 #[.pointer (some ⟨B, 0, none⟩), .int .i64 (k : Int)] w (Tells F base B dep nv w s' (.int .i64 (r : Int))) := by
  obtain ⟨⟨tk, tt, tn, ta, tl, te⟩, s1, t, s2, u, s3, c, s4, u', s5, E1, E2, E3, E4, E5, E6⟩ := binding_ru (hL F).gr E
  have hfl := run_field3
  have H : Hid (_) := h
  clear E
  go_enter Tryz.func85, Tryz.ntmps85
  go_wp2_with fail
  refine Calls.mono (c_skip E1 h) ?_
  rintro e w1 ⟨rfl, nv1, hr1, hc1⟩
  simp only [tkA] at *
  obtain ⟨hrx, hcx, hX⟩ := hr1.box (.int .i64 (k : Int)) (.int .i64 0) (.string ⟨#[]⟩) (.slice none 0 0) (.slice none 0 0) (.int .i64 (ta : Int))
  have HC1 : Hid (_) := hc1.trans hcx
  have HX : Hid (_) := hX
  have HRX : Hid (_) := hrx
  have HS1 : Hid (w.heap.size ≤ w1.heap.size) := hc1.size
  clear hrx hcx hX hc1 hr1 h
  go_wp2_with fail
  refine Calls.mono (c_name E2 HRX.out) ?_
  rintro e w2 ⟨rfl, nv2, hr2, hc2⟩
  have hX2 := HX.out.go HRX.out hc2
  obtain ⟨⟨p0, p1, p2, p3, p4, p5⟩, ⟨f1, f2, f3, f4⟩, hlt⟩ := hX2.facts
  have HX2 : Hid (_) := hX2.set2 (.string ⟨t.toArray⟩)
  have HR2 : Hid (_) := hr2.foreign hX2.far 2 (.string ⟨t.toArray⟩)
  have HC2 : Hid (_) := (HC1.out.trans hc2).setX HS1.out 2 (.string ⟨t.toArray⟩)
  clear hX2 hr2 hc2 HC1 HX HRX
  go_wp2_with fail
  refine Calls.mono (c_want (m := [61]) E3 HR2.out) ?_
  rintro e w3 ⟨rfl, nv3, hr3, hc3⟩
  have HX3 : Hid (_) := HX2.out.go HR2.out hc3
  have HC3 : Hid (_) := HC2.out.trans hc3
  clear p0 p1 p2 p3 p4 p5 f1 f2 f3 f4 hlt HX2 HC2 hc3 HR2
  go_wp2_with fail
  refine Calls.mono (c_e hL E4 hr3) ?_
  rintro e w4 ⟨rfl, nv4, hr4, hc4⟩
  have hX4 := (HX3.out.go hr3 hc4).alloc (.cells #[.int .i64 (c : Int)] 3)
  have hk4 := KV.lit hr4 [c] #[.int .i64 (c : Int)] 1 rfl (fun j hj => by
    have : j = 0 := by simpa using hj
    subst this; rfl)
  have hb4 : Below w4.heap.size w4 (w4.alloc (.cells #[.int .i64 (c : Int)] 3)) := (Below.refl _ _).alloc (Nat.le_refl _) _
  obtain ⟨⟨p0, p1, p2, p3, p4, p5⟩, ⟨f1, f2, f3, f4⟩, hlt⟩ := hX4.facts
  have HX4 : Hid (_) := hX4.set4 (.slice (some ⟨w4.heap.size, 0, none⟩) 1 1)
  have HR4 : Hid (_) := (hr4.below hb4).foreign hX4.far 4 (.slice (some ⟨w4.heap.size, 0, none⟩) 1 1)
  have HK4 : Hid (_) := hk4.set hX4.far 4 (.slice (some ⟨w4.heap.size, 0, none⟩) 1 1)
  have HC4 : Hid (_) := ((HC3.out.trans hc4).trans (Chg.below nv4 hb4)).setX HS1.out 4 (.slice (some ⟨w4.heap.size, 0, none⟩) 1 1)
  clear hX4 hk4 hb4 hr4 hc4 HX3 HC3 hr3
  go_wp2_with fail
  refine Calls.mono (c_endS E5 HR4.out) ?_
  rintro e w5 ⟨rfl, nv5, hr5, hc5⟩
  have hX5 := HX4.out.go HR4.out hc5
  have HK5 : Hid (_) := HK4.out.go hc5
  have HC5 : Hid (_) := HC4.out.trans hc5
  clear p0 p1 p2 p3 p4 p5 f1 f2 f3 f4 hlt
  obtain ⟨⟨p0, p1, p2, p3, p4, p5⟩, ⟨f1, f2, f3, f4⟩, hlt⟩ := hX5.facts
  clear hX5 HX4 HR4 HK4 HC4 hc5
  go_wp2_with fail
  refine Calls.mono (c_addV E6 hr5 (NV.nil _ _ _ _) HK5.out) ?_
  rintro e w6 ⟨rfl, nv6, hr6, hc6⟩
  clear p0 p1 p2 p3 p4 p5 f1 f2 f3 f4 hlt
  go_wp2_with fail
  go_ret
  exact ⟨rfl, nv6, hr6.less (fun k hk => .inl hk), HC5.out.trans hc6⟩
end
end Go.Proofs.YtpjmapoiinjakaaGreatDoor.R
end
section
namespace Go.Proofs.YtpjmapoiinjakaaGreatDoor.R
open Go.RowKit
open L (tkA intOf wpList_append_run)
set_option linter.unusedVariables false
open Ps in
theorem tryS_ru {L : Lv} (g : GrL L) {s s' : Ps.St} {r : Nat} (h : Ru (tryS L) s r s') : ∃ T s1 c s2 u s3 u2 s4 t s5 u3 s6 d s7, Ru skip s T s1 ∧ Ru (block L) s1 c s2 ∧ Ru (want [99, 97, 116, 99, 104]) s2 u s3 ∧ Ru (want [40]) s3 u2 s4 ∧ Ru name s4 t s5 ∧ Ru (want [41]) s5 u3 s6 ∧ Ru (block L) s6 d s7 ∧ Ru (add { k := 32, t := t, a := T.a, kids := [c, d] }) s7 r s' := by
  obtain ⟨e, n⟩ := h
  unfold tryS at e
  simp only [] at e
  rcases e0 : skip s with ⟨T, s1⟩
  simp only [e0] at e
  rcases e1 : block L s1 with ⟨c, s2⟩
  simp only [e1] at e
  rcases e2 : want [99, 97, 116, 99, 104] s2 with ⟨u, s3⟩
  simp only [e2] at e
  rcases e3 : want [40] s3 with ⟨u2, s4⟩
  simp only [e3] at e
  rcases e4 : name s4 with ⟨t, s5⟩
  simp only [e4] at e
  rcases e5 : want [41] s5 with ⟨u3, s6⟩
  simp only [e5] at e
  rcases e6 : block L s6 with ⟨d, s7⟩
  simp only [e6] at e
  have n7 := gb (gr_add _) e n
  have n6 := gb (gr_block g) e6 n7
  have n5 := gb (gr_want _) e5 n6
  have n4 := gb gr_name e4 n5
  have n3 := gb (gr_want _) e3 n4
  have n2 := gb (gr_want _) e2 n3
  have n1 := gb (gr_block g) e1 n2
  exact ⟨T, s1, c, s2, u, s3, u2, s4, t, s5, u3, s6, d, s7, ⟨e0, n1⟩, ⟨e1, n2⟩, ⟨e2, n3⟩, ⟨e3, n4⟩, ⟨e4, n5⟩, ⟨e5, n6⟩, ⟨e6, n7⟩, ⟨e, n⟩⟩
open Ps in
theorem returnS_ru {L : Lv} (g : GrL L) {s s' : Ps.St} {r : Nat} (h : Ru (returnS L) s r s') : ∃ T s1, Ru skip s T s1 ∧ (((nxt s1).ln = false ∧ Ps.mark s1 ≠ [59] ∧ closes s1 = false ∧ ∃ c s2 u s3, Ru L.e s1 c s2 ∧ Ru endS s2 u s3 ∧ Ru (add { k := 30, a := T.a, kids := [c] }) s3 r s') ∨ (((nxt s1).ln = true ∨ (nxt s1).ln = false ∧ Ps.mark s1 = [59] ∨ (nxt s1).ln = false ∧ Ps.mark s1 ≠ [59] ∧ closes s1 = true) ∧ ∃ u s2, Ru endS s1 u s2 ∧ Ru (add { k := 30, a := T.a }) s2 r s')) := by
  obtain ⟨e, n⟩ := h
  unfold returnS at e
  simp only [] at e
  rcases e0 : skip s with ⟨T, s1⟩
  simp only [e0] at e
  by_cases hc : (!(nxt s1).ln && !decide (Ps.mark s1 = [59]) && !closes s1) = true
  · rw [if_pos hc] at e
    rcases e1 : L.e s1 with ⟨c, s2⟩
    simp only [e1] at e
    rcases e2 : endS s2 with ⟨u, s3⟩
    simp only [e2] at e
    have n3 := gb (gr_add _) e n
    have n2 := gb gr_endS e2 n3
    have n1 := gb g.e e1 n2
    simp only [Bool.and_eq_true, Bool.not_eq_true', decide_eq_false_iff_not] at hc
    exact ⟨T, s1, ⟨e0, n1⟩, .inl ⟨hc.1.1, hc.1.2, hc.2, c, s2, u, s3, ⟨e1, n2⟩, ⟨e2, n3⟩, ⟨e, n⟩⟩⟩
  · rw [if_neg hc] at e
    rcases e2 : endS s1 with ⟨u, s2⟩
    simp only [e2] at e
    have n2 := gb (gr_add _) e n
    have n1 := gb gr_endS e2 n2
    refine ⟨T, s1, ⟨e0, n1⟩, .inr ⟨?_, u, s2, ⟨e2, n2⟩, ⟨e, n⟩⟩⟩
    cases hl : (nxt s1).ln
    · by_cases hm : Ps.mark s1 = [59]
      · exact .inr (.inl ⟨rfl, hm⟩)
      · refine .inr (.inr ⟨rfl, hm, ?_⟩)
        rw [hl] at hc
        simpa [hm] using hc
    · exact .inl rfl
open Ps in
theorem ifS_ru {L : Lv} (g : GrL L) {s s' : Ps.St} {r : Nat} (h : Ru (ifS L) s r s') : ∃ T s1 c s2 y s3 b s4, Ru skip s T s1 ∧ Ru (inParens L) s1 c s2 ∧ Ru (inner L) s2 y s3 ∧ Ru (take [101, 108, 115, 101]) s3 b s4 ∧ ((b = true ∧ ∃ z s5, Ru (inner L) s4 z s5 ∧ Ru (add { k := 26, a := T.a, kids := [c, y, z] }) s5 r s') ∨ (b = false ∧ Ru (add { k := 26, a := T.a, kids := [c, y] }) s4 r s')) := by
  obtain ⟨e, n⟩ := h
  unfold ifS at e
  simp only [] at e
  rcases e0 : skip s with ⟨T, s1⟩
  simp only [e0] at e
  rcases e1 : inParens L s1 with ⟨c, s2⟩
  simp only [e1] at e
  rcases e2 : inner L s2 with ⟨y, s3⟩
  simp only [e2] at e
  rcases e3 : take [101, 108, 115, 101] s3 with ⟨b, s4⟩
  simp only [e3] at e
  have gt : Gr (take [101, 108, 115, 101]) := fun s => Nat.le_of_eq (by rw [take_n])
  cases b
  · simp only at e
    have n4 := gb (gr_add _) e n
    have n3 := gb gt e3 n4
    have n2 := gb (gr_inner g) e2 n3
    have n1 := gb (gr_inParens g) e1 n2
    exact ⟨T, s1, c, s2, y, s3, false, s4, ⟨e0, n1⟩, ⟨e1, n2⟩, ⟨e2, n3⟩, ⟨e3, n4⟩, .inr ⟨rfl, e, n⟩⟩
  · simp only at e
    rcases e5 : inner L s4 with ⟨z, s5⟩
    simp only [e5] at e
    have n5 := gb (gr_add _) e n
    have n4 := gb (gr_inner g) e5 n5
    have n3 := gb gt e3 n4
    have n2 := gb (gr_inner g) e2 n3
    have n1 := gb (gr_inParens g) e1 n2
    exact ⟨T, s1, c, s2, y, s3, true, s4, ⟨e0, n1⟩, ⟨e1, n2⟩, ⟨e2, n3⟩, ⟨e3, n4⟩, .inl ⟨rfl, z, s5, ⟨e5, n5⟩, ⟨e, n⟩⟩⟩
section
variable {F : Nat → Prop} {base B dep : Nat} {L : Ps.Lv} {s s' : Ps.St} {nv : Value} {w : World} {r : Nat}
set_option maxRecDepth 100000 in
set_option maxHeartbeats 2000000 in
theorem c_tryS (hL : ∀ F, LvC F base B dep L) (hS : Ps.ShL L) (E : Ru (Ps.tryS L) s r s') (h : RS F base B dep s nv w) : Calls Tryz.prog 84 #[.pointer (some ⟨B, 0, none⟩)] w (Tells F base B dep nv w s' (.int .i64 (r : Int))) := by
  obtain ⟨⟨tk, tt, tn, ta, tl, te⟩, s1, c, s2, u, s3, u2, s4, t, s5, u3, s6, d, s7, E1, E2, E3, E4, E5, E6, E7, E8⟩ := tryS_ru (hL F).gr E
  have hfl := run_field3
  clear E
  go_enter Tryz.func84, Tryz.ntmps84
  go_wp2_with fail
  refine Calls.mono (c_skip E1 h) ?_
  rintro e w1 ⟨rfl, nv1, hr1, hc1⟩
  have HC1 : Hid (_) := hc1
  clear hc1
  simp only [tkA] at *
  obtain ⟨hr1b, hcx, hX⟩ := hr1.box (.int .i64 32) (.int .i64 0) (.string ⟨#[]⟩) (.slice none 0 0) (.slice none 0 0) (.int .i64 (ta : Int))
  have HC1b : Hid (_) := HC1.out.trans hcx
  have HX1b : Hid (_) := hX
  have HS : Hid (w.heap.size ≤ w1.heap.size) := HC1.out.size
  clear hcx hX
  go_wp2_with fail
  refine Calls.mono (c_block hL hS E2 hr1b) ?_
  rintro e w2 ⟨rfl, nv2, hr2, hc2⟩
  have HX2 : Hid (_) := HX1b.out.go hr1b hc2
  have HC2 : Hid (_) := HC1b.out.trans hc2
  clear hc2
  go_wp2_with fail
  refine Calls.mono (c_want (m := [99, 97, 116, 99, 104]) E3 hr2) ?_
  rintro e w3 ⟨rfl, nv3, hr3, hc3⟩
  have HX3 : Hid (_) := HX2.out.go hr2 hc3
  have HC3 : Hid (_) := HC2.out.trans hc3
  clear hc3
  go_wp2_with fail
  refine Calls.mono (c_want (m := [40]) E4 hr3) ?_
  rintro e w4 ⟨rfl, nv4, hr4, hc4⟩
  have HX4 : Hid (_) := HX3.out.go hr3 hc4
  have HC4 : Hid (_) := HC3.out.trans hc4
  clear hc4
  go_wp2_with fail
  refine Calls.mono (c_name E5 hr4) ?_
  rintro e w5 ⟨rfl, nv5, hr5, hc5⟩
  have HX5 : Hid (_) := HX4.out.go hr4 hc5
  have HC5 : Hid (_) := HC4.out.trans hc5
  clear hc5
  obtain ⟨⟨p0, p1, p2, p3, p4, p5⟩, ⟨f1, f2, f3, f4⟩, hlt⟩ := HX5.out.facts
  have HX5s : Hid (_) := HX5.out.set2 (.string ⟨t.toArray⟩)
  have hr5s := hr5.foreign HX5.out.far 2 (.string ⟨t.toArray⟩)
  have HC5s : Hid (_) := HC5.out.setX HS.out 2 (.string ⟨t.toArray⟩)
  go_wp2_with fail
  refine Calls.mono (c_want (m := [41]) E6 hr5s) ?_
  rintro e w6 ⟨rfl, nv6, hr6, hc6⟩
  clear p0 p1 p2 p3 p4 p5 f1 f2 f3 f4 hlt
  have HX6 : Hid (_) := HX5s.out.go hr5s hc6
  have HC6 : Hid (_) := HC5s.out.trans hc6
  clear hc6
  go_wp2_with fail
  refine Calls.mono (c_block hL hS E7 hr6) ?_
  rintro e w7 ⟨rfl, nv7, hr7, hc7⟩
  have HX7 : Hid (_) := HX6.out.go hr6 hc7
  have HC7 : Hid (_) := HC6.out.trans hc7
  clear hc7
  have HK_7l : Hid (_) := KV.lit hr7 [c, d] #[.int .i64 (c : Int), .int .i64 (d : Int)] 2 rfl (fun j hj => by
    have : j = 0 ∨ j = 1 := by simp at hj; omega
    rcases this with rfl | rfl <;> rfl)
  have hb : Below w7.heap.size w7 (w7.alloc (.cells #[.int .i64 (c : Int), .int .i64 (d : Int)] 3)) := (Below.refl _ _).alloc (Nat.le_refl _) _
  have hr7l := hr7.below hb
  have HC7l : Hid (_) := HC7.out.trans (Chg.below nv7 hb)
  have HX7l : Hid (_) := HX7.out.alloc (.cells #[.int .i64 (c : Int), .int .i64 (d : Int)] 3)
  clear hb
  obtain ⟨⟨p0, p1, p2, p3, p4, p5⟩, ⟨f1, f2, f3, f4⟩, hlt⟩ := HX7l.out.facts
  have HX7ls : Hid (_) := HX7l.out.set4 (.slice (some ⟨w7.heap.size, 0, none⟩) 2 2)
  have hr7ls := hr7l.foreign HX7l.out.far 4 (.slice (some ⟨w7.heap.size, 0, none⟩) 2 2)
  have HC7ls : Hid (_) := HC7l.out.setX HS.out 4 (.slice (some ⟨w7.heap.size, 0, none⟩) 2 2)
  have HK_7ls : Hid (_) := HK_7l.out.set HX7l.out.far 4 (.slice (some ⟨w7.heap.size, 0, none⟩) 2 2)
  obtain ⟨⟨q0, q1, q2, q3, q4, q5⟩, _, _⟩ := HX7ls.out.facts
  clear q0 q1 q2 q3 q4 q5
  go_wp2_with fail
  refine Calls.mono (c_addV E8 hr7ls (NV.nil _ _ _ _) HK_7ls.out) ?_
  rintro e w8 ⟨rfl, nv8, hr8, hc8⟩
  have HX8 : Hid (_) := HX7ls.out.go hr7ls hc8
  have HK_8 : Hid (_) := HK_7ls.out.go hc8
  have HC8 : Hid (_) := HC7ls.out.trans hc8
  clear hc8
  go_wp2_with fail
  go_ret
  exact ⟨rfl, nv8, hr8.less (fun k hk => .inl hk), HC8.out⟩
set_option maxRecDepth 100000 in
set_option maxHeartbeats 2000000 in
theorem c_returnS (hL : ∀ F, LvC F base B dep L) (E : Ru (Ps.returnS L) s r s') (h : RS F base B dep s nv w) : Calls Tryz.prog 82 #[.pointer (some ⟨B, 0, none⟩)] w (Tells F base B dep nv w s' (.int .i64 (r : Int))) := by
  obtain ⟨⟨tk, tt, tn, ta, tl, te⟩, s1, E1, E2⟩ := returnS_ru (hL F).gr E
  have hfl := run_field3
  have hfl4 := run_field4
  have HN : Hid (∀ F nv w, RS F base B dep s1 nv w → _) := fun F nv w h => c_next (F := F) (w := w) (nv := nv) h
  have HM : Hid (∀ F nv w, RS F base B dep s1 nv w → _) := fun F nv w h => c_mark (F := F) (w := w) (nv := nv) h
  have HL : Hid (∀ F nv w, RS F base B dep s1 nv w → _) := fun F nv w h => c_closes (F := F) (w := w) (nv := nv) h
  clear E
  rcases eT : Ps.nxt s1 with ⟨uk, ut, un, ua, ul, ue⟩
  rw [eT] at HN E2
  simp only [tkA] at HN E2
  generalize Ps.mark s1 = mk at *
  generalize Ps.closes s1 = cl at *
  clear eT
  rcases E2 with ⟨rfl, hm, rfl, c, s2, u, s3, E2, E3, E4⟩ | ⟨rfl | ⟨rfl, rfl⟩ | ⟨rfl, hm, rfl⟩, u, s2, E2, E3⟩
  · have hm' : (mk == [59]) = false := by simpa using hm
    go_enter Tryz.func82, Tryz.ntmps82
    go_wp2_with fail
    refine Calls.mono (c_skip E1 h) ?_
    rintro e w1 ⟨rfl, nv1, hr1, hc1⟩
    have HC1 : Hid (_) := hc1
    clear hc1
    simp only [tkA] at *
    obtain ⟨hr1b, hcx, hX⟩ := hr1.box (.int .i64 30) (.int .i64 0) (.string ⟨#[]⟩) (.slice none 0 0) (.slice none 0 0) (.int .i64 (ta : Int))
    have HC1b : Hid (_) := HC1.out.trans hcx
    have HX1b : Hid (_) := hX
    have HS : Hid (w.heap.size ≤ w1.heap.size) := HC1.out.size
    clear hcx hX
    go_wp2_with fail
    refine Calls.mono (HN.out _ _ _ hr1b) ?_
    rintro e w2 ⟨rfl, nv2, hr2, hc2⟩
    have HX2 : Hid (_) := HX1b.out.go hr1b hc2
    have HC2 : Hid (_) := HC1b.out.trans hc2
    clear hc2
    go_wp2_with fail
    refine Calls.mono (HM.out _ _ _ hr2) ?_
    rintro e w3 ⟨rfl, nv3, hr3, hc3⟩
    have HX3 : Hid (_) := HX2.out.go hr2 hc3
    have HC3 : Hid (_) := HC2.out.trans hc3
    clear hc3
    go_wp2_with fail
    refine Calls.mono (HL.out _ _ _ hr3) ?_
    rintro e w4 ⟨rfl, nv4, hr4, hc4⟩
    have HX4 : Hid (_) := HX3.out.go hr3 hc4
    have HC4 : Hid (_) := HC3.out.trans hc4
    clear hc4
    go_wp2_with fail
    refine Calls.mono (c_e hL E2 hr4) ?_
    rintro e w5 ⟨rfl, nv5, hr5, hc5⟩
    have HX5 : Hid (_) := HX4.out.go hr4 hc5
    have HC5 : Hid (_) := HC4.out.trans hc5
    clear hc5
    have HK_5l : Hid (_) := KV.lit hr5 [c] #[.int .i64 (c : Int)] 1 rfl (fun j hj => by
      have : j = 0 := by simpa using hj
      subst this; rfl)
    have hb : Below w5.heap.size w5 (w5.alloc (.cells #[.int .i64 (c : Int)] 3)) := (Below.refl _ _).alloc (Nat.le_refl _) _
    have hr5l := hr5.below hb
    have HC5l : Hid (_) := HC5.out.trans (Chg.below nv5 hb)
    have HX5l : Hid (_) := HX5.out.alloc (.cells #[.int .i64 (c : Int)] 3)
    clear hb
    obtain ⟨⟨p0, p1, p2, p3, p4, p5⟩, ⟨f1, f2, f3, f4⟩, hlt⟩ := HX5l.out.facts
    have HX5ls : Hid (_) := HX5l.out.set4 (.slice (some ⟨w5.heap.size, 0, none⟩) 1 1)
    have hr5ls := hr5l.foreign HX5l.out.far 4 (.slice (some ⟨w5.heap.size, 0, none⟩) 1 1)
    have HC5ls : Hid (_) := HC5l.out.setX HS.out 4 (.slice (some ⟨w5.heap.size, 0, none⟩) 1 1)
    have HK_5ls : Hid (_) := HK_5l.out.set HX5l.out.far 4 (.slice (some ⟨w5.heap.size, 0, none⟩) 1 1)
    go_wp2_with fail
    refine Calls.mono (c_endS E3 hr5ls) ?_
    rintro e w6 ⟨rfl, nv6, hr6, hc6⟩
    clear p0 p1 p2 p3 p4 p5 f1 f2 f3 f4 hlt
    have HX6 : Hid (_) := HX5ls.out.go hr5ls hc6
    have HK_6 : Hid (_) := HK_5ls.out.go hc6
    have HC6 : Hid (_) := HC5ls.out.trans hc6
    clear hc6
    obtain ⟨⟨p0, p1, p2, p3, p4, p5⟩, ⟨f1, f2, f3, f4⟩, hlt⟩ := HX6.out.facts
    go_wp2_with fail
    refine Calls.mono (c_addV E4 hr6 (NV.nil _ _ _ _) HK_6.out) ?_
    rintro e w7 ⟨rfl, nv7, hr7, hc7⟩
    clear p0 p1 p2 p3 p4 p5 f1 f2 f3 f4 hlt
    have HX7 : Hid (_) := HX6.out.go hr6 hc7
    have HK_7 : Hid (_) := HK_6.out.go hc7
    have HC7 : Hid (_) := HC6.out.trans hc7
    clear hc7
    go_wp2_with fail
    go_ret
    exact ⟨rfl, nv7, hr7.less (fun k hk => .inl hk), HC7.out⟩
  · go_enter Tryz.func82, Tryz.ntmps82
    go_wp2_with fail
    refine Calls.mono (c_skip E1 h) ?_
    rintro e w1 ⟨rfl, nv1, hr1, hc1⟩
    have HC1 : Hid (_) := hc1
    clear hc1
    simp only [tkA] at *
    obtain ⟨hr1b, hcx, hX⟩ := hr1.box (.int .i64 30) (.int .i64 0) (.string ⟨#[]⟩) (.slice none 0 0) (.slice none 0 0) (.int .i64 (ta : Int))
    have HC1b : Hid (_) := HC1.out.trans hcx
    have HX1b : Hid (_) := hX
    have HS : Hid (w.heap.size ≤ w1.heap.size) := HC1.out.size
    clear hcx hX
    go_wp2_with fail
    refine Calls.mono (HN.out _ _ _ hr1b) ?_
    rintro e w2 ⟨rfl, nv2, hr2, hc2⟩
    have HX2 : Hid (_) := HX1b.out.go hr1b hc2
    have HC2 : Hid (_) := HC1b.out.trans hc2
    clear hc2
    go_wp2_with fail
    refine Calls.mono (c_endS E2 hr2) ?_
    rintro e w3 ⟨rfl, nv3, hr3, hc3⟩
    have HX3 : Hid (_) := HX2.out.go hr2 hc3
    have HC3 : Hid (_) := HC2.out.trans hc3
    clear hc3
    obtain ⟨⟨p0, p1, p2, p3, p4, p5⟩, ⟨f1, f2, f3, f4⟩, hlt⟩ := HX3.out.facts
    go_wp2_with fail
    refine Calls.mono (c_addV E3 hr3 (NV.nil _ _ _ _) (KV.nil _ _ _ _)) ?_
    rintro e w4 ⟨rfl, nv4, hr4, hc4⟩
    clear p0 p1 p2 p3 p4 p5 f1 f2 f3 f4 hlt
    have HX4 : Hid (_) := HX3.out.go hr3 hc4
    have HC4 : Hid (_) := HC3.out.trans hc4
    clear hc4
    go_wp2_with fail
    go_ret
    exact ⟨rfl, nv4, hr4.less (fun k hk => .inl hk), HC4.out⟩
  · go_enter Tryz.func82, Tryz.ntmps82
    go_wp2_with fail
    refine Calls.mono (c_skip E1 h) ?_
    rintro e w1 ⟨rfl, nv1, hr1, hc1⟩
    have HC1 : Hid (_) := hc1
    clear hc1
    simp only [tkA] at *
    obtain ⟨hr1b, hcx, hX⟩ := hr1.box (.int .i64 30) (.int .i64 0) (.string ⟨#[]⟩) (.slice none 0 0) (.slice none 0 0) (.int .i64 (ta : Int))
    have HC1b : Hid (_) := HC1.out.trans hcx
    have HX1b : Hid (_) := hX
    have HS : Hid (w.heap.size ≤ w1.heap.size) := HC1.out.size
    clear hcx hX
    go_wp2_with fail
    refine Calls.mono (HN.out _ _ _ hr1b) ?_
    rintro e w2 ⟨rfl, nv2, hr2, hc2⟩
    have HX2 : Hid (_) := HX1b.out.go hr1b hc2
    have HC2 : Hid (_) := HC1b.out.trans hc2
    clear hc2
    go_wp2_with fail
    refine Calls.mono (HM.out _ _ _ hr2) ?_
    rintro e w3 ⟨rfl, nv3, hr3, hc3⟩
    have HX3 : Hid (_) := HX2.out.go hr2 hc3
    have HC3 : Hid (_) := HC2.out.trans hc3
    clear hc3
    go_wp2_with fail
    refine Calls.mono (c_endS E2 hr3) ?_
    rintro e w4 ⟨rfl, nv4, hr4, hc4⟩
    have HX4 : Hid (_) := HX3.out.go hr3 hc4
    have HC4 : Hid (_) := HC3.out.trans hc4
    clear hc4
    obtain ⟨⟨p0, p1, p2, p3, p4, p5⟩, ⟨f1, f2, f3, f4⟩, hlt⟩ := HX4.out.facts
    go_wp2_with fail
    refine Calls.mono (c_addV E3 hr4 (NV.nil _ _ _ _) (KV.nil _ _ _ _)) ?_
    rintro e w5 ⟨rfl, nv5, hr5, hc5⟩
    clear p0 p1 p2 p3 p4 p5 f1 f2 f3 f4 hlt
    have HX5 : Hid (_) := HX4.out.go hr4 hc5
    have HC5 : Hid (_) := HC4.out.trans hc5
    clear hc5
    go_wp2_with fail
    go_ret
    exact ⟨rfl, nv5, hr5.less (fun k hk => .inl hk), HC5.out⟩
  · have hm' : (mk == [59]) = false := by simpa using hm
    go_enter Tryz.func82, Tryz.ntmps82
    go_wp2_with fail
    refine Calls.mono (c_skip E1 h) ?_
    rintro e w1 ⟨rfl, nv1, hr1, hc1⟩
    have HC1 : Hid (_) := hc1
    clear hc1
    simp only [tkA] at *
    obtain ⟨hr1b, hcx, hX⟩ := hr1.box (.int .i64 30) (.int .i64 0) (.string ⟨#[]⟩) (.slice none 0 0) (.slice none 0 0) (.int .i64 (ta : Int))
    have HC1b : Hid (_) := HC1.out.trans hcx
    have HX1b : Hid (_) := hX
    have HS : Hid (w.heap.size ≤ w1.heap.size) := HC1.out.size
    clear hcx hX
    go_wp2_with fail
    refine Calls.mono (HN.out _ _ _ hr1b) ?_
    rintro e w2 ⟨rfl, nv2, hr2, hc2⟩
    have HX2 : Hid (_) := HX1b.out.go hr1b hc2
    have HC2 : Hid (_) := HC1b.out.trans hc2
    clear hc2
    go_wp2_with fail
    refine Calls.mono (HM.out _ _ _ hr2) ?_
    rintro e w3 ⟨rfl, nv3, hr3, hc3⟩
    have HX3 : Hid (_) := HX2.out.go hr2 hc3
    have HC3 : Hid (_) := HC2.out.trans hc3
    clear hc3
    go_wp2_with fail
    refine Calls.mono (HL.out _ _ _ hr3) ?_
    rintro e w4 ⟨rfl, nv4, hr4, hc4⟩
    have HX4 : Hid (_) := HX3.out.go hr3 hc4
    have HC4 : Hid (_) := HC3.out.trans hc4
    clear hc4
    go_wp2_with fail
    refine Calls.mono (c_endS E2 hr4) ?_
    rintro e w5 ⟨rfl, nv5, hr5, hc5⟩
    have HX5 : Hid (_) := HX4.out.go hr4 hc5
    have HC5 : Hid (_) := HC4.out.trans hc5
    clear hc5
    obtain ⟨⟨p0, p1, p2, p3, p4, p5⟩, ⟨f1, f2, f3, f4⟩, hlt⟩ := HX5.out.facts
    go_wp2_with fail
    refine Calls.mono (c_addV E3 hr5 (NV.nil _ _ _ _) (KV.nil _ _ _ _)) ?_
    rintro e w6 ⟨rfl, nv6, hr6, hc6⟩
    clear p0 p1 p2 p3 p4 p5 f1 f2 f3 f4 hlt
    have HX6 : Hid (_) := HX5.out.go hr5 hc6
    have HC6 : Hid (_) := HC5.out.trans hc6
    clear hc6
    go_wp2_with fail
    go_ret
    exact ⟨rfl, nv6, hr6.less (fun k hk => .inl hk), HC6.out⟩
set_option maxRecDepth 100000 in
set_option maxHeartbeats 2000000 in
theorem c_ifS (hL : ∀ F, LvC F base B dep L) (E : Ru (Ps.ifS L) s r s') (h : RS F base B dep s nv w) : Calls Tryz.prog 79 #[.pointer (some ⟨B, 0, none⟩)] w (Tells F base B dep nv w s' (.int .i64 (r : Int))) := by
  obtain ⟨⟨tk, tt, tn, ta, tl, te⟩, s1, c, s2, y, s3, b, s4, E1, E2, E3, E4, E5⟩ := ifS_ru (hL F).gr E
  have hfl := run_field3
  have H : Hid (_) := h
  clear E
  rcases E5 with ⟨rfl, z, s5, E5, E6⟩ | ⟨rfl, E5⟩
  · go_enter Tryz.func79, Tryz.ntmps79
    go_wp2_with fail
    refine Calls.mono (c_skip E1 h) ?_
    rintro e w1 ⟨rfl, nv1, hr1, hc1⟩
    have HC1 : Hid (_) := hc1
    clear hc1
    simp only [tkA] at *
    go_wp2_with fail
    refine Calls.mono (c_inParens hL E2 hr1) ?_
    rintro e w2 ⟨rfl, nv2, hr2, hc2⟩
    have HC2 : Hid (_) := HC1.out.trans hc2
    clear hc2
    go_wp2_with fail
    refine Calls.mono (c_inner hL E3 hr2) ?_
    rintro e w3 ⟨rfl, nv3, hr3, hc3⟩
    have HC3 : Hid (_) := HC2.out.trans hc3
    clear hc3
    have HKO : Hid (KO F base B dep s3 nv3 w (w3.alloc (.cells #[.int .i64 (c : Int), .int .i64 (y : Int)] 3)) 3 (.slice (some ⟨w3.heap.size, 0, none⟩) [c, y].length 2) [c, y].length (kc [c, y])) := KO.lit (w0 := w) (e := 3) hr3 HC3.out.size #[.int .i64 (c : Int), .int .i64 (y : Int)] 2 rfl (by omega)
    have HC3l : Hid (_) := HC3.out.alloc (.cells #[.int .i64 (c : Int), .int .i64 (y : Int)] 3)
    clear hr1 hr2 hr3 HC1 HC2
    go_wp2_with fail
    refine Calls.mono (c_take (m := [101, 108, 115, 101]) E4 HKO.out.rs) ?_
    rintro e w4 ⟨rfl, nv4, hr4, hc4⟩
    have HKO4 : Hid (_) := HKO.out.go hr4 hc4
    have HC4 : Hid (_) := HC3l.out.trans hc4
    clear hr4 hc4
    go_wp2_with fail
    refine Calls.mono (c_inner hL E5 HKO4.out.rs) ?_
    rintro e w5 ⟨rfl, nv5, hr5, hc5⟩
    obtain ⟨a6, cap6, w6, hap, hko6, hc6⟩ := (HKO4.out.go hr5 hc5).kid z (by simp)
    have HRn : Hid (_) := hap
    have HE : Hid (_) := hko6.kv H.out
    have HC6 : Hid (_) := hc6 _ (HC4.out.trans hc5)
    clear hr5 hc5 hap hko6 hc6 HKO HKO4 HC4 HC3l HC3
    simp only [List.length_cons, List.length_nil, Nat.zero_add, Nat.reduceAdd] at HRn HE
    go_wp2_with (at_builtin; refine wpList_append_run _ _ 41 rfl rfl _ _ _ _ rfl rfl HRn.out ?_)
    refine Calls.mono (c_addV E6 HE.out.1 (NV.nil _ _ _ _) HE.out.2) ?_
    rintro e w7 ⟨rfl, nv7, hr7, hc7⟩
    go_wp2_with fail
    go_ret
    exact ⟨rfl, nv7, hr7, HC6.out.trans hc7⟩
  · go_enter Tryz.func79, Tryz.ntmps79
    go_wp2_with fail
    refine Calls.mono (c_skip E1 h) ?_
    rintro e w1 ⟨rfl, nv1, hr1, hc1⟩
    have HC1 : Hid (_) := hc1
    clear hc1
    simp only [tkA] at *
    go_wp2_with fail
    refine Calls.mono (c_inParens hL E2 hr1) ?_
    rintro e w2 ⟨rfl, nv2, hr2, hc2⟩
    have HC2 : Hid (_) := HC1.out.trans hc2
    clear hc2
    go_wp2_with fail
    refine Calls.mono (c_inner hL E3 hr2) ?_
    rintro e w3 ⟨rfl, nv3, hr3, hc3⟩
    have HC3 : Hid (_) := HC2.out.trans hc3
    clear hc3
    have HK_3l : Hid (_) := KV.lit hr3 [c, y] #[.int .i64 (c : Int), .int .i64 (y : Int)] 2 rfl (fun j hj => by
      have : j = 0 ∨ j = 1 := by simp at hj; omega
      rcases this with rfl | rfl <;> rfl)
    have hb : Below w3.heap.size w3 (w3.alloc (.cells #[.int .i64 (c : Int), .int .i64 (y : Int)] 3)) := (Below.refl _ _).alloc (Nat.le_refl _) _
    have hr3l := hr3.below hb
    have HC3l : Hid (_) := HC3.out.trans (Chg.below nv3 hb)
    clear hb
    go_wp2_with fail
    refine Calls.mono (c_take (m := [101, 108, 115, 101]) E4 hr3l) ?_
    rintro e w4 ⟨rfl, nv4, hr4, hc4⟩
    have HK_4 : Hid (_) := HK_3l.out.go hc4
    have HC4 : Hid (_) := HC3l.out.trans hc4
    clear hc4
    go_wp2_with fail
    refine Calls.mono (c_addV E5 hr4 (NV.nil _ _ _ _) HK_4.out) ?_
    rintro e w5 ⟨rfl, nv5, hr5, hc5⟩
    have HK_5 : Hid (_) := HK_4.out.go hc5
    have HC5 : Hid (_) := HC4.out.trans hc5
    clear hc5
    go_wp2_with fail
    go_ret
    exact ⟨rfl, nv5, hr5, HC5.out⟩
end
end Go.Proofs.YtpjmapoiinjakaaGreatDoor.R
end
