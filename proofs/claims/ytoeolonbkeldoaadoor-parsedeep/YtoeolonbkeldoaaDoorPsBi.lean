/- The parser's let by its contract. -/
import Derived.Test.YtoeolonbkeldoaaDoorPsB
namespace Go.Proofs.YtoeolonbkeldoaaDoor.R
open Go.RowKit
open L (tkA intOf wpList_append_run)
set_option linter.unusedVariables false
section
variable {F : Nat → Prop} {base B dep : Nat} {L : Ps.Lv} {s s' : Ps.St} {nv : Value} {w : World} {r : Nat}
set_option maxRecDepth 100000 in
set_option maxHeartbeats 2000000 in
theorem c_binding {k : Nat} (hL : ∀ F, LvC F base B dep L) (E : Ru (Ps.binding L k) s r s') (h : RS F base B dep s nv w) : Calls Tryd.prog 54 #[.pointer (some ⟨B, 0, none⟩), .int .i64 (k : Int)] w (Tells F base B dep nv w s' (.int .i64 (r : Int))) := by
  obtain ⟨⟨tk, tt, tn, ta, tl, te⟩, s1, t, s2, u, s3, c, s4, u', s5, E1, E2, E3, E4, E5, E6⟩ := binding_ru (hL F).gr E
  have hfl := run_field3
  have H : Hid (_) := h
  clear E
  go_enter Tryd.func54, Tryd.ntmps54
  go_wp2_with fail
  refine Calls.mono (c_skip E1 h) ?_
  rintro e w1 ⟨rfl, nv1, hr1, hc1⟩
  simp only [tkA] at *
  obtain ⟨hrx, hcx, hX⟩ := hr1.box (.int .i64 (k : Int)) (.int .i64 0) (.string ⟨#[]⟩) (.slice none 0 0) (.slice none 0 0) (.int .i64 (ta : Int))
  have HC1 : Hid (_) := hc1.trans hcx
  have HX : Hid (_) := hX
  have HRX : Hid (_) := hrx
  have HS1 : Hid (w.heap.size ≤ w1.heap.size) := hc1.size
  clear hrx hcx hX hc1 hr1 h
  go_wp2_with fail
  refine Calls.mono (c_name E2 HRX.out) ?_
  rintro e w2 ⟨rfl, nv2, hr2, hc2⟩
  have hX2 := HX.out.go HRX.out hc2
  obtain ⟨⟨p0, p1, p2, p3, p4, p5⟩, ⟨f1, f2, f3, f4⟩, hlt⟩ := hX2.facts
  have HX2 : Hid (_) := hX2.set2 (.string ⟨t.toArray⟩)
  have HR2 : Hid (_) := hr2.foreign hX2.far 2 (.string ⟨t.toArray⟩)
  have HC2 : Hid (_) := (HC1.out.trans hc2).setX HS1.out 2 (.string ⟨t.toArray⟩)
  clear hX2 hr2 hc2 HC1 HX HRX
  go_wp2_with fail
  refine Calls.mono (c_want (m := [61]) E3 HR2.out) ?_
  rintro e w3 ⟨rfl, nv3, hr3, hc3⟩
  have HX3 : Hid (_) := HX2.out.go HR2.out hc3
  have HC3 : Hid (_) := HC2.out.trans hc3
  clear p0 p1 p2 p3 p4 p5 f1 f2 f3 f4 hlt HX2 HC2 hc3 HR2
  go_wp2_with fail
  refine Calls.mono (c_e hL E4 hr3) ?_
  rintro e w4 ⟨rfl, nv4, hr4, hc4⟩
  have hX4 := (HX3.out.go hr3 hc4).alloc (.cells #[.int .i64 (c : Int)] 3)
  have hk4 := KV.lit hr4 [c] #[.int .i64 (c : Int)] 1 rfl (fun j hj => by
    have : j = 0 := by simpa using hj
    subst this; rfl)
  have hb4 : Below w4.heap.size w4 (w4.alloc (.cells #[.int .i64 (c : Int)] 3)) := (Below.refl _ _).alloc (Nat.le_refl _) _
  obtain ⟨⟨p0, p1, p2, p3, p4, p5⟩, ⟨f1, f2, f3, f4⟩, hlt⟩ := hX4.facts
  have HX4 : Hid (_) := hX4.set4 (.slice (some ⟨w4.heap.size, 0, none⟩) 1 1)
  have HR4 : Hid (_) := (hr4.below hb4).foreign hX4.far 4 (.slice (some ⟨w4.heap.size, 0, none⟩) 1 1)
  have HK4 : Hid (_) := hk4.set hX4.far 4 (.slice (some ⟨w4.heap.size, 0, none⟩) 1 1)
  have HC4 : Hid (_) := ((HC3.out.trans hc4).trans (Chg.below nv4 hb4)).setX HS1.out 4 (.slice (some ⟨w4.heap.size, 0, none⟩) 1 1)
  clear hX4 hk4 hb4 hr4 hc4 HX3 HC3 hr3
  go_wp2_with fail
  refine Calls.mono (c_endS E5 HR4.out) ?_
  rintro e w5 ⟨rfl, nv5, hr5, hc5⟩
  have hX5 := HX4.out.go HR4.out hc5
  have HK5 : Hid (_) := HK4.out.go hc5
  have HC5 : Hid (_) := HC4.out.trans hc5
  clear p0 p1 p2 p3 p4 p5 f1 f2 f3 f4 hlt
  obtain ⟨⟨p0, p1, p2, p3, p4, p5⟩, ⟨f1, f2, f3, f4⟩, hlt⟩ := hX5.facts
  clear hX5 HX4 HR4 HK4 HC4 hc5
  go_wp2_with fail
  refine Calls.mono (c_addV E6 hr5 (NV.nil _ _ _ _) HK5.out) ?_
  rintro e w6 ⟨rfl, nv6, hr6, hc6⟩
  clear p0 p1 p2 p3 p4 p5 f1 f2 f3 f4 hlt
  go_wp2_with fail
  go_ret
  exact ⟨rfl, nv6, hr6.less (fun k hk => .inl hk), HC5.out.trans hc6⟩
end
end Go.Proofs.YtoeolonbkeldoaaDoor.R
