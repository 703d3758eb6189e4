/- Texts: QH QI. -/
import Derived.Test.YtkaacmghgobhmaaBn08
import Derived.Deep.DeepCutAuto
import Derived.Deep.CutBlock
section
namespace Go.Proofs.Ytkaacmghgobhmaa.Rd
open Go.RowKit
open L (tkA own_block own_below intOf info_of size_list wpList_append_run)
set_option linter.unusedVariables false
section
variable {src : ByteArray} {F : Nat → Prop} {base B dep : Nat} {s s' : Rp.Rt} {nv : Value} {w : World}
theorem func_ru {L : Rp.Lr} {r : Nat} {named : Bool} (hP : LvP L) (E : Ru (Rp.func L named) s r s') : ∃ s1 b s2 t s3 s4 N s5 s6 s7 K s8 s9, Ru (up (Rp.must [102, 117, 110, 99, 116, 105, 111, 110])) s () s1 ∧ Ru (Rp.has [42]) s1 b s2 ∧ Ru (Rp.fname named) s2 t s3 ∧ Ru (up (Rp.must [40])) s3 () s4 ∧ Ru Rp.pars s4 N s5 ∧ Ru (up (Rp.must [41])) s5 () s6 ∧ Ru (up (Rp.must [123])) s6 () s7 ∧ Ru (Rp.list L false) s7 K s8 ∧ Ru (up (Rp.must [125])) s8 () s9 ∧ Ru (Rp.put { k := 10, n := if b then 1 else 0, t := t, names := N, kids := K, a := (Rp.nx s).a }) s9 r s' := by
  have e := E.eq
  have hsm := E.small
  generalize e1 : Rp.must [102, 117, 110, 99, 116, 105, 111, 110] s = s1
  rcases e2 : Rp.has [42] s1 with ⟨b, s2⟩
  rcases e3 : Rp.fname named s2 with ⟨t, s3⟩
  generalize e4 : Rp.must [40] s3 = s4
  rcases e5 : Rp.pars s4 with ⟨N, s5⟩
  generalize e6 : Rp.must [41] s5 = s6
  generalize e7 : Rp.must [123] s6 = s7
  rcases e8 : Rp.list L false s7 with ⟨K, s8⟩
  generalize e9 : Rp.must [125] s8 = s9
  have hf : Rp.func L named s = Rp.put { k := 10, n := if (Rp.has [42] (Rp.must [102, 117, 110, 99, 116, 105, 111, 110] s)).1 then 1 else 0, t := (Rp.fname named (Rp.has [42] (Rp.must [102, 117, 110, 99, 116, 105, 111, 110] s)).2).1, names := (Rp.pars (Rp.must [40] (Rp.fname named (Rp.has [42] (Rp.must [102, 117, 110, 99, 116, 105, 111, 110] s)).2).2)).1, kids := (Rp.body L (Rp.must [41] (Rp.pars (Rp.must [40] (Rp.fname named (Rp.has [42] (Rp.must [102, 117, 110, 99, 116, 105, 111, 110] s)).2).2)).2)).1, a := (Rp.nx s).a } (Rp.body L (Rp.must [41] (Rp.pars (Rp.must [40] (Rp.fname named (Rp.has [42] (Rp.must [102, 117, 110, 99, 116, 105, 111, 110] s)).2).2)).2)).2 := rfl
  have hb : ∀ x, Rp.body L x = ((Rp.list L false (Rp.must [123] x)).1, Rp.must [125] (Rp.list L false (Rp.must [123] x)).2) := fun x => rfl
  rw [hf] at e
  simp only [hb, e1, e2, e3, e4, e5, e6, e7, e8, e9] at e
  have R10 : Ru (Rp.put { k := 10, n := if b then 1 else 0, t := t, names := N, kids := K, a := (Rp.nx s).a }) s9 r s' := ⟨e, hsm⟩
  have n9 := R10.back (Rp.pre_len.put _)
  have R9 : Ru (up (Rp.must [125])) s8 () s9 := ⟨by unfold up; rw [e9], n9⟩
  have n8 := R9.back (kp_up (Rp.kp_must Rp.pre_len _))
  have R8 : Ru (Rp.list L false) s7 K s8 := ⟨e8, n8⟩
  have n7 := R8.back (Rp.kp_list Rp.pre_len hP.gr false)
  have R7 : Ru (up (Rp.must [123])) s6 () s7 := ⟨by unfold up; rw [e7], n7⟩
  have n6 := R7.back (kp_up (Rp.kp_must Rp.pre_len _))
  have R6 : Ru (up (Rp.must [41])) s5 () s6 := ⟨by unfold up; rw [e6], n6⟩
  have n5 := R6.back (kp_up (Rp.kp_must Rp.pre_len _))
  have R5 : Ru Rp.pars s4 N s5 := ⟨e5, n5⟩
  have n4 := R5.back (Rp.kp_pars Rp.pre_len)
  have R4 : Ru (up (Rp.must [40])) s3 () s4 := ⟨by unfold up; rw [e4], n4⟩
  have n3 := R4.back (kp_up (Rp.kp_must Rp.pre_len _))
  have R3 : Ru (Rp.fname named) s2 t s3 := ⟨e3, n3⟩
  have n2 := R3.back (Rp.kp_fname Rp.pre_len named)
  have R2 : Ru (Rp.has [42]) s1 b s2 := ⟨e2, n2⟩
  have n1 := R2.back (Rp.kp_has Rp.pre_len _)
  exact ⟨s1, b, s2, t, s3, s4, N, s5, s6, s7, K, s8, s9, ⟨by unfold up; rw [e1], n1⟩, R2, R3, R4, R5, R6, R7, R8, R9, R10⟩
/-- A function's box, at hand. -/
def FnS (src : ByteArray) (F : Nat → Prop) (base B dep : Nat) (nv0 : Value) (w W : World) (x1 x2 x5 : Value) (N : List (List UInt8)) (s : Rp.Rt) : Prop := ∃ nv na ncap, Bx src F base B dep s nv w W w.heap.size (.int .i64 10) x1 x2 x5 N na ncap [] none 0 ∧ Chg B nv0 nv w W
/-- What the walk is told behind the append of a name. -/
def ApN (src : ByteArray) (F : Nat → Prop) (base B dep : Nat) (nv0 : Value) (w : World) (x1 x2 x5 : Value) (N : List (List UInt8)) (s : Rp.Rt) (old v' : Value) (w3 : World) : Prop :=
  ∃ a' cap', v' = .slice a' (N.length) cap' ∧ w3.cell? ⟨w.heap.size, 3, none⟩ = some old ∧ w3.frozen? ⟨w.heap.size, 3, none⟩ = false ∧ w.heap.size < w3.heap.size ∧ Hid (FnS src F base B dep nv0 w (w3.setCell ⟨w.heap.size, 3, none⟩ (.slice a' N.length cap')) x1 x2 x5 N s)
/-- Where the loop of a function's names stands. -/
def FnL (src : ByteArray) (F : Nat → Prop) (base B dep : Nat) (nv0 : Value) (w W : World) (x1 x2 x5 : Value) (f : Nat) (N : List (List UInt8)) (s' : Rp.Rt) : Prop :=
  ∃ N1 q1, FnS src F base B dep nv0 w W x1 x2 x5 N1 q1 ∧ Rp.namesLoop f N1 q1 = (N, s') ∧ q1.toks.length ≤ f ∧ N1.length + f ≤ 100001
/-- A name is told beside the box, and put behind the others. -/
theorem name_step {x1 x2 x5 : Value} {N : List (List UInt8)} {na : Option Addr} {ncap : Nat} {nv0 : Value} {W : World} {t : List UInt8} (R : Ru Rp.rname s t s') (h : Bx src F base B dep s nv w W w.heap.size (.int .i64 10) x1 x2 x5 N na ncap [] none 0) (hc : Chg B nv0 nv w W) (hn : N.length + 1 ≤ 1000000) :
    (∀ W1, Below W.heap.size W W1 → Calls Try.prog 63 #[.pointer (some ⟨B, 0, none⟩)] W1 fun e w' => e = .returned (.string ⟨t.toArray⟩) ∧ w'.cell? ⟨w.heap.size, 3, none⟩ = some (.slice na N.length ncap) ∧ w.heap.size < w'.heap.size ∧ Hid (∃ nv', Bx src F base B dep s' nv' w w' w.heap.size (.int .i64 10) x1 x2 x5 N na ncap [] none 0 ∧ Chg B nv0 nv' w w')) ∧
    (∀ W1, Hid (∃ nv', Bx src F base B dep s' nv' w W1 w.heap.size (.int .i64 10) x1 x2 x5 N na ncap [] none 0 ∧ Chg B nv0 nv' w W1) → ∃ v' w3, (Builtin.append_ #[35, 35] 35 #[.slice na N.length ncap, .slice (some ⟨W1.heap.size, 0, none⟩) 1 1]).run Try.prog (W1.alloc (.cells #[.string ⟨t.toArray⟩] 9)) = .ok v' w3 ∧ ApN src F base B dep nv0 w x1 x2 x5 (N ++ [t]) s' (.slice na N.length ncap) v' w3) := by
  refine ⟨fun W1 hW => ?_, fun W1 hW => ?_⟩
  · have hb := h.go (h.rs.below hW) (Chg.below nv hW)
    refine (c_name R hb.rs).mono ?_
    rintro e w' ⟨rfl, nv', hr', hc'⟩
    have hb' := hb.go hr' hc'
    obtain ⟨_, _, _, f3, _, _, _, _, _, _, _, _, fl⟩ := hb'.facts
    exact ⟨rfl, f3, fl, nv', hb', (hc.trans (Chg.below nv hW)).trans hc'⟩
  · obtain ⟨nv', hb, hc'⟩ := hW
    obtain ⟨a', cap', w3, hr, k1, k2, k3, hb', hch⟩ := hb.name t hn
    exact ⟨_, w3, hr, a', cap', by simp, k1, k2, k3, nv', a', cap', by simpa using hb', by simpa using hch _ hc'⟩
set_option maxRecDepth 100000 in
set_option maxHeartbeats 1000000 in
theorem c_func {L : Rp.Lr} {r : Nat} {named : Bool} (hL : ∀ F, LvC src F base B dep L) (hP : LvP L) (E : Ru (Rp.func L named) s r s') (h : RS src F base B dep s nv w) :
    Calls Try.prog 57 #[.pointer (some ⟨B, 0, none⟩), .bool named] w (Tells src F base B dep nv w s' (.int .i64 (r : Int))) := by
  obtain ⟨s1, b, s2, t, s3, s4, N, s5, s6, s7, K, s8, s9, R1, R2, R3, R4, R5, R6, R7, R8, R9, R10⟩ := func_ru hP E
  obtain ⟨c0, c1, c2, c3, c4, c5, c7, c9, cf, hlt⟩ := h.cl
  have HBX : Hid (_) := fun y0 y1 y2 y5 => Bx.new h y0 y1 y2 y5
  have H : Hid (_) := h
  clear E h
  generalize Rp.nx s = T at *
  go_enter Try.func57, Try.ntmps57
  go_wp2_with fail
  have hb1 := HBX.out (.int .i64 10) (.int .i64 0) (.string ⟨#[]⟩) (.int .i64 (T.a : Int))
  refine Calls.mono (c_must R1 hb1.rs) ?_
  rintro e w1 ⟨rfl, nv1, hr1, hc1⟩
  have HB1 : Hid (_) := hb1.go hr1 hc1
  have HC1 : Hid (Chg B nv nv1 w w1) := (Chg.below nv ((Below.refl w.heap.size w).alloc (Nat.le_refl _) _)).trans hc1
  clear hb1 hr1 hc1 HBX c0 c1 c2 c3 c4 c5 c7 c9 cf hlt
  go_wp2_with fail
  refine Calls.mono (c_has R2 HB1.out.rs) ?_
  rintro e w2 ⟨rfl, nv2, hr2, hc2⟩
  have HB2 : Hid (_) := HB1.out.go hr2 hc2
  have HC2 : Hid (Chg B nv nv2 w w2) := HC1.out.trans hc2
  obtain ⟨g0, g1, g2, g3, g4, g5, z0, z1, z2, z3, z4, z5, gl⟩ := HB2.out.facts
  clear hr2 hc2 HB1 HC1 R1 R2
  go_upto_if 16 with fail
  go_cut [] (fun wx => Hid (FnS src F base B dep nv w wx (.int .i64 ((if b then 1 else 0 : Nat) : Int)) (.string ⟨#[]⟩) (.int .i64 (T.a : Int)) [] s2))
  case first =>
    cases b
    · go_wp2_with fail
      go_meet
      case rel => exact ⟨nv2, none, 0, HB2.out, HC2.out⟩
    · go_wp2_with fail
      go_meet
      case rel => exact ⟨nv2, none, 0, HB2.out.set1 _, HC2.out.setX (Nat.le_refl _) 1 _⟩
  case rest =>
    clear HB2 HC2 g0 g1 g2 g3 g4 g5 z0 z1 z2 z3 z4 z5 gl
    obtain ⟨nv3, na, ncap, hb3, hc3⟩ := Hid.out hcut
    obtain ⟨g0, g1, g2, g3, g4, g5, z0, z1, z2, z3, z4, z5, gl⟩ := hb3.facts
    obtain ⟨c0, c1, c2, c3, c4, c5, c7, c9, cf, hlt⟩ := hb3.rs.cl
    have e3 := R3.eq
    unfold Rp.fname at e3
    have HB3 : Hid (_) := hb3
    have HC3 : Hid (_) := hc3
    clear hcut hb3 hc3
    generalize hx1 : (.int .i64 ((if b then 1 else 0 : Nat) : Int) : Value) = x1 at *
    have HX1 : Hid (_) := hx1
    clear hx1
    obtain ⟨q, hq⟩ : ∃ q, (named || decide ((Rp.nx s2).k = 3)) = q := ⟨_, rfl⟩
    rw [hq] at e3
    have HE3 : Hid (_) := e3
    have HS3 : Hid (s3.nodes.length ≤ 1000000000) := R3.small
    clear e3 R3
    go_upto_region 5 with fail
    go_cut [27] (fun v wx => v = .bool q ∧ Hid (FnS src F base B dep nv w wx x1 (.string ⟨#[]⟩) (.int .i64 (T.a : Int)) [] s2))
    case first =>
      cases named
      · by_cases hk : (Rp.nx s2).k = 3
        · obtain rfl : q = true := by rw [← hq]; simp [hk]
          rw [hk] at c1
          clear HE3 HS3 hq hk
          generalize Rp.nx s2 = T2 at *
          go_wp2_with fail
          go_meet
          case rel => exact ⟨rfl, nv3, na, ncap, HB3.out, HC3.out⟩
        · obtain rfl : q = false := by rw [← hq]; simp [hk]
          have e3 : (((Rp.nx s2).k : Int) == 3) = false := by rw [beq_eq_false_iff_ne]; omega
          clear HE3 HS3 hq hk
          generalize Rp.nx s2 = T2 at *
          go_wp2_with fail
          go_meet
          case rel => exact ⟨rfl, nv3, na, ncap, HB3.out, HC3.out⟩
      · obtain rfl : q = true := by rw [← hq]; simp
        clear HE3 HS3 hq
        generalize Rp.nx s2 = T2 at *
        go_wp2_with fail
        go_meet
        case rel => exact ⟨rfl, nv3, na, ncap, HB3.out, HC3.out⟩
    case rest =>
    clear HB3 HC3 g0 g1 g2 g3 g4 g5 z0 z1 z2 z3 z4 z5 gl c0 c1 c2 c3 c4 c5 c7 c9 cf hlt hq
    obtain ⟨rfl, hcut⟩ := hcut
    obtain ⟨nv3, na, ncap, hb3, hc3⟩ := Hid.out hcut
    obtain ⟨g0, g1, g2, g3, g4, g5, z0, z1, z2, z3, z4, z5, gl⟩ := hb3.facts
    have HB3 : Hid (_) := hb3
    have HC3 : Hid (_) := hc3
    clear hcut hb3 hc3
    go_upto_if 27 with fail
    go_cut [] (fun wx => Hid (FnS src F base B dep nv w wx x1 (.string ⟨t.toArray⟩) (.int .i64 (T.a : Int)) [] s3))
    case first =>
      cases q
      · have hts : t = [] ∧ s3 = s2 := by
          have := HE3.out
          rw [if_neg (by simp)] at this
          cases this; exact ⟨rfl, rfl⟩
        obtain ⟨rfl, rfl⟩ := hts
        clear HE3 HS3
        go_wp2_with fail
        go_meet
        case rel => exact ⟨nv3, na, ncap, HB3.out, HC3.out⟩
      · have R3 : Ru Rp.rname s2 t s3 := ⟨by have := HE3.out; simpa using this, HS3.out⟩
        clear HE3 HS3
        go_wp2_with fail
        refine Calls.mono (c_name R3 HB3.out.rs) ?_
        rintro e w4 ⟨rfl, nv4, hr4, hc4⟩
        have HB4 : Hid (_) := HB3.out.go hr4 hc4
        have HC4 : Hid (_) := HC3.out.trans hc4
        clear g0 g1 g2 g3 g4 g5 z0 z1 z2 z3 z4 z5 gl hr4 hc4
        obtain ⟨g0, g1, g2, g3, g4, g5, z0, z1, z2, z3, z4, z5, gl⟩ := HB4.out.facts
        go_wp2_with fail
        go_meet
        case rel => exact ⟨nv4, na, ncap, HB4.out.set2 _, HC4.out.setX (Nat.le_refl _) 2 _⟩
    case rest =>
      clear HE3 HS3 HB3 HC3 g0 g1 g2 g3 g4 g5 z0 z1 z2 z3 z4 z5 gl
      obtain ⟨nv4, na4, ncap4, hb4, hc4⟩ := Hid.out hcut
      have HB4 : Hid (_) := hb4
      have HC4 : Hid (_) := hc4
      clear hcut hb4 hc4
      generalize hx2 : (.string ⟨t.toArray⟩ : Value) = x2 at *
      have HX2 : Hid (_) := hx2
      clear hx2
      go_wp2_with fail
      refine Calls.mono (c_must R4 HB4.out.rs) ?_
      rintro e w5 ⟨rfl, nv5, hr5, hc5⟩
      have HB5 : Hid (_) := HB4.out.go hr5 hc5
      have HC5 : Hid (_) := HC4.out.trans hc5
      clear hr5 hc5 HB4 HC4 R4
      have HIS : Hid (_) := is_any HB5.out.rs [41]
      have e5 := R5.eq
      unfold Rp.pars at e5
      have HE5 : Hid (_) := e5
      have HS5 : Hid (s5.nodes.length ≤ 1000000000) := R5.small
      obtain ⟨g0, g1, g2, g3, g4, g5, z0, z1, z2, z3, z4, z5, gl⟩ := HB5.out.facts
      clear e5 R5
      go_wp2_with fail
      refine Calls.mono HIS.out ?_
      rintro e w6 ⟨rfl, rfl⟩
      go_upto_if 35 with fail
      go_cut [] (fun wx => Hid (FnS src F base B dep nv w wx x1 x2 (.int .i64 (T.a : Int)) N s5))
      case first =>
        cases hi : Rp.isS [41] s4
        · have e6 := HE5.out
          rw [hi] at e6
          simp only [Bool.false_eq_true, if_false] at e6
          rcases e7 : Rp.rname s4 with ⟨t1, p1⟩
          rw [e7] at e6
          simp only at e6
          have np1 : p1.nodes.length ≤ 1000000000 := gb (Rp.kp_namesLoop Rp.pre_len _ _) e6 HS5.out
          have Q1 : Ru Rp.rname s4 t1 p1 := ⟨e7, np1⟩
          obtain ⟨nm1, ap1⟩ := name_step (N := []) Q1 (show Bx src F base B dep s4 nv5 w w6 w.heap.size (.int .i64 10) x1 x2 (.int .i64 (T.a : Int)) [] na4 ncap4 [] none 0 from HB5.out) HC5.out (by simp)
          have HNM1 : Hid (_) := nm1
          have HAP1 : Hid (_) := ap1
          have HE6 : Hid (_) := e6
          clear e6 e7 np1 nm1 ap1 HE5 hi HIS
          go_upto_region 9 with fail
          go_cut [] (fun wx => Hid (FnS src F base B dep nv w wx x1 x2 (.int .i64 (T.a : Int)) [t1] p1))
          case first =>
            go_region_law (first | (refine step_append_ex (by rfl) _ _ 35 (by rfl) _ _ (by rfl) (by rfl) (ApN src F base B dep nv w x1 x2 (.int .i64 (T.a : Int)) [t1] p1 (.slice na4 0 ncap4)) (HAP1.out _ (by assumption)) ?_; rintro v' w7 ⟨a7, cap7, rfl, hc7, hf7, hl7, HA7⟩) | (go_simp; go_at_call 63; refine Calls.mono (HNM1.out _ (by repeat (first | with_reducible exact Below.refl _ _ | with_reducible refine Below.drew ?_))) ?_; rintro e w5 ⟨rfl, hx5, hX5, HO5⟩; try dsimp only))
            all_goals
              go_wp2_with fail
              go_meet
              case rel => exact HA7
          case rest =>
            clear HNM1 HAP1 HB5 HC5 g0 g1 g2 g3 g4 g5 z0 z1 z2 z3 z4 z5 gl
            have HST : Hid (FnL src F base B dep nv w wc x1 x2 (.int .i64 (T.a : Int)) p1.toks.length N s5) := (show FnL _ _ _ _ _ _ _ _ _ _ _ _ _ _ from ⟨[t1], p1, Hid.out hcut, HE6.out, Nat.le_refl _, by
              obtain ⟨_, _, _, hb, _⟩ := Hid.out hcut
              have := hb.rs.toks; simp; omega⟩)
            clear hcut HE6
            go_wp2_with fail
            go_loopg [] (p1.toks.length) (fun f W => Hid (FnL src F base B dep nv w W x1 x2 (.int .i64 (T.a : Int)) f N s5))
            case atStart => exact HST
            case round =>
              clear HST
              obtain ⟨N1, q1, hfs, hrun, hf, hcnt⟩ := Hid.out hrel
              obtain ⟨nv8, na8, ncap8, hb8, hc8⟩ := hfs
              have hg := hb8.rs.gd
              obtain ⟨f, rfl⟩ : ∃ f', gk = f' + 1 := ⟨gk - 1, by have := hg.one; omega⟩
              have nq1 : q1.nodes.length ≤ 1000000000 := gb (Rp.kp_namesLoop Rp.pre_len _ _) hrun HS5.out
              unfold Rp.namesLoop at hrun
              cases e1 : Rp.has [44] q1 with
              | mk b1 q2 =>
              have T1 := ru_has [44] q1 nq1 e1
              rw [e1] at hrun
              have HB8 : Hid (_) := hb8
              have HC8 : Hid (_) := hc8
              cases b1
              · simp only [Prod.mk.injEq] at hrun
                obtain ⟨rfl, rfl⟩ := hrun
                clear hrel hb8 hc8 hg nq1 e1 hf hcnt
                go_wp2_with fail
                refine Calls.mono (c_has T1 HB8.out.rs) ?_
                rintro e w9 ⟨rfl, nv9, hr9, hc9⟩
                have HB9 : Hid (_) := HB8.out.go hr9 hc9
                have HC9 : Hid (_) := HC8.out.trans hc9
                clear hr9 hc9 HB8 HC8
                go_wp2_with fail
                go_meet
                case rel => exact ⟨nv9, na8, ncap8, HB9.out, HC9.out⟩
              · simp only at hrun
                rcases e2 : Rp.rname q2 with ⟨y, q3⟩
                rw [e2] at hrun
                simp only at hrun
                have nq3 : q3.nodes.length ≤ 1000000000 := gb (Rp.kp_namesLoop Rp.pre_len _ _) hrun HS5.out
                have T2 : Ru Rp.rname q2 y q3 := ⟨e2, nq3⟩
                have hon := Rp.has_on e1 hg
                have hbad : q2.bad = false := by
                  rw [(Rp.has_keep e1).2]
                  cases hb : q1.bad
                  · rfl
                  · unfold Rp.has at e1; rw [hb] at e1; simp at e1
                have hlt2 : q2.toks.length < q1.toks.length := by
                  rcases hon.2 with hh | hh
                  · rw [hbad] at hh; cases hh
                  · exact hh
                have hle := ((Rp.kp_rname Rp.pre_dn q2).1 hon.1).2
                rw [e2] at hle
                simp only at hle
                have HEND : Hid (∀ W, FnS src F base B dep nv w W x1 x2 (.int .i64 (T.a : Int)) (N1 ++ [y]) q3 → FnL src F base B dep nv w W x1 x2 (.int .i64 (T.a : Int)) f N s5) := fun W hW => ⟨N1 ++ [y], q3, hW, hrun, by omega, by simp; omega⟩
                have HCN : Hid (N1.length + (f + 1) ≤ 100001) := hcnt
                clear hrel hb8 hc8 hg nq1 e1 e2 hf hcnt hrun nq3 hon hbad hlt2 hle
                go_wp2_with fail
                refine Calls.mono (c_has T1 HB8.out.rs) ?_
                rintro e w9 ⟨rfl, nv9, hr9, hc9⟩
                have hb9 := HB8.out.go hr9 hc9
                have hc9' := HC8.out.trans hc9
                obtain ⟨g0, g1, g2, g3, g4, g5, z0, z1, z2, z3, z4, z5, gl⟩ := hb9.facts
                obtain ⟨nm1, ap1⟩ := name_step T2 hb9 hc9' (by have := HCN.out; omega)
                have HNM1 : Hid (_) := nm1
                have HAP1 : Hid (_) := ap1
                clear nm1 ap1 hb9 hc9 hc9' hr9 HB8 HC8
                go_upto_region 11 with fail
                go_region_law (first | (refine step_append_ex (by rfl) _ _ 35 (by rfl) _ _ (by rfl) (by rfl) (ApN src F base B dep nv w x1 x2 (.int .i64 (T.a : Int)) (N1 ++ [y]) q3 (.slice na8 N1.length ncap8)) (HAP1.out _ (by assumption)) ?_; rintro v' w7 ⟨a7, cap7, rfl, hc7, hf7, hl7, HA7⟩) | (go_simp; go_at_call 63; refine Calls.mono (HNM1.out _ (by repeat (first | with_reducible exact Below.refl _ _ | with_reducible refine Below.drew ?_))) ?_; rintro e w5 ⟨rfl, hx5, hX5, HO5⟩; try dsimp only))
                all_goals
                  have HEN : Hid (FnL src F base B dep nv w (w7.setCell ⟨w.heap.size, 3, none⟩ (.slice a7 (N1.length + 1) cap7)) x1 x2 (.int .i64 (T.a : Int)) f N s5) := HEND.out _ (by have := Hid.out HA7; rwa [show (N1 ++ [y]).length = N1.length + 1 by simp] at this)
                  clear HA7 HEND HNM1 HAP1 g0 g1 g2 g4 g5 z0 z1 z2 z3 z4 z5 gl
                  go_wp2_with fail
                  go_roundg f
                  case rel => exact HEN
                  case measure => omega
        · have e6 := HE5.out
          rw [hi] at e6
          obtain ⟨rfl, rfl⟩ : N = [] ∧ s5 = s4 := by cases e6; exact ⟨rfl, rfl⟩
          clear e6 HE5 hi HIS
          go_wp2_with fail
          go_meet
          case rel => exact ⟨nv5, na4, ncap4, HB5.out, HC5.out⟩
      case rest =>
        clear HE5 HS5 HIS HB5 HC5 g0 g1 g2 g3 g4 g5 z0 z1 z2 z3 z4 z5 gl
        obtain ⟨nv7, na7, ncap7, hb7, hc7⟩ := Hid.out hcut
        obtain ⟨hr8, hN8, hK8, hX8⟩ := hb7.vals H.out
        have HR8 : Hid (_) := hr8
        have HN8 : Hid (_) := hN8
        have HX8 : Hid (_) := hX8
        have HC8 : Hid (_) := hc7
        clear hcut hb7 hc7 hr8 hN8 hK8 hX8
        go_wp2_with fail
        refine Calls.mono (c_must R6 HR8.out) ?_
        rintro e w9 ⟨rfl, nv9, hr9, hc9⟩
        have HX9 : Hid (_) := HX8.out.go HR8.out hc9
        have HN9 : Hid (_) := HN8.out.go hc9
        have HC9 : Hid (_) := HC8.out.trans hc9
        have HR9 : Hid (_) := hr9
        clear hr9 hc9 HX8 HN8 HC8 HR8
        go_wp2_with fail
        refine Calls.mono (c_must R7 HR9.out) ?_
        rintro e w10 ⟨rfl, nv10, hr10, hc10⟩
        have HX10 : Hid (_) := HX9.out.go HR9.out hc10
        have HN10 : Hid (_) := HN9.out.go hc10
        have HC10 : Hid (_) := HC9.out.trans hc10
        have HR10 : Hid (_) := hr10
        clear hr10 hc10 HX9 HN9 HC9 HR9
        go_wp2_with fail
        refine Calls.mono (c_list hL hP R8 HR10.out) ?_
        rintro e w11 ⟨ad, cap, rfl, nv11, hr11, hc11, hk11⟩
        have hX11 := HX10.out.go HR10.out hc11
        obtain ⟨⟨g0, g1, g2, g3, g4, g5⟩, ⟨z1, z2, z3, z4⟩, gl⟩ := hX11.facts
        have HX11 : Hid (_) := hX11
        have HN11 : Hid (_) := HN10.out.go hc11
        have HC11 : Hid (_) := HC10.out.trans hc11
        have HR11 : Hid (_) := hr11
        have HK11 : Hid (_) := hk11
        clear hr11 hc11 HX10 HN10 HC10 HR10 hk11 hX11
        go_wp2_with fail
        have hX12 := HX11.out.set4 (.slice ad K.length cap)
        have hR12 := HR11.out.foreign (X := w.heap.size) (.inr rfl) 4 (.slice ad K.length cap)
        have hN12 := HN11.out.set (X := w.heap.size) (.inr rfl) 4 (.slice ad K.length cap)
        have hK12 := HK11.out.set (X := w.heap.size) (.inr rfl) 4 (.slice ad K.length cap)
        have HC12 : Hid (_) := HC11.out.setX (Nat.le_refl _) 4 (.slice ad K.length cap)
        have HX12 : Hid (_) := hX12
        have HR12 : Hid (_) := hR12
        have HN12 : Hid (_) := hN12
        have HK12 : Hid (_) := hK12
        clear hX12 hR12 hN12 hK12 HX11 HN11 HC11 HR11 HK11 g0 g1 g2 g3 g4 g5 z1 z2 z3 z4 gl
        generalize w11.setCell ⟨w.heap.size, 4, none⟩ (.slice ad K.length cap) = w12 at *
        refine Calls.mono (c_must R9 HR12.out) ?_
        rintro e w13 ⟨rfl, nv13, hr13, hc13⟩
        have hX13 := HX12.out.go HR12.out hc13
        obtain ⟨⟨g0, g1, g2, g3, g4, g5⟩, ⟨z1, z2, z3, z4⟩, gl⟩ := hX13.facts
        have HN13 : Hid (_) := HN12.out.go hc13
        have HK13 : Hid (_) := HK12.out.go hc13
        have HC13 : Hid (_) := HC12.out.trans hc13
        have HR13 : Hid (_) := hr13
        clear hr13 hc13 hX13 HX12 HN12 HK12 HC12 HR12
        go_wp2_with fail
        have hx1 := HX1.out
        have hx2 := HX2.out
        subst hx1 hx2
        refine Calls.mono (c_putV (k := 10) (n := if b then 1 else 0) (t := t) (N := N) (K := K) (a := T.a) R10 (HR13.out.less (fun k hk => .inl hk)) (HN13.out.less (fun k hk => .inl hk)) (HK13.out.less (fun k hk => .inl hk))) ?_
        rintro e w14 ⟨rfl, nv14, hr14, hc14⟩
        clear g0 g1 g2 g3 g4 g5 z1 z2 z3 z4 gl HX1 HX2
        go_wp2_with fail
        all_goals
          go_ret
          exact ⟨rfl, nv14, hr14, HC13.out.trans hc14⟩
end
end Go.Proofs.Ytkaacmghgobhmaa.Rd
end
section
namespace Go.Proofs.Ytkaacmghgobhmaa.Rd
open Go.RowKit
open L (tkA own_block own_below intOf info_of size_list wpList_append_run)
set_option linter.unusedVariables false
set_option maxRecDepth 100000 in
set_option maxHeartbeats 4000000 in
theorem simple_any (t : List UInt8) (w : World) : Calls Try.prog 75 #[.string ⟨t.toArray⟩] w fun e w' => e = .returned (.agg #[.int .i64 ((Rp.simple t).k : Int), .int .i64 ((Rp.simple t).n : Int), .string ⟨#[]⟩, .slice none 0 0, .slice none 0 0, .int .i64 0]) ∧ Below w.heap.size w w' := by
  unfold Rp.simple
  by_cases h1 : t = [116, 114, 117, 101]
  · subst h1
    go_enter Try.func75, Try.ntmps75
    go_wp2_with fail
    refine bodyPost_ret (v := .agg #[.int .i64 4, .int .i64 1, .string ⟨#[]⟩, .slice none 0 0, .slice none 0 0, .int .i64 0]) (by simp [results, Try.results75, go_sem, *]) rfl ⟨rfl, ?_⟩
    repeat (first | with_reducible exact Below.refl _ _ | (with_reducible refine Below.setCell ?_ (by first | exact Nat.le_refl _ | omega | simp) _) | (with_reducible refine Below.alloc ?_ (by first | exact Nat.le_refl _ | omega | simp | (simp; omega)) _))
  rw [if_neg h1]
  have q1 : (t == [116, 114, 117, 101]) = false := by simpa using h1
  by_cases h2 : t = [102, 97, 108, 115, 101]
  · subst h2
    clear h1 q1
    go_enter Try.func75, Try.ntmps75
    go_wp2_with fail
    refine bodyPost_ret (v := .agg #[.int .i64 4, .int .i64 0, .string ⟨#[]⟩, .slice none 0 0, .slice none 0 0, .int .i64 0]) (by simp [results, Try.results75, go_sem, *]) rfl ⟨rfl, ?_⟩
    repeat (first | with_reducible exact Below.refl _ _ | (with_reducible refine Below.setCell ?_ (by first | exact Nat.le_refl _ | omega | simp) _) | (with_reducible refine Below.alloc ?_ (by first | exact Nat.le_refl _ | omega | simp | (simp; omega)) _))
  rw [if_neg h2]
  have q2 : (t == [102, 97, 108, 115, 101]) = false := by simpa using h2
  by_cases h3 : t = [110, 117, 108, 108]
  · subst h3
    clear h1 q1 h2 q2
    go_enter Try.func75, Try.ntmps75
    go_wp2_with fail
    refine bodyPost_ret (v := .agg #[.int .i64 5, .int .i64 0, .string ⟨#[]⟩, .slice none 0 0, .slice none 0 0, .int .i64 0]) (by simp [results, Try.results75, go_sem, *]) rfl ⟨rfl, ?_⟩
    repeat (first | with_reducible exact Below.refl _ _ | (with_reducible refine Below.setCell ?_ (by first | exact Nat.le_refl _ | omega | simp) _) | (with_reducible refine Below.alloc ?_ (by first | exact Nat.le_refl _ | omega | simp | (simp; omega)) _))
  rw [if_neg h3]
  have q3 : (t == [110, 117, 108, 108]) = false := by simpa using h3
  by_cases h4 : t = [117, 110, 100, 101, 102, 105, 110, 101, 100]
  · subst h4
    clear h1 q1 h2 q2 h3 q3
    go_enter Try.func75, Try.ntmps75
    go_wp2_with fail
    refine bodyPost_ret (v := .agg #[.int .i64 6, .int .i64 0, .string ⟨#[]⟩, .slice none 0 0, .slice none 0 0, .int .i64 0]) (by simp [results, Try.results75, go_sem, *]) rfl ⟨rfl, ?_⟩
    repeat (first | with_reducible exact Below.refl _ _ | (with_reducible refine Below.setCell ?_ (by first | exact Nat.le_refl _ | omega | simp) _) | (with_reducible refine Below.alloc ?_ (by first | exact Nat.le_refl _ | omega | simp | (simp; omega)) _))
  rw [if_neg h4]
  have q4 : (t == [117, 110, 100, 101, 102, 105, 110, 101, 100]) = false := by simpa using h4
  by_cases h5 : t = [116, 104, 105, 115]
  · subst h5
    clear h1 q1 h2 q2 h3 q3 h4 q4
    go_enter Try.func75, Try.ntmps75
    go_wp2_with fail
    refine bodyPost_ret (v := .agg #[.int .i64 7, .int .i64 0, .string ⟨#[]⟩, .slice none 0 0, .slice none 0 0, .int .i64 0]) (by simp [results, Try.results75, go_sem, *]) rfl ⟨rfl, ?_⟩
    repeat (first | with_reducible exact Below.refl _ _ | (with_reducible refine Below.setCell ?_ (by first | exact Nat.le_refl _ | omega | simp) _) | (with_reducible refine Below.alloc ?_ (by first | exact Nat.le_refl _ | omega | simp | (simp; omega)) _))
  rw [if_neg h5]
  have q5 : (t == [116, 104, 105, 115]) = false := by simpa using h5
  clear h1 h2 h3 h4 h5
  go_enter Try.func75, Try.ntmps75
  go_wp2_with fail
  refine bodyPost_ret (v := .agg #[.int .i64 0, .int .i64 0, .string ⟨#[]⟩, .slice none 0 0, .slice none 0 0, .int .i64 0]) (by simp [results, Try.results75, go_sem, *]) rfl ⟨rfl, ?_⟩
  repeat (first | with_reducible exact Below.refl _ _ | (with_reducible refine Below.setCell ?_ (by first | exact Nat.le_refl _ | omega | simp) _) | (with_reducible refine Below.alloc ?_ (by first | exact Nat.le_refl _ | omega | simp | (simp; omega)) _))
section
variable {src : ByteArray} {F F' : Nat → Prop} {base B dep : Nat} {s s' : Rp.Rt} {nv nv' : Value} {w w0 W W' : World} {X : Nat} {x0 x1 x2 x5 : Value} {N : List (List UInt8)} {na : Option Addr} {ncap : Nat} {K : List Nat} {ka : Option Addr} {kcap : Nat}
theorem Bx.less (h : Bx src F base B dep s nv w0 W X x0 x1 x2 x5 N na ncap K ka kcap) (hF : ∀ k, F' k → F k) : Bx src F' base B dep s nv w0 W X x0 x1 x2 x5 N na ncap K ka kcap :=
  ⟨⟨h.rs.less (fun k hk => by
    rcases hk with ((hk | hk) | hk) | hk
    · exact .inl (.inl (.inl (hF k hk)))
    · exact .inl (.inl (.inr hk))
    · exact .inl (.inr hk)
    · exact .inr hk), h.ko.own, h.ko.sz⟩, h.kd, h.box, fun k hk => ⟨(h.nX k hk).1, fun e => (h.nX k hk).2.1 (hF k e), (h.nX k hk).2.2⟩, fun k hk => ⟨(h.kX k hk).1, fun e => (h.kX k hk).2 (hF k e)⟩, ⟨fun e => h.XF.1 (hF _ e), h.XF.2⟩⟩
theorem Bx.more (h : Bx src F base B dep s nv w0 W X x0 x1 x2 x5 N na ncap K ka kcap) (o : Obj) : Bx src (fun k => F k ∨ k = W.heap.size) base B dep s nv w0 (W.alloc o) X x0 x1 x2 x5 N na ncap K ka kcap := by
  have hb : Below W.heap.size W (W.alloc o) := (Below.refl _ _).alloc (Nat.le_refl _) _
  have nl := own_block h.ko.own
  have kl := own_block h.kd
  obtain ⟨_, _, _, _, _, _, _, _, _, _, _, _, hlX⟩ := h.facts
  exact ⟨⟨(h.rs.more o).less (fun k hk => by
    rcases hk with (((hk | hk) | hk) | hk) | hk
    · exact .inl (.inl (.inl (.inl hk)))
    · exact .inr hk
    · exact .inl (.inl (.inl (.inr hk)))
    · exact .inl (.inl (.inr hk))
    · exact .inl (.inr hk)), own_below h.ko.own hb, Nat.le_trans h.ko.sz hb.size⟩, own_below h.kd hb, (hb.block X hlX).trans h.box, fun k hk => ⟨(h.nX k hk).1, fun e => by
      rcases e with e | e
      · exact (h.nX k hk).2.1 e
      · have := (nl k hk).2; omega, (h.nX k hk).2.2⟩, fun k hk => ⟨(h.kX k hk).1, fun e => by
      rcases e with e | e
      · exact (h.kX k hk).2 e
      · have := (kl k hk).2; omega⟩, ⟨fun e => by
      rcases e with e | e
      · exact h.XF.1 e
      · omega, h.XF.2⟩⟩
/-- What the walk is told behind the append of a kid. -/
def ApK (src : ByteArray) (F : Nat → Prop) (base B dep : Nat) (nv0 : Value) (w : World) (X : Nat) (x0 x1 x2 x5 : Value) (N : List (List UInt8)) (K : List Nat) (s : Rp.Rt) (old v' : Value) (w3 : World) : Prop :=
  ∃ a' cap', v' = .slice a' (K.length) cap' ∧ w3.cell? ⟨X, 4, none⟩ = some old ∧ w3.frozen? ⟨X, 4, none⟩ = false ∧ X < w3.heap.size ∧ Hid (∃ nv na ncap ka kcap, Bx src F base B dep s nv w (w3.setCell ⟨X, 4, none⟩ (.slice a' K.length cap')) X x0 x1 x2 x5 N na ncap K ka kcap ∧ Chg B nv0 nv w (w3.setCell ⟨X, 4, none⟩ (.slice a' K.length cap')))
/-- An e is told beside the box, and put behind the others. -/
theorem kid_step {L : Rp.Lr} {nv0 : Value} {y : Nat} (hL : ∀ F, LvC src F base B dep L) (R : Ru L.e s y s') (h : Bx src F base B dep s nv w W X x0 x1 x2 x5 N na ncap K ka kcap) (hc : Chg B nv0 nv w W) (hn : K.length + 1 ≤ 1000000) :
    (∀ W1, Below W.heap.size W W1 → Calls Try.prog 60 #[.pointer (some ⟨B, 0, none⟩)] W1 fun e w' => e = .returned (.int .i64 (y : Int)) ∧ w'.cell? ⟨X, 4, none⟩ = some (.slice ka K.length kcap) ∧ X < w'.heap.size ∧ Hid (∃ nv', Bx src F base B dep s' nv' w w' X x0 x1 x2 x5 N na ncap K ka kcap ∧ Chg B nv0 nv' w w')) ∧
    (∀ W1, Hid (∃ nv', Bx src F base B dep s' nv' w W1 X x0 x1 x2 x5 N na ncap K ka kcap ∧ Chg B nv0 nv' w W1) → ∃ v' w3, (Builtin.append_ #[36, 36] 36 #[.slice ka K.length kcap, .slice (some ⟨W1.heap.size, 0, none⟩) 1 1]).run Try.prog (W1.alloc (.cells #[.int .i64 (y : Int)] 3)) = .ok v' w3 ∧ ApK src F base B dep nv0 w X x0 x1 x2 x5 N (K ++ [y]) s' (.slice ka K.length kcap) v' w3) := by
  refine ⟨fun W1 hW => ?_, fun W1 hW => ?_⟩
  · have hb := h.go (h.rs.below hW) (Chg.below nv hW)
    refine ((hL _).e R hb.rs).mono ?_
    rintro e w' ⟨rfl, nv', hr', hc'⟩
    have hb' := hb.go hr' hc'
    obtain ⟨_, _, _, _, f4, _, _, _, _, _, _, _, fl⟩ := hb'.facts
    exact ⟨rfl, f4, fl, nv', hb', (hc.trans (Chg.below nv hW)).trans hc'⟩
  · obtain ⟨nv', hb, hc'⟩ := hW
    obtain ⟨a', cap', w3, hr, k1, k2, k3, hb', hch⟩ := hb.kid y hn
    exact ⟨_, w3, hr, a', cap', by simp, k1, k2, k3, nv', na, ncap, a', cap', by simpa using hb', by simpa using hch _ hc'⟩
end
end Go.Proofs.Ytkaacmghgobhmaa.Rd
end
