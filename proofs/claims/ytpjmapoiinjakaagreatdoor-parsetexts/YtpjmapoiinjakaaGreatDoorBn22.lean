/- Texts: QG QH. -/
import Derived.Test.YtpjmapoiinjakaaGreatDoorBn21
import Derived.Deep.DeepCutAuto
import Derived.Deep.CutBlock
section
namespace Go.Proofs.YtpjmapoiinjakaaGreatDoor.Rd
open Go.RowKit
open L (tkA own_block own_below intOf info_of size_list wpList_append_run)
set_option linter.unusedVariables false
theorem target_is {k : Nat} (h : Ps.isTarget k = true) : k = 3 ∨ k = 11 ∨ k = 12 := by
  unfold Ps.isTarget at h
  simp only [Bool.or_eq_true, beq_iff_eq] at h
  omega
theorem target_no {k : Nat} (h : ¬ Ps.isTarget k = true) : k ≠ 3 ∧ k ≠ 11 ∧ k ≠ 12 := by
  unfold Ps.isTarget at h
  simp only [Bool.or_eq_true, beq_iff_eq] at h
  omega
section
variable {src : ByteArray} {F : Nat → Prop} {base B dep : Nat} {s s' : Rp.Rt} {nv : Value} {w : World}
theorem RS.cl (h : RS src F base B dep s nv w) : w.cell? ⟨B, 0, none⟩ = some (.string src) ∧ w.cell? ⟨B, 1, none⟩ = some (.int .i64 ((Rp.nx s).k : Int)) ∧ w.cell? ⟨B, 2, none⟩ = some (.string ⟨(Rp.nx s).t.toArray⟩) ∧ w.cell? ⟨B, 3, none⟩ = some (.int .i64 ((Rp.nx s).n : Int)) ∧ w.cell? ⟨B, 4, none⟩ = some (.int .i64 ((Rp.nx s).a : Int)) ∧ w.cell? ⟨B, 5, none⟩ = some (.bool (Rp.nx s).ln) ∧ w.cell? ⟨B, 7, none⟩ = some nv ∧ w.cell? ⟨B, 9, none⟩ = some (.bool s.bad) ∧ (∀ i, w.frozen? ⟨B, i, none⟩ = false) ∧ B < w.heap.size := by
  obtain ⟨E, x, h0, h1, h2, h3, c0, c1, c2, c3, c4, c5, c6, c7, c8, c9, cf, hlt⟩ := h.cells
  exact ⟨c0, c1, c2, c3, c4, c5, c7, c9, cf, hlt⟩
set_option maxRecDepth 100000 in
set_option maxHeartbeats 4000000 in
theorem c_assign {L : Rp.Lr} {r : Nat} (hL : ∀ F, LvC src F base B dep L) (hP : LvP L) (E : Ru (Rp.assign L) s r s') (h : RS src F base B dep s nv w) :
    Calls Tryz.prog 88 #[.pointer (some ⟨B, 0, none⟩)] w (Tells src F base B dep nv w s' (.int .i64 (r : Int))) := by
  have e := E.eq
  have hsm := E.small
  have hn0 := E.back (Rp.kp_assign Rp.pre_len hP.gr)
  obtain ⟨c0, c1, c2, c3, c4, c5, c7, c9, cf, hlt⟩ := h.cl
  unfold Rp.assign at e
  simp only at e
  cases e1 : Rp.has [121, 105, 101, 108, 100] s with
  | mk b s1 =>
  rw [e1] at e
  have R1 := ru_has _ s hn0 e1
  have H : Hid (_) := h
  clear h E
  cases b
  · simp only at e
    have hix := Rp.ix_cond hP.ix hP.gr hP.bd s1
    rcases e2 : Rp.cond L s1 with ⟨k, s2⟩
    rw [e2] at e hix
    simp only at e hix
    by_cases hb : s2.bad = true
    · rw [if_pos hb] at e
      obtain ⟨rfl, rfl⟩ := Prod.mk.inj e
      have R2 : Ru (Rp.cond L) s1 k s2 := ⟨e2, hsm⟩
      have HB : Hid (s2.bad = true) := hb
      clear e e1 e2 hix hb hn0
      generalize Rp.nx s = T at *
      go_enter Tryz.func88, Tryz.ntmps88
      go_wp2_with fail
      refine Calls.mono (c_has R1 H.out) ?_
      rintro e w1 ⟨rfl, nv1, hr1, hc1⟩
      go_wp2_with fail
      refine Calls.mono (c_cond hL hP R2 hr1) ?_
      rintro e w2 ⟨rfl, nv2, hr2, hc2⟩
      clear c0 c1 c2 c3 c4 c5 c7 c9 cf hlt
      obtain ⟨c0, c1, c2, c3, c4, c5, c7, c9, cf, hlt⟩ := hr2.cl
      rw [HB.out] at c9
      have HR2 : Hid (_) := hr2
      have HC2 : Hid (_) := hc1.trans hc2
      clear hr1 hc1 hr2 hc2
      go_wp2_with fail
      go_ret
      exact ⟨rfl, nv2, HR2.out, HC2.out⟩
    rw [if_neg hb] at e
    have hb' : s2.bad = false := by simpa using hb
    have hk2 := hix hb'
    have n2 : s2.nodes.length ≤ 1000000000 := by
      by_cases ht : Ps.isTarget (s2.nodes.getD k {}).k = true
      · rw [if_pos ht] at e
        cases e3 : Rp.has [61] s2 with
        | mk b3 s3 =>
        rw [e3] at e
        cases b3
        · simp only at e; obtain ⟨rfl, rfl⟩ := Prod.mk.inj e; exact gb (Rp.kp_has Rp.pre_len _) e3 hsm
        · simp only at e
          have h1 := Rp.kp_has Rp.pre_len [61] s2
          have h2 := hP.gr.e s3
          have h3 := Rp.pre_len.put { k := 19, kids := [k, (L.e s3).1], a := ((L.e s3).2.nodes.getD k {}).a } (L.e s3).2
          rw [e3] at h1
          rw [e] at h3
          exact Nat.le_trans h1 (Nat.le_trans h2 (Nat.le_trans h3 hsm))
      · rw [if_neg ht] at e; obtain ⟨rfl, rfl⟩ := Prod.mk.inj e; exact hsm
    have R2 : Ru (Rp.cond L) s1 k s2 := ⟨e2, n2⟩
    have HB : Hid (s2.bad = false ∧ k < s2.nodes.length) := (show _ ∧ _ from ⟨hb', hk2⟩)
    have HE : Hid (_) := e
    have HN2 : Hid (s2.nodes.length ≤ 1000000000) := n2
    clear e e1 e2 hix hb hn0 hb' hk2 n2
    generalize Rp.nx s = T at *
    go_enter Tryz.func88, Tryz.ntmps88
    go_wp2_with fail
    refine Calls.mono (c_has R1 H.out) ?_
    rintro e w1 ⟨rfl, nv1, hr1, hc1⟩
    go_wp2_with fail
    refine Calls.mono (c_cond hL hP R2 hr1) ?_
    rintro e w2 ⟨rfl, nv2, hr2, hc2⟩
    clear c0 c1 c2 c3 c4 c5 c7 c9 cf hlt
    obtain ⟨c0, c1, c2, c3, c4, c5, c7, c9, cf, hlt⟩ := hr2.cl
    rw [HB.out.1] at c9
    obtain ⟨gn, ncap, hnv, hncap, hgn, hkd⟩ := hr2.kind HB.out.2
    have hx1 : (k : Int) < s2.nodes.length := by have := HB.out.2; omega
    have hx0 : (0 : Int) ≤ k := by omega
    have HR2 : Hid (_) := hr2
    have HC2 : Hid (_) := hc1.trans hc2
    rw [hnv] at c7
    have e := HE.out
    clear hr1 hc1 hr2 hc2 HE R1 R2
    by_cases ht : Ps.isTarget (s2.nodes.getD k {}).k = true
    · rw [if_pos ht] at e
      cases e3 : Rp.has [61] s2 with
      | mk b3 s3 =>
      rw [e3] at e
      have R3 := ru_has _ s2 HN2.out e3
      have htt := target_is ht
      generalize hkk : (s2.nodes.getD k {}).k = kd at *
      clear ht hkk
      cases b3
      · simp only at e
        obtain ⟨rfl, rfl⟩ := Prod.mk.inj e
        clear e e3
        generalize hnl : s2.nodes.length = nl at *
        rcases htt with rfl | rfl | rfl
        all_goals
          go_wp2_with fail
          refine Calls.mono (c_has R3 HR2.out) ?_
          rintro e w3 ⟨rfl, nv3, hr3, hc3⟩
          clear c0 c1 c2 c3 c4 c5 c7 c9 cf hlt hkd hgn
          go_wp2_with fail
          go_ret
          exact ⟨rfl, nv3, hr3, HC2.out.trans hc3⟩
      · simp only at e
        rcases e4 : L.e s3 with ⟨y, s4⟩
        rw [e4] at e
        simp only at e
        have R5 : Ru (Rp.put { k := 19, kids := [k, y], a := (s4.nodes.getD k {}).a }) s4 r s' := ⟨e, hsm⟩
        have n4 := R5.back (Rp.pre_len.put _)
        have R4 : Ru L.e s3 y s4 := ⟨e4, n4⟩
        have hk4 : k < s4.nodes.length := by
          have h1 := HB.out.2
          have h2 : s2.nodes.length ≤ (L.e s3).2.nodes.length := by rw [← (Rp.has_keep e3).1]; exact hP.gr.e s3
          rw [e4] at h2
          exact Nat.lt_of_lt_of_le h1 h2
        have HK4 : Hid (_) := hk4
        clear e e3 e4 n4 hk4
        generalize hnl : s2.nodes.length = nl at *
        rcases htt with rfl | rfl | rfl
        all_goals
          go_wp2_with fail
          refine Calls.mono (c_has R3 HR2.out) ?_
          rintro e w3 ⟨rfl, nv3, hr3, hc3⟩
          clear c0 c1 c2 c3 c4 c5 c7 c9 cf hlt hkd hgn
          go_wp2_with fail
          refine Calls.mono ((hL _).e R4 hr3) ?_
          rintro e w4 ⟨rfl, nv4, hr4, hc4⟩
          obtain ⟨gn4, ncap4, hnv4, hncap4, hgn4, hpl⟩ := hr4.place HK4.out
          obtain ⟨c0, c1, c2, c3, c4, c5, c7, c9, cf, hlt⟩ := hr4.cl
          have hy1 : (k : Int) < s4.nodes.length := by have := HK4.out; omega
          rw [hnv4] at c7
          have HR4 : Hid (_) := hr4
          have HC4 : Hid (_) := (HC2.out.trans hc3).trans hc4
          clear hr3 hc3 hr4 hc4
          generalize (s4.nodes.getD k {}).a = ka at *
          generalize hnl4 : s4.nodes.length = nl4 at *
          go_wp2_with fail
          refine Calls.mono (c_putB (k := 19) (n := 0) (t := []) (K := [k, y]) (a := ka) R5 HR4.out #[.int .i64 (k : Int), .int .i64 (y : Int)] 2 rfl (fun j hj => by
            have : j = 0 ∨ j = 1 := by simp at hj; omega
            rcases this with rfl | rfl <;> rfl) (Below.refl _ _)) ?_
          rintro e w6 ⟨rfl, nv6, hr6, hc6⟩
          go_wp2_with fail
          go_ret
          exact ⟨rfl, nv6, hr6, HC4.out.trans hc6⟩
    · rw [if_neg ht] at e
      obtain ⟨rfl, rfl⟩ := Prod.mk.inj e
      obtain ⟨t3, t11, t12⟩ := target_no ht
      generalize hkk : (s2.nodes.getD k {}).k = kd at *
      have q3 : ((kd : Int) == 3) = false := by rw [beq_eq_false_iff_ne]; omega
      have q11 : ((kd : Int) == 11) = false := by rw [beq_eq_false_iff_ne]; omega
      have q12 : ((kd : Int) == 12) = false := by rw [beq_eq_false_iff_ne]; omega
      clear ht hkk e t3 t11 t12
      generalize hnl : s2.nodes.length = nl at *
      go_wp2_with fail
      go_ret
      exact ⟨rfl, nv2, HR2.out, HC2.out⟩
  · simp only at e
    rcases e2 : L.e s1 with ⟨y, s2⟩
    rw [e2] at e
    simp only at e
    have R3 : Ru (Rp.put { k := 20, kids := [y], a := (Rp.nx s).a }) s2 r s' := ⟨e, hsm⟩
    have n2 := R3.back (Rp.pre_len.put _)
    have R2 : Ru L.e s1 y s2 := ⟨e2, n2⟩
    clear e e1 e2 hn0 n2
    generalize Rp.nx s = T at *
    go_enter Tryz.func88, Tryz.ntmps88
    go_wp2_with fail
    refine Calls.mono (c_has R1 H.out) ?_
    rintro e w1 ⟨rfl, nv1, hr1, hc1⟩
    go_wp2_with fail
    refine Calls.mono ((hL _).e R2 hr1) ?_
    rintro e w2 ⟨rfl, nv2, hr2, hc2⟩
    clear c0 c1 c2 c3 c4 c5 c7 c9 cf hlt
    go_wp2_with fail
    refine Calls.mono (c_putB (k := 20) (n := 0) (t := []) (K := [y]) (a := T.a) R3 hr2 #[.int .i64 (y : Int)] 1 rfl (fun j hj => by
      have : j = 0 := by simpa using hj
      subst this; rfl) (Below.refl _ _)) ?_
    rintro e w3 ⟨rfl, nv3, hr3, hc3⟩
    go_wp2_with fail
    go_ret
    exact ⟨rfl, nv3, hr3, (hc1.trans hc2).trans hc3⟩
set_option maxRecDepth 100000 in
set_option maxHeartbeats 4000000 in
/-- u, one deeper. -/
theorem u_part {L : Rp.Lr} {r : Nat} (hd : dep < 40) (hL : ∀ F, LvC src F base B (dep + 1) L) (hP : LvP L) (E : Ru (Rp.deeper (Rp.unary L)) s r s') (h : RS src F base B dep s nv w) :
    Calls Tryz.prog 115 #[.pointer (some ⟨B, 0, none⟩)] w (Tells src F base B dep nv w s' (.int .i64 (r : Int))) := by
  have e := E.eq
  have hsm := E.small
  obtain ⟨c0, c1, c2, c3, c4, c5, c7, c9, cf, hlt⟩ := h.cl
  unfold Rp.deeper at e
  cases hb : s.bad
  · have HI : Hid (_) := c_in h hb hd
    rw [hb] at e c9
    simp only [Bool.false_eq_true, if_false] at e
    unfold Rp.unary at e
    have HT : Hid (∀ (nv1 : Value) (W : World), RS src F base B (dep + 1) s nv1 W → ∀ m, Calls Tryz.prog 35 #[.pointer (some ⟨B, 0, none⟩), .string ⟨m.toArray⟩] W fun e w' => e = .returned (.bool (Rp.isS m s)) ∧ w' = W) := fun nv1 W h m => is_any h m
    cases hc : (Rp.isS [33] s || Rp.isS [45] s || Rp.isS [116, 121, 112, 101, 111, 102] s)
    · rw [hc] at e
      simp only [Bool.false_eq_true, if_false] at e
      simp only [Bool.or_eq_false_iff] at hc
      obtain ⟨⟨i1, i2⟩, i3⟩ := hc
      have R2 : Ru L.p s r s' := ⟨e, hsm⟩
      have HBB : Hid (s.bad = false) := hb
      have HI1 : Hid (∀ (nv1 : Value) (W : World), RS src F base B (dep + 1) s nv1 W → Calls Tryz.prog 35 #[.pointer (some ⟨B, 0, none⟩), .string ⟨#[33]⟩] W fun e w' => e = .returned (.bool false) ∧ w' = W) := fun nv1 W h => by have := is_any h [33]; rw [i1] at this; exact this
      have HI2 : Hid (∀ (nv1 : Value) (W : World), RS src F base B (dep + 1) s nv1 W → Calls Tryz.prog 35 #[.pointer (some ⟨B, 0, none⟩), .string ⟨#[45]⟩] W fun e w' => e = .returned (.bool false) ∧ w' = W) := fun nv1 W h => by have := is_any h [45]; rw [i2] at this; exact this
      have HI3 : Hid (∀ (nv1 : Value) (W : World), RS src F base B (dep + 1) s nv1 W → Calls Tryz.prog 35 #[.pointer (some ⟨B, 0, none⟩), .string ⟨#[116, 121, 112, 101, 111, 102]⟩] W fun e w' => e = .returned (.bool false) ∧ w' = W) := fun nv1 W h => by have := is_any h [116, 121, 112, 101, 111, 102]; rw [i3] at this; exact this
      clear e hb h E HT i1 i2 i3
      go_enter Tryz.func115, Tryz.ntmps115
      go_wp2_with fail
      refine Calls.mono HI.out ?_
      rintro e w1 ⟨rfl, hr1, hc1⟩
      obtain ⟨d0, d1, d2, d3, d4, d5, d7, d9, df, dlt⟩ := hr1.cl
      have HR1 : Hid (_) := hr1
      have HC1 : Hid (_) := hc1
      clear hr1 hc1 c0 c1 c2 c3 c4 c5 c7 c9 cf hlt
      generalize Rp.nx s = T at *
      go_wp2_with fail
      refine Calls.mono (HI1.out _ _ HR1.out) ?_
      rintro e w2 ⟨rfl, rfl⟩
      go_wp2_with fail
      refine Calls.mono (HI2.out _ _ HR1.out) ?_
      rintro e w3 ⟨rfl, rfl⟩
      go_wp2_with fail
      refine Calls.mono (HI3.out _ _ HR1.out) ?_
      rintro e w4 ⟨rfl, rfl⟩
      go_wp2_with fail
      refine Calls.mono ((hL _).p HBB.out R2 HR1.out) ?_
      rintro e w5 ⟨rfl, nv5, hr5, hc5⟩
      clear d0 d1 d2 d3 d4 d5 d7 d9 df dlt
      go_wp2_with fail
      refine Calls.mono (c_out hr5) ?_
      rintro e w6 ⟨rfl, hr6, hc6⟩
      go_wp2_with fail
      go_ret
      exact ⟨rfl, nv5, hr6, (HC1.out.trans hc5).trans hc6⟩
    · rw [hc] at e
      simp only [if_true] at e
      have hk : (Rp.nx s).k ≠ 0 ∧ (Rp.nx s).k ≠ 6 := by
        cases e1 : Rp.isS [33] s
        · cases e2 : Rp.isS [45] s
          · rw [e1, e2] at hc; exact isS_k hc
          · exact isS_k e2
        · exact isS_k e1
      rcases e2 : L.u (Rp.move s) with ⟨k, s2⟩
      rw [e2] at e
      simp only at e
      have R3 : Ru (Rp.put { k := 14, t := (Rp.nx s).t, kids := [k], a := (Rp.nx s).a }) s2 r s' := ⟨e, hsm⟩
      have n2 := R3.back (Rp.pre_len.put _)
      have R2 : Ru L.u (Rp.move s) k s2 := ⟨e2, n2⟩
      have HMV : Hid (∀ (nv1 : Value) (W : World), RS src F base B (dep + 1) s nv1 W → Calls Tryz.prog 63 #[.pointer (some ⟨B, 0, none⟩)] W (Tells src F base B (dep + 1) nv1 W (Rp.move s) (.tuple #[]))) := fun nv1 W h => move_any h hk.1 hk.2
      generalize Rp.move s = sm at *
      have i1 : Rp.isS [33] s = true ∨ (Rp.isS [33] s = false ∧ Rp.isS [45] s = true) ∨ (Rp.isS [33] s = false ∧ Rp.isS [45] s = false ∧ Rp.isS [116, 121, 112, 101, 111, 102] s = true) := by
        cases e1 : Rp.isS [33] s
        · cases e2 : Rp.isS [45] s
          · rw [e1, e2] at hc; exact .inr (.inr ⟨rfl, rfl, hc⟩)
          · exact .inr (.inl ⟨rfl, rfl⟩)
        · exact .inl rfl
      have HT1 : Hid (∀ b, Rp.isS [33] s = b → ∀ (nv1 : Value) (W : World), RS src F base B (dep + 1) s nv1 W → Calls Tryz.prog 35 #[.pointer (some ⟨B, 0, none⟩), .string ⟨#[33]⟩] W fun e w' => e = .returned (.bool b) ∧ w' = W) := fun b hb nv1 W h => by have := is_any h [33]; rw [hb] at this; exact this
      have HT2 : Hid (∀ b, Rp.isS [45] s = b → ∀ (nv1 : Value) (W : World), RS src F base B (dep + 1) s nv1 W → Calls Tryz.prog 35 #[.pointer (some ⟨B, 0, none⟩), .string ⟨#[45]⟩] W fun e w' => e = .returned (.bool b) ∧ w' = W) := fun b hb nv1 W h => by have := is_any h [45]; rw [hb] at this; exact this
      have HT3 : Hid (∀ b, Rp.isS [116, 121, 112, 101, 111, 102] s = b → ∀ (nv1 : Value) (W : World), RS src F base B (dep + 1) s nv1 W → Calls Tryz.prog 35 #[.pointer (some ⟨B, 0, none⟩), .string ⟨#[116, 121, 112, 101, 111, 102]⟩] W fun e w' => e = .returned (.bool b) ∧ w' = W) := fun b hb nv1 W h => by have := is_any h [116, 121, 112, 101, 111, 102]; rw [hb] at this; exact this
      have HWW : Hid (_) := i1
      clear e hb h E HT hc e2 n2 hk i1
      go_enter Tryz.func115, Tryz.ntmps115
      go_wp2_with fail
      refine Calls.mono HI.out ?_
      rintro e w1 ⟨rfl, hr1, hc1⟩
      obtain ⟨d0, d1, d2, d3, d4, d5, d7, d9, df, dlt⟩ := hr1.cl
      have HR1 : Hid (_) := hr1
      have HC1 : Hid (_) := hc1
      clear hr1 hc1 c0 c1 c2 c3 c4 c5 c7 c9 cf hlt
      have hww := HWW.out
      clear HWW
      rcases hww with i1 | ⟨i1, i2⟩ | ⟨i1, i2, i3⟩
      · have J1 : Hid (_) := HT1.out _ i1
        clear i1 HT1 HT2 HT3
        generalize Rp.nx s = T at *
        go_wp2_with fail
        refine Calls.mono (J1.out _ _ HR1.out) ?_
        rintro e w2 ⟨rfl, rfl⟩
        go_wp2_with fail
        refine Calls.mono (HMV.out _ _ HR1.out) ?_
        rintro e w5 ⟨rfl, nv5, hr5, hc5⟩
        clear d0 d1 d2 d3 d4 d5 d7 d9 df dlt
        go_wp2_with fail
        refine Calls.mono ((hL _).u R2 hr5) ?_
        rintro e w6 ⟨rfl, nv6, hr6, hc6⟩
        go_wp2_with fail
        refine Calls.mono (c_putB (k := 14) (n := 0) (t := T.t) (K := [k]) (a := T.a) R3 hr6 #[.int .i64 (k : Int)] 1 rfl (fun j hj => by
          have : j = 0 := by simpa using hj
          subst this; rfl) (Below.refl _ _)) ?_
        rintro e w7 ⟨rfl, nv7, hr7, hc7⟩
        go_wp2_with fail
        refine Calls.mono (c_out hr7) ?_
        rintro e w8 ⟨rfl, hr8, hc8⟩
        go_wp2_with fail
        go_ret
        exact ⟨rfl, nv7, hr8, (((HC1.out.trans hc5).trans hc6).trans hc7).trans hc8⟩
      · have J1 : Hid (_) := HT1.out _ i1
        have J2 : Hid (_) := HT2.out _ i2
        clear i1 i2 HT1 HT2 HT3
        generalize Rp.nx s = T at *
        go_wp2_with fail
        refine Calls.mono (J1.out _ _ HR1.out) ?_
        rintro e w2 ⟨rfl, rfl⟩
        go_wp2_with fail
        refine Calls.mono (J2.out _ _ HR1.out) ?_
        rintro e w3 ⟨rfl, rfl⟩
        go_wp2_with fail
        refine Calls.mono (HMV.out _ _ HR1.out) ?_
        rintro e w5 ⟨rfl, nv5, hr5, hc5⟩
        clear d0 d1 d2 d3 d4 d5 d7 d9 df dlt
        go_wp2_with fail
        refine Calls.mono ((hL _).u R2 hr5) ?_
        rintro e w6 ⟨rfl, nv6, hr6, hc6⟩
        go_wp2_with fail
        refine Calls.mono (c_putB (k := 14) (n := 0) (t := T.t) (K := [k]) (a := T.a) R3 hr6 #[.int .i64 (k : Int)] 1 rfl (fun j hj => by
          have : j = 0 := by simpa using hj
          subst this; rfl) (Below.refl _ _)) ?_
        rintro e w7 ⟨rfl, nv7, hr7, hc7⟩
        go_wp2_with fail
        refine Calls.mono (c_out hr7) ?_
        rintro e w8 ⟨rfl, hr8, hc8⟩
        go_wp2_with fail
        go_ret
        exact ⟨rfl, nv7, hr8, (((HC1.out.trans hc5).trans hc6).trans hc7).trans hc8⟩
      · have J1 : Hid (_) := HT1.out _ i1
        have J2 : Hid (_) := HT2.out _ i2
        have J3 : Hid (_) := HT3.out _ i3
        clear i1 i2 i3 HT1 HT2 HT3
        generalize Rp.nx s = T at *
        go_wp2_with fail
        refine Calls.mono (J1.out _ _ HR1.out) ?_
        rintro e w2 ⟨rfl, rfl⟩
        go_wp2_with fail
        refine Calls.mono (J2.out _ _ HR1.out) ?_
        rintro e w3 ⟨rfl, rfl⟩
        go_wp2_with fail
        refine Calls.mono (J3.out _ _ HR1.out) ?_
        rintro e w4 ⟨rfl, rfl⟩
        go_wp2_with fail
        refine Calls.mono (HMV.out _ _ HR1.out) ?_
        rintro e w5 ⟨rfl, nv5, hr5, hc5⟩
        clear d0 d1 d2 d3 d4 d5 d7 d9 df dlt
        go_wp2_with fail
        refine Calls.mono ((hL _).u R2 hr5) ?_
        rintro e w6 ⟨rfl, nv6, hr6, hc6⟩
        go_wp2_with fail
        refine Calls.mono (c_putB (k := 14) (n := 0) (t := T.t) (K := [k]) (a := T.a) R3 hr6 #[.int .i64 (k : Int)] 1 rfl (fun j hj => by
          have : j = 0 := by simpa using hj
          subst this; rfl) (Below.refl _ _)) ?_
        rintro e w7 ⟨rfl, nv7, hr7, hc7⟩
        go_wp2_with fail
        refine Calls.mono (c_out hr7) ?_
        rintro e w8 ⟨rfl, hr8, hc8⟩
        go_wp2_with fail
        go_ret
        exact ⟨rfl, nv7, hr8, (((HC1.out.trans hc5).trans hc6).trans hc7).trans hc8⟩
  · have HS : Hid (_) := h.spoil
    have hsp := spoil_bad hb
    rw [hb] at e c9
    obtain ⟨rfl, rfl⟩ : r = 0 ∧ s' = s := by simp at e; exact ⟨e.1.symm, e.2.symm⟩
    rw [hsp] at HS
    clear e hb E h hsp
    go_enter Tryz.func115, Tryz.ntmps115
    go_wp2_with fail
    go_ret
    exact ⟨rfl, nv, HS.out.1, HS.out.2⟩
set_option maxRecDepth 100000 in
set_option maxHeartbeats 4000000 in
theorem u_full (hd : dep = 40) (h : RS src F base B dep s nv w) : Calls Tryz.prog 115 #[.pointer (some ⟨B, 0, none⟩)] w (Tells src F base B dep nv w (Rp.spoil s) (.int .i64 0)) := by
  obtain ⟨c0, c1, c2, c3, c4, c5, c7, c9, cf, hlt⟩ := h.cl
  have HS : Hid (_) := h.spoil
  cases hb : s.bad
  · have HI : Hid (_) := c_inFull h hb hd
    rw [hb] at c9
    clear hb h HS
    go_enter Tryz.func115, Tryz.ntmps115
    go_wp2_with fail
    refine Calls.mono HI.out ?_
    rintro e w1 ⟨rfl, hr1, hc1⟩
    obtain ⟨d0, d1, d2, d3, d4, d5, d7, d9, df, dlt⟩ := hr1.cl
    have HS2 : Hid (_) := hr1.spoil
    have HC1 : Hid (_) := hc1
    clear hr1 hc1
    go_wp2_with fail
    go_ret
    exact ⟨rfl, nv, HS2.out.1, HC1.out.trans HS2.out.2⟩
  · rw [hb] at c9
    clear hb h
    go_enter Tryz.func115, Tryz.ntmps115
    go_wp2_with fail
    go_ret
    exact ⟨rfl, nv, HS.out.1, HS.out.2⟩
end
end Go.Proofs.YtpjmapoiinjakaaGreatDoor.Rd
end
section
namespace Go.Proofs.YtpjmapoiinjakaaGreatDoor.Rd
open Go.RowKit
open L (tkA own_block own_below intOf info_of size_list wpList_append_run)
set_option linter.unusedVariables false
section
variable {src : ByteArray} {F : Nat → Prop} {base B dep : Nat} {s s' : Rp.Rt} {nv : Value} {w : World}
theorem func_ru {L : Rp.Lr} {r : Nat} {named : Bool} (hP : LvP L) (E : Ru (Rp.func L named) s r s') : ∃ s1 b s2 t s3 s4 N s5 s6 s7 K s8 s9, Ru (up (Rp.must [102, 117, 110, 99, 116, 105, 111, 110])) s () s1 ∧ Ru (Rp.has [42]) s1 b s2 ∧ Ru (Rp.fname named) s2 t s3 ∧ Ru (up (Rp.must [40])) s3 () s4 ∧ Ru Rp.pars s4 N s5 ∧ Ru (up (Rp.must [41])) s5 () s6 ∧ Ru (up (Rp.must [123])) s6 () s7 ∧ Ru (Rp.list L false) s7 K s8 ∧ Ru (up (Rp.must [125])) s8 () s9 ∧ Ru (Rp.put { k := 10, n := if b then 1 else 0, t := t, names := N, kids := K, a := (Rp.nx s).a }) s9 r s' := by
  have e := E.eq
  have hsm := E.small
  generalize e1 : Rp.must [102, 117, 110, 99, 116, 105, 111, 110] s = s1
  rcases e2 : Rp.has [42] s1 with ⟨b, s2⟩
  rcases e3 : Rp.fname named s2 with ⟨t, s3⟩
  generalize e4 : Rp.must [40] s3 = s4
  rcases e5 : Rp.pars s4 with ⟨N, s5⟩
  generalize e6 : Rp.must [41] s5 = s6
  generalize e7 : Rp.must [123] s6 = s7
  rcases e8 : Rp.list L false s7 with ⟨K, s8⟩
  generalize e9 : Rp.must [125] s8 = s9
  have hf : Rp.func L named s = Rp.put { k := 10, n := if (Rp.has [42] (Rp.must [102, 117, 110, 99, 116, 105, 111, 110] s)).1 then 1 else 0, t := (Rp.fname named (Rp.has [42] (Rp.must [102, 117, 110, 99, 116, 105, 111, 110] s)).2).1, names := (Rp.pars (Rp.must [40] (Rp.fname named (Rp.has [42] (Rp.must [102, 117, 110, 99, 116, 105, 111, 110] s)).2).2)).1, kids := (Rp.body L (Rp.must [41] (Rp.pars (Rp.must [40] (Rp.fname named (Rp.has [42] (Rp.must [102, 117, 110, 99, 116, 105, 111, 110] s)).2).2)).2)).1, a := (Rp.nx s).a } (Rp.body L (Rp.must [41] (Rp.pars (Rp.must [40] (Rp.fname named (Rp.has [42] (Rp.must [102, 117, 110, 99, 116, 105, 111, 110] s)).2).2)).2)).2 := rfl
  have hb : ∀ x, Rp.body L x = ((Rp.list L false (Rp.must [123] x)).1, Rp.must [125] (Rp.list L false (Rp.must [123] x)).2) := fun x => rfl
  rw [hf] at e
  simp only [hb, e1, e2, e3, e4, e5, e6, e7, e8, e9] at e
  have R10 : Ru (Rp.put { k := 10, n := if b then 1 else 0, t := t, names := N, kids := K, a := (Rp.nx s).a }) s9 r s' := ⟨e, hsm⟩
  have n9 := R10.back (Rp.pre_len.put _)
  have R9 : Ru (up (Rp.must [125])) s8 () s9 := ⟨by unfold up; rw [e9], n9⟩
  have n8 := R9.back (kp_up (Rp.kp_must Rp.pre_len _))
  have R8 : Ru (Rp.list L false) s7 K s8 := ⟨e8, n8⟩
  have n7 := R8.back (Rp.kp_list Rp.pre_len hP.gr false)
  have R7 : Ru (up (Rp.must [123])) s6 () s7 := ⟨by unfold up; rw [e7], n7⟩
  have n6 := R7.back (kp_up (Rp.kp_must Rp.pre_len _))
  have R6 : Ru (up (Rp.must [41])) s5 () s6 := ⟨by unfold up; rw [e6], n6⟩
  have n5 := R6.back (kp_up (Rp.kp_must Rp.pre_len _))
  have R5 : Ru Rp.pars s4 N s5 := ⟨e5, n5⟩
  have n4 := R5.back (Rp.kp_pars Rp.pre_len)
  have R4 : Ru (up (Rp.must [40])) s3 () s4 := ⟨by unfold up; rw [e4], n4⟩
  have n3 := R4.back (kp_up (Rp.kp_must Rp.pre_len _))
  have R3 : Ru (Rp.fname named) s2 t s3 := ⟨e3, n3⟩
  have n2 := R3.back (Rp.kp_fname Rp.pre_len named)
  have R2 : Ru (Rp.has [42]) s1 b s2 := ⟨e2, n2⟩
  have n1 := R2.back (Rp.kp_has Rp.pre_len _)
  exact ⟨s1, b, s2, t, s3, s4, N, s5, s6, s7, K, s8, s9, ⟨by unfold up; rw [e1], n1⟩, R2, R3, R4, R5, R6, R7, R8, R9, R10⟩
/-- A function's box, at hand. -/
def FnS (src : ByteArray) (F : Nat → Prop) (base B dep : Nat) (nv0 : Value) (w W : World) (x1 x2 x5 : Value) (N : List (List UInt8)) (s : Rp.Rt) : Prop := ∃ nv na ncap, Bx src F base B dep s nv w W w.heap.size (.int .i64 10) x1 x2 x5 N na ncap [] none 0 ∧ Chg B nv0 nv w W
/-- What the walk is told behind the append of a name. -/
def ApN (src : ByteArray) (F : Nat → Prop) (base B dep : Nat) (nv0 : Value) (w : World) (x1 x2 x5 : Value) (N : List (List UInt8)) (s : Rp.Rt) (old v' : Value) (w3 : World) : Prop :=
  ∃ a' cap', v' = .slice a' (N.length) cap' ∧ w3.cell? ⟨w.heap.size, 3, none⟩ = some old ∧ w3.frozen? ⟨w.heap.size, 3, none⟩ = false ∧ w.heap.size < w3.heap.size ∧ Hid (FnS src F base B dep nv0 w (w3.setCell ⟨w.heap.size, 3, none⟩ (.slice a' N.length cap')) x1 x2 x5 N s)
/-- Where the loop of a function's names stands. -/
def FnL (src : ByteArray) (F : Nat → Prop) (base B dep : Nat) (nv0 : Value) (w W : World) (x1 x2 x5 : Value) (f : Nat) (N : List (List UInt8)) (s' : Rp.Rt) : Prop :=
  ∃ N1 q1, FnS src F base B dep nv0 w W x1 x2 x5 N1 q1 ∧ Rp.namesLoop f N1 q1 = (N, s') ∧ q1.toks.length ≤ f ∧ N1.length + f ≤ 100001
/-- A name is told beside the box, and put behind the others. -/
theorem name_step {x1 x2 x5 : Value} {N : List (List UInt8)} {na : Option Addr} {ncap : Nat} {nv0 : Value} {W : World} {t : List UInt8} (R : Ru Rp.rname s t s') (h : Bx src F base B dep s nv w W w.heap.size (.int .i64 10) x1 x2 x5 N na ncap [] none 0) (hc : Chg B nv0 nv w W) (hn : N.length + 1 ≤ 1000000) :
    (∀ W1, Below W.heap.size W W1 → Calls Tryz.prog 62 #[.pointer (some ⟨B, 0, none⟩)] W1 fun e w' => e = .returned (.string ⟨t.toArray⟩) ∧ w'.cell? ⟨w.heap.size, 3, none⟩ = some (.slice na N.length ncap) ∧ w.heap.size < w'.heap.size ∧ Hid (∃ nv', Bx src F base B dep s' nv' w w' w.heap.size (.int .i64 10) x1 x2 x5 N na ncap [] none 0 ∧ Chg B nv0 nv' w w')) ∧
    (∀ W1, Hid (∃ nv', Bx src F base B dep s' nv' w W1 w.heap.size (.int .i64 10) x1 x2 x5 N na ncap [] none 0 ∧ Chg B nv0 nv' w W1) → ∃ v' w3, (Builtin.append_ #[35, 35] 35 #[.slice na N.length ncap, .slice (some ⟨W1.heap.size, 0, none⟩) 1 1]).run Tryz.prog (W1.alloc (.cells #[.string ⟨t.toArray⟩] 9)) = .ok v' w3 ∧ ApN src F base B dep nv0 w x1 x2 x5 (N ++ [t]) s' (.slice na N.length ncap) v' w3) := by
  refine ⟨fun W1 hW => ?_, fun W1 hW => ?_⟩
  · have hb := h.go (h.rs.below hW) (Chg.below nv hW)
    refine (c_name R hb.rs).mono ?_
    rintro e w' ⟨rfl, nv', hr', hc'⟩
    have hb' := hb.go hr' hc'
    obtain ⟨_, _, _, f3, _, _, _, _, _, _, _, _, fl⟩ := hb'.facts
    exact ⟨rfl, f3, fl, nv', hb', (hc.trans (Chg.below nv hW)).trans hc'⟩
  · obtain ⟨nv', hb, hc'⟩ := hW
    obtain ⟨a', cap', w3, hr, k1, k2, k3, hb', hch⟩ := hb.name t hn
    exact ⟨_, w3, hr, a', cap', by simp, k1, k2, k3, nv', a', cap', by simpa using hb', by simpa using hch _ hc'⟩
set_option maxRecDepth 100000 in
set_option maxHeartbeats 1000000 in
theorem c_func {L : Rp.Lr} {r : Nat} {named : Bool} (hL : ∀ F, LvC src F base B dep L) (hP : LvP L) (E : Ru (Rp.func L named) s r s') (h : RS src F base B dep s nv w) :
    Calls Tryz.prog 56 #[.pointer (some ⟨B, 0, none⟩), .bool named] w (Tells src F base B dep nv w s' (.int .i64 (r : Int))) := by
  obtain ⟨s1, b, s2, t, s3, s4, N, s5, s6, s7, K, s8, s9, R1, R2, R3, R4, R5, R6, R7, R8, R9, R10⟩ := func_ru hP E
  obtain ⟨c0, c1, c2, c3, c4, c5, c7, c9, cf, hlt⟩ := h.cl
  have HBX : Hid (_) := fun y0 y1 y2 y5 => Bx.new h y0 y1 y2 y5
  have H : Hid (_) := h
  clear E h
  generalize Rp.nx s = T at *
  go_enter Tryz.func56, Tryz.ntmps56
  go_wp2_with fail
  have hb1 := HBX.out (.int .i64 10) (.int .i64 0) (.string ⟨#[]⟩) (.int .i64 (T.a : Int))
  refine Calls.mono (c_must R1 hb1.rs) ?_
  rintro e w1 ⟨rfl, nv1, hr1, hc1⟩
  have HB1 : Hid (_) := hb1.go hr1 hc1
  have HC1 : Hid (Chg B nv nv1 w w1) := (Chg.below nv ((Below.refl w.heap.size w).alloc (Nat.le_refl _) _)).trans hc1
  clear hb1 hr1 hc1 HBX c0 c1 c2 c3 c4 c5 c7 c9 cf hlt
  go_wp2_with fail
  refine Calls.mono (c_has R2 HB1.out.rs) ?_
  rintro e w2 ⟨rfl, nv2, hr2, hc2⟩
  have HB2 : Hid (_) := HB1.out.go hr2 hc2
  have HC2 : Hid (Chg B nv nv2 w w2) := HC1.out.trans hc2
  obtain ⟨g0, g1, g2, g3, g4, g5, z0, z1, z2, z3, z4, z5, gl⟩ := HB2.out.facts
  clear hr2 hc2 HB1 HC1 R1 R2
  go_upto_if 16 with fail
  go_cut [] (fun wx => Hid (FnS src F base B dep nv w wx (.int .i64 ((if b then 1 else 0 : Nat) : Int)) (.string ⟨#[]⟩) (.int .i64 (T.a : Int)) [] s2))
  case first =>
    cases b
    · go_wp2_with fail
      go_meet
      case rel => exact ⟨nv2, none, 0, HB2.out, HC2.out⟩
    · go_wp2_with fail
      go_meet
      case rel => exact ⟨nv2, none, 0, HB2.out.set1 _, HC2.out.setX (Nat.le_refl _) 1 _⟩
  case rest =>
    clear HB2 HC2 g0 g1 g2 g3 g4 g5 z0 z1 z2 z3 z4 z5 gl
    obtain ⟨nv3, na, ncap, hb3, hc3⟩ := Hid.out hcut
    obtain ⟨g0, g1, g2, g3, g4, g5, z0, z1, z2, z3, z4, z5, gl⟩ := hb3.facts
    obtain ⟨c0, c1, c2, c3, c4, c5, c7, c9, cf, hlt⟩ := hb3.rs.cl
    have e3 := R3.eq
    unfold Rp.fname at e3
    have HB3 : Hid (_) := hb3
    have HC3 : Hid (_) := hc3
    clear hcut hb3 hc3
    generalize hx1 : (.int .i64 ((if b then 1 else 0 : Nat) : Int) : Value) = x1 at *
    have HX1 : Hid (_) := hx1
    clear hx1
    obtain ⟨q, hq⟩ : ∃ q, (named || decide ((Rp.nx s2).k = 3)) = q := ⟨_, rfl⟩
    rw [hq] at e3
    have HE3 : Hid (_) := e3
    have HS3 : Hid (s3.nodes.length ≤ 1000000000) := R3.small
    clear e3 R3
    go_upto_region 5 with fail
    go_cut [27] (fun v wx => v = .bool q ∧ Hid (FnS src F base B dep nv w wx x1 (.string ⟨#[]⟩) (.int .i64 (T.a : Int)) [] s2))
    case first =>
      cases named
      · by_cases hk : (Rp.nx s2).k = 3
        · obtain rfl : q = true := by rw [← hq]; simp [hk]
          rw [hk] at c1
          clear HE3 HS3 hq hk
          generalize Rp.nx s2 = T2 at *
          go_wp2_with fail
          go_meet
          case rel => exact ⟨rfl, nv3, na, ncap, HB3.out, HC3.out⟩
        · obtain rfl : q = false := by rw [← hq]; simp [hk]
          have e3 : (((Rp.nx s2).k : Int) == 3) = false := by rw [beq_eq_false_iff_ne]; omega
          clear HE3 HS3 hq hk
          generalize Rp.nx s2 = T2 at *
          go_wp2_with fail
          go_meet
          case rel => exact ⟨rfl, nv3, na, ncap, HB3.out, HC3.out⟩
      · obtain rfl : q = true := by rw [← hq]; simp
        clear HE3 HS3 hq
        generalize Rp.nx s2 = T2 at *
        go_wp2_with fail
        go_meet
        case rel => exact ⟨rfl, nv3, na, ncap, HB3.out, HC3.out⟩
    case rest =>
    clear HB3 HC3 g0 g1 g2 g3 g4 g5 z0 z1 z2 z3 z4 z5 gl c0 c1 c2 c3 c4 c5 c7 c9 cf hlt hq
    obtain ⟨rfl, hcut⟩ := hcut
    obtain ⟨nv3, na, ncap, hb3, hc3⟩ := Hid.out hcut
    obtain ⟨g0, g1, g2, g3, g4, g5, z0, z1, z2, z3, z4, z5, gl⟩ := hb3.facts
    have HB3 : Hid (_) := hb3
    have HC3 : Hid (_) := hc3
    clear hcut hb3 hc3
    go_upto_if 27 with fail
    go_cut [] (fun wx => Hid (FnS src F base B dep nv w wx x1 (.string ⟨t.toArray⟩) (.int .i64 (T.a : Int)) [] s3))
    case first =>
      cases q
      · have hts : t = [] ∧ s3 = s2 := by
          have := HE3.out
          rw [if_neg (by simp)] at this
          cases this; exact ⟨rfl, rfl⟩
        obtain ⟨rfl, rfl⟩ := hts
        clear HE3 HS3
        go_wp2_with fail
        go_meet
        case rel => exact ⟨nv3, na, ncap, HB3.out, HC3.out⟩
      · have R3 : Ru Rp.rname s2 t s3 := ⟨by have := HE3.out; simpa using this, HS3.out⟩
        clear HE3 HS3
        go_wp2_with fail
        refine Calls.mono (c_name R3 HB3.out.rs) ?_
        rintro e w4 ⟨rfl, nv4, hr4, hc4⟩
        have HB4 : Hid (_) := HB3.out.go hr4 hc4
        have HC4 : Hid (_) := HC3.out.trans hc4
        clear g0 g1 g2 g3 g4 g5 z0 z1 z2 z3 z4 z5 gl hr4 hc4
        obtain ⟨g0, g1, g2, g3, g4, g5, z0, z1, z2, z3, z4, z5, gl⟩ := HB4.out.facts
        go_wp2_with fail
        go_meet
        case rel => exact ⟨nv4, na, ncap, HB4.out.set2 _, HC4.out.setX (Nat.le_refl _) 2 _⟩
    case rest =>
      clear HE3 HS3 HB3 HC3 g0 g1 g2 g3 g4 g5 z0 z1 z2 z3 z4 z5 gl
      obtain ⟨nv4, na4, ncap4, hb4, hc4⟩ := Hid.out hcut
      have HB4 : Hid (_) := hb4
      have HC4 : Hid (_) := hc4
      clear hcut hb4 hc4
      generalize hx2 : (.string ⟨t.toArray⟩ : Value) = x2 at *
      have HX2 : Hid (_) := hx2
      clear hx2
      go_wp2_with fail
      refine Calls.mono (c_must R4 HB4.out.rs) ?_
      rintro e w5 ⟨rfl, nv5, hr5, hc5⟩
      have HB5 : Hid (_) := HB4.out.go hr5 hc5
      have HC5 : Hid (_) := HC4.out.trans hc5
      clear hr5 hc5 HB4 HC4 R4
      have HIS : Hid (_) := is_any HB5.out.rs [41]
      have e5 := R5.eq
      unfold Rp.pars at e5
      have HE5 : Hid (_) := e5
      have HS5 : Hid (s5.nodes.length ≤ 1000000000) := R5.small
      obtain ⟨g0, g1, g2, g3, g4, g5, z0, z1, z2, z3, z4, z5, gl⟩ := HB5.out.facts
      clear e5 R5
      go_wp2_with fail
      refine Calls.mono HIS.out ?_
      rintro e w6 ⟨rfl, rfl⟩
      go_upto_if 35 with fail
      go_cut [] (fun wx => Hid (FnS src F base B dep nv w wx x1 x2 (.int .i64 (T.a : Int)) N s5))
      case first =>
        cases hi : Rp.isS [41] s4
        · have e6 := HE5.out
          rw [hi] at e6
          simp only [Bool.false_eq_true, if_false] at e6
          rcases e7 : Rp.rname s4 with ⟨t1, p1⟩
          rw [e7] at e6
          simp only at e6
          have np1 : p1.nodes.length ≤ 1000000000 := gb (Rp.kp_namesLoop Rp.pre_len _ _) e6 HS5.out
          have Q1 : Ru Rp.rname s4 t1 p1 := ⟨e7, np1⟩
          obtain ⟨nm1, ap1⟩ := name_step (N := []) Q1 (show Bx src F base B dep s4 nv5 w w6 w.heap.size (.int .i64 10) x1 x2 (.int .i64 (T.a : Int)) [] na4 ncap4 [] none 0 from HB5.out) HC5.out (by simp)
          have HNM1 : Hid (_) := nm1
          have HAP1 : Hid (_) := ap1
          have HE6 : Hid (_) := e6
          clear e6 e7 np1 nm1 ap1 HE5 hi HIS
          go_upto_region 9 with fail
          go_cut [] (fun wx => Hid (FnS src F base B dep nv w wx x1 x2 (.int .i64 (T.a : Int)) [t1] p1))
          case first =>
            go_region_law (first | (refine step_append_ex (by rfl) _ _ 35 (by rfl) _ _ (by rfl) (by rfl) (ApN src F base B dep nv w x1 x2 (.int .i64 (T.a : Int)) [t1] p1 (.slice na4 0 ncap4)) (HAP1.out _ (by assumption)) ?_; rintro v' w7 ⟨a7, cap7, rfl, hc7, hf7, hl7, HA7⟩) | (go_simp; go_at_call 62; refine Calls.mono (HNM1.out _ (by repeat (first | with_reducible exact Below.refl _ _ | with_reducible refine Below.drew ?_))) ?_; rintro e w5 ⟨rfl, hx5, hX5, HO5⟩; try dsimp only))
            all_goals
              go_wp2_with fail
              go_meet
              case rel => exact HA7
          case rest =>
            clear HNM1 HAP1 HB5 HC5 g0 g1 g2 g3 g4 g5 z0 z1 z2 z3 z4 z5 gl
            have HST : Hid (FnL src F base B dep nv w wc x1 x2 (.int .i64 (T.a : Int)) p1.toks.length N s5) := (show FnL _ _ _ _ _ _ _ _ _ _ _ _ _ _ from ⟨[t1], p1, Hid.out hcut, HE6.out, Nat.le_refl _, by
              obtain ⟨_, _, _, hb, _⟩ := Hid.out hcut
              have := hb.rs.toks; simp; omega⟩)
            clear hcut HE6
            go_wp2_with fail
            go_loopg [] (p1.toks.length) (fun f W => Hid (FnL src F base B dep nv w W x1 x2 (.int .i64 (T.a : Int)) f N s5))
            case atStart => exact HST
            case round =>
              clear HST
              obtain ⟨N1, q1, hfs, hrun, hf, hcnt⟩ := Hid.out hrel
              obtain ⟨nv8, na8, ncap8, hb8, hc8⟩ := hfs
              have hg := hb8.rs.gd
              obtain ⟨f, rfl⟩ : ∃ f', gk = f' + 1 := ⟨gk - 1, by have := hg.one; omega⟩
              have nq1 : q1.nodes.length ≤ 1000000000 := gb (Rp.kp_namesLoop Rp.pre_len _ _) hrun HS5.out
              unfold Rp.namesLoop at hrun
              cases e1 : Rp.has [44] q1 with
              | mk b1 q2 =>
              have T1 := ru_has [44] q1 nq1 e1
              rw [e1] at hrun
              have HB8 : Hid (_) := hb8
              have HC8 : Hid (_) := hc8
              cases b1
              · simp only [Prod.mk.injEq] at hrun
                obtain ⟨rfl, rfl⟩ := hrun
                clear hrel hb8 hc8 hg nq1 e1 hf hcnt
                go_wp2_with fail
                refine Calls.mono (c_has T1 HB8.out.rs) ?_
                rintro e w9 ⟨rfl, nv9, hr9, hc9⟩
                have HB9 : Hid (_) := HB8.out.go hr9 hc9
                have HC9 : Hid (_) := HC8.out.trans hc9
                clear hr9 hc9 HB8 HC8
                go_wp2_with fail
                go_meet
                case rel => exact ⟨nv9, na8, ncap8, HB9.out, HC9.out⟩
              · simp only at hrun
                rcases e2 : Rp.rname q2 with ⟨y, q3⟩
                rw [e2] at hrun
                simp only at hrun
                have nq3 : q3.nodes.length ≤ 1000000000 := gb (Rp.kp_namesLoop Rp.pre_len _ _) hrun HS5.out
                have T2 : Ru Rp.rname q2 y q3 := ⟨e2, nq3⟩
                have hon := Rp.has_on e1 hg
                have hbad : q2.bad = false := by
                  rw [(Rp.has_keep e1).2]
                  cases hb : q1.bad
                  · rfl
                  · unfold Rp.has at e1; rw [hb] at e1; simp at e1
                have hlt2 : q2.toks.length < q1.toks.length := by
                  rcases hon.2 with hh | hh
                  · rw [hbad] at hh; cases hh
                  · exact hh
                have hle := ((Rp.kp_rname Rp.pre_dn q2).1 hon.1).2
                rw [e2] at hle
                simp only at hle
                have HEND : Hid (∀ W, FnS src F base B dep nv w W x1 x2 (.int .i64 (T.a : Int)) (N1 ++ [y]) q3 → FnL src F base B dep nv w W x1 x2 (.int .i64 (T.a : Int)) f N s5) := fun W hW => ⟨N1 ++ [y], q3, hW, hrun, by omega, by simp; omega⟩
                have HCN : Hid (N1.length + (f + 1) ≤ 100001) := hcnt
                clear hrel hb8 hc8 hg nq1 e1 e2 hf hcnt hrun nq3 hon hbad hlt2 hle
                go_wp2_with fail
                refine Calls.mono (c_has T1 HB8.out.rs) ?_
                rintro e w9 ⟨rfl, nv9, hr9, hc9⟩
                have hb9 := HB8.out.go hr9 hc9
                have hc9' := HC8.out.trans hc9
                obtain ⟨g0, g1, g2, g3, g4, g5, z0, z1, z2, z3, z4, z5, gl⟩ := hb9.facts
                obtain ⟨nm1, ap1⟩ := name_step T2 hb9 hc9' (by have := HCN.out; omega)
                have HNM1 : Hid (_) := nm1
                have HAP1 : Hid (_) := ap1
                clear nm1 ap1 hb9 hc9 hc9' hr9 HB8 HC8
                go_upto_region 11 with fail
                go_region_law (first | (refine step_append_ex (by rfl) _ _ 35 (by rfl) _ _ (by rfl) (by rfl) (ApN src F base B dep nv w x1 x2 (.int .i64 (T.a : Int)) (N1 ++ [y]) q3 (.slice na8 N1.length ncap8)) (HAP1.out _ (by assumption)) ?_; rintro v' w7 ⟨a7, cap7, rfl, hc7, hf7, hl7, HA7⟩) | (go_simp; go_at_call 62; refine Calls.mono (HNM1.out _ (by repeat (first | with_reducible exact Below.refl _ _ | with_reducible refine Below.drew ?_))) ?_; rintro e w5 ⟨rfl, hx5, hX5, HO5⟩; try dsimp only))
                all_goals
                  have HEN : Hid (FnL src F base B dep nv w (w7.setCell ⟨w.heap.size, 3, none⟩ (.slice a7 (N1.length + 1) cap7)) x1 x2 (.int .i64 (T.a : Int)) f N s5) := HEND.out _ (by have := Hid.out HA7; rwa [show (N1 ++ [y]).length = N1.length + 1 by simp] at this)
                  clear HA7 HEND HNM1 HAP1 g0 g1 g2 g4 g5 z0 z1 z2 z3 z4 z5 gl
                  go_wp2_with fail
                  go_roundg f
                  case rel => exact HEN
                  case measure => omega
        · have e6 := HE5.out
          rw [hi] at e6
          obtain ⟨rfl, rfl⟩ : N = [] ∧ s5 = s4 := by cases e6; exact ⟨rfl, rfl⟩
          clear e6 HE5 hi HIS
          go_wp2_with fail
          go_meet
          case rel => exact ⟨nv5, na4, ncap4, HB5.out, HC5.out⟩
      case rest =>
        clear HE5 HS5 HIS HB5 HC5 g0 g1 g2 g3 g4 g5 z0 z1 z2 z3 z4 z5 gl
        obtain ⟨nv7, na7, ncap7, hb7, hc7⟩ := Hid.out hcut
        obtain ⟨hr8, hN8, hK8, hX8⟩ := hb7.vals H.out
        have HR8 : Hid (_) := hr8
        have HN8 : Hid (_) := hN8
        have HX8 : Hid (_) := hX8
        have HC8 : Hid (_) := hc7
        clear hcut hb7 hc7 hr8 hN8 hK8 hX8
        go_wp2_with fail
        refine Calls.mono (c_must R6 HR8.out) ?_
        rintro e w9 ⟨rfl, nv9, hr9, hc9⟩
        have HX9 : Hid (_) := HX8.out.go HR8.out hc9
        have HN9 : Hid (_) := HN8.out.go hc9
        have HC9 : Hid (_) := HC8.out.trans hc9
        have HR9 : Hid (_) := hr9
        clear hr9 hc9 HX8 HN8 HC8 HR8
        go_wp2_with fail
        refine Calls.mono (c_must R7 HR9.out) ?_
        rintro e w10 ⟨rfl, nv10, hr10, hc10⟩
        have HX10 : Hid (_) := HX9.out.go HR9.out hc10
        have HN10 : Hid (_) := HN9.out.go hc10
        have HC10 : Hid (_) := HC9.out.trans hc10
        have HR10 : Hid (_) := hr10
        clear hr10 hc10 HX9 HN9 HC9 HR9
        go_wp2_with fail
        refine Calls.mono (c_list hL hP R8 HR10.out) ?_
        rintro e w11 ⟨ad, cap, rfl, nv11, hr11, hc11, hk11⟩
        have hX11 := HX10.out.go HR10.out hc11
        obtain ⟨⟨g0, g1, g2, g3, g4, g5⟩, ⟨z1, z2, z3, z4⟩, gl⟩ := hX11.facts
        have HX11 : Hid (_) := hX11
        have HN11 : Hid (_) := HN10.out.go hc11
        have HC11 : Hid (_) := HC10.out.trans hc11
        have HR11 : Hid (_) := hr11
        have HK11 : Hid (_) := hk11
        clear hr11 hc11 HX10 HN10 HC10 HR10 hk11 hX11
        go_wp2_with fail
        have hX12 := HX11.out.set4 (.slice ad K.length cap)
        have hR12 := HR11.out.foreign (X := w.heap.size) (.inr rfl) 4 (.slice ad K.length cap)
        have hN12 := HN11.out.set (X := w.heap.size) (.inr rfl) 4 (.slice ad K.length cap)
        have hK12 := HK11.out.set (X := w.heap.size) (.inr rfl) 4 (.slice ad K.length cap)
        have HC12 : Hid (_) := HC11.out.setX (Nat.le_refl _) 4 (.slice ad K.length cap)
        have HX12 : Hid (_) := hX12
        have HR12 : Hid (_) := hR12
        have HN12 : Hid (_) := hN12
        have HK12 : Hid (_) := hK12
        clear hX12 hR12 hN12 hK12 HX11 HN11 HC11 HR11 HK11 g0 g1 g2 g3 g4 g5 z1 z2 z3 z4 gl
        generalize w11.setCell ⟨w.heap.size, 4, none⟩ (.slice ad K.length cap) = w12 at *
        refine Calls.mono (c_must R9 HR12.out) ?_
        rintro e w13 ⟨rfl, nv13, hr13, hc13⟩
        have hX13 := HX12.out.go HR12.out hc13
        obtain ⟨⟨g0, g1, g2, g3, g4, g5⟩, ⟨z1, z2, z3, z4⟩, gl⟩ := hX13.facts
        have HN13 : Hid (_) := HN12.out.go hc13
        have HK13 : Hid (_) := HK12.out.go hc13
        have HC13 : Hid (_) := HC12.out.trans hc13
        have HR13 : Hid (_) := hr13
        clear hr13 hc13 hX13 HX12 HN12 HK12 HC12 HR12
        go_wp2_with fail
        have hx1 := HX1.out
        have hx2 := HX2.out
        subst hx1 hx2
        refine Calls.mono (c_putV (k := 10) (n := if b then 1 else 0) (t := t) (N := N) (K := K) (a := T.a) R10 (HR13.out.less (fun k hk => .inl hk)) (HN13.out.less (fun k hk => .inl hk)) (HK13.out.less (fun k hk => .inl hk))) ?_
        rintro e w14 ⟨rfl, nv14, hr14, hc14⟩
        clear g0 g1 g2 g3 g4 g5 z1 z2 z3 z4 gl HX1 HX2
        go_wp2_with fail
        all_goals
          go_ret
          exact ⟨rfl, nv14, hr14, HC13.out.trans hc14⟩
end
end Go.Proofs.YtpjmapoiinjakaaGreatDoor.Rd
end
