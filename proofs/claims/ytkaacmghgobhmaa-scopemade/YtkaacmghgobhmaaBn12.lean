/- Texts: QN. -/
import Derived.Test.YtkaacmghgobhmaaBn11
namespace Go.Proofs.Ytkaacmghgobhmaa.Rd
open Go.RowKit
open L (tkA own_block own_below intOf info_of size_list wpList_append_run)
set_option linter.unusedVariables false
section
variable {src : ByteArray} {F : Nat → Prop} {base B dep : Nat} {s s' : Rp.Rt} {nv : Value} {w : World}
set_option maxRecDepth 100000 in
set_option maxHeartbeats 2000000 in
theorem c_one {L : Rp.Lr} {r : Nat} (hL : ∀ F, LvC src F base B dep L) (hP : LvP L) (E : Ru (Rp.one L) s r s') (h : RS src F base B dep s nv w) :
    Calls Try.prog 50 #[.pointer (some ⟨B, 0, none⟩)] w (Tells src F base B dep nv w s' (.int .i64 (r : Int))) := by
  have e := E.eq
  have hsm := E.small
  have hn0 := E.back (Rp.kp_one Rp.pre_len hP.gr)
  obtain ⟨c0, c1, c2, c3, c4, c5, c7, c9, cf, hlt⟩ := h.cl
  unfold Rp.one at e
  simp only at e
  have HI1 : Hid (_) := is_any h [123]
  have HI2 : Hid (_) := is_any h [102, 117, 110, 99, 116, 105, 111, 110]
  have HE : Hid (_) := e
  have HS : Hid (s'.nodes.length ≤ 1000000000) := hsm
  have HN : Hid (s.nodes.length ≤ 1000000000) := hn0
  have H : Hid (_) := h
  generalize hA : (Rp.nx s).a = A at *
  clear e hsm hn0 h E hA
  go_enter Try.func50, Try.ntmps50
  go_wp2_with fail
  refine Calls.mono HI1.out ?_
  rintro e w1 ⟨rfl, rfl⟩
  clear c0 c1 c2 c3 c5 c7 c9 cf hlt c4 HI1
  cases h1 : Rp.isS [123] s
  case true =>
    have R1 : Ru (Rp.block L) s r s' := ⟨by have := HE.out; rwa [if_pos h1] at this, HS.out⟩
    clear HE HI2 h1
    go_wp2_with fail
    refine Calls.mono (c_block hL hP R1 H.out) ?_
    rintro e w2 ⟨rfl, hl⟩
    go_wp2_with fail
    go_ret
    exact ⟨rfl, hl⟩
  case false =>
  have e := HE.out
  rw [if_neg (by rw [h1]; simp)] at e
  have HE1 : Hid (_) := e
  clear e HE h1
  go_wp2_with fail
  refine Calls.mono HI2.out ?_
  rintro e w2 ⟨rfl, rfl⟩
  clear HI2
  cases h2 : Rp.isS [102, 117, 110, 99, 116, 105, 111, 110] s
  case true =>
    have e := HE1.out
    rw [if_pos h2] at e
    rcases e2 : Rp.func L true s with ⟨y, s1⟩
    rw [e2] at e
    simp only at e
    have R2 : Ru (Rp.put { k := 23, kids := [y], a := A }) s1 r s' := ⟨e, HS.out⟩
    have R1 : Ru (Rp.func L true) s y s1 := ⟨e2, R2.back (Rp.pre_len.put _)⟩
    clear e e2 HE1 h2
    go_wp2_with fail
    refine Calls.mono (c_func hL hP R1 H.out) ?_
    rintro e w3 ⟨rfl, nv3, hr3, hc3⟩
    go_wp2_with fail
    refine Calls.mono (c_putB (k := 23) (n := 0) (t := []) (K := [y]) (a := A) R2 hr3 #[.int .i64 (y : Int)] 1 rfl (fun j hj => by
      have : j = 0 := by simpa using hj
      subst this; rfl) (Below.refl _ _)) ?_
    rintro e w4 ⟨rfl, nv4, hr4, hc4⟩
    go_wp2_with fail
    go_ret
    exact ⟨rfl, nv4, hr4, hc3.trans hc4⟩
  case false =>
  have e := HE1.out
  rw [if_neg (by rw [h2]; simp)] at e
  have HE2 : Hid (_) := e
  have HC0 : Hid (_) := (fun {F : Nat → Prop} {nv : Value} {W : World} (h : RS src F base B dep s nv W) => Chg.refl B nv W) H.out
  have HR0 : Hid (_) := H.out
  clear e HE1 h2
  rcases eh1 : Rp.has [105, 102] s with ⟨b1, p1⟩
  have T1 := ru_has _ s HN.out eh1
  have e := HE2.out
  rw [eh1] at e
  have HEE1 : Hid (_) := e
  have HN1 : Hid (p1.nodes.length ≤ 1000000000) := T1.small
  clear e eh1 HE2 HN
  go_wp2_with fail
  refine Calls.mono (c_has T1 HR0.out) ?_
  rintro e y1 ⟨rfl, ny1, hr, hc⟩
  have HR1 : Hid (_) := hr
  have HC1 : Hid (_) := HC0.out.trans hc
  clear hr hc HR0 HC0 T1
  cases b1
  case true =>
    have e := HEE1.out
    simp only at e
    clear HEE1
    generalize em1 : Rp.must [40] p1 = a1 at e
    rcases em2 : L.e a1 with ⟨c, a2⟩
    rw [em2] at e
    simp only at e
    generalize em3 : Rp.must [41] a2 = a3 at e
    rcases em4 : Rp.inner L a3 with ⟨y, a4⟩
    rw [em4] at e
    simp only at e
    rcases em5 : Rp.has [101, 108, 115, 101] a4 with ⟨b5, a5⟩
    rw [em5] at e
    have na5 : a5.nodes.length ≤ 1000000000 := by
      cases b5
      · simp only at e
        have h3 := Rp.pre_len.put { k := 26, kids := [c, y], a := A } a5
        rw [e] at h3; exact Nat.le_trans h3 HS.out
      · simp only at e
        have h2 := Rp.kp_inner Rp.pre_len hP.gr a5
        have h3 := Rp.pre_len.put { k := 26, kids := [c, y, (Rp.inner L a5).1], a := A } (Rp.inner L a5).2
        rw [e] at h3; exact Nat.le_trans h2 (Nat.le_trans h3 HS.out)
    have na4 : a4.nodes.length ≤ 1000000000 := gb (Rp.kp_has Rp.pre_len _) em5 na5
    have R5 := ru_has _ a4 na4 em5
    have R4 : Ru (Rp.inner L) a3 y a4 := ⟨em4, na4⟩
    have na3 := R4.back (Rp.kp_inner Rp.pre_len hP.gr)
    have R3 : Ru (up (Rp.must [41])) a2 () a3 := ⟨by unfold up; rw [em3], na3⟩
    have na2 := R3.back (kp_up (Rp.kp_must Rp.pre_len _))
    have R2 : Ru L.e a1 c a2 := ⟨em2, na2⟩
    have na1 := R2.back hP.gr.e
    have R1 : Ru (up (Rp.must [40])) p1 () a1 := ⟨by unfold up; rw [em1], na1⟩
    have HEE : Hid (_) := e
    clear e em1 em2 em3 em4 em5 na1 na2 na3 na4 na5
    go_wp2_with fail
    refine Calls.mono (c_must R1 HR1.out) ?_
    rintro e x31 ⟨rfl, nx31, hr, hc⟩
    have HR31 : Hid (_) := hr
    have HC31 : Hid (_) := HC1.out.trans hc
    clear hr hc
    go_wp2_with fail
    refine Calls.mono ((hL _).e R2 HR31.out) ?_
    rintro e x32 ⟨rfl, nx32, hr, hc⟩
    have HR32 : Hid (_) := hr
    have HC32 : Hid (_) := HC31.out.trans hc
    have HK32 : Hid (_) := KO.lit (w0 := x32) (e := 3) hr (Nat.le_refl _) #[.int .i64 (c : Int)] 1 rfl (by omega)
    have HC32' : Hid (_) := Chg.below (B := B) nx32 (Below.alloc (Below.refl x32.heap.size x32) (Nat.le_refl _) (.cells #[.int .i64 (c : Int)] 3))
    clear hr hc
    go_wp2_with fail
    refine Calls.mono (c_must R3 HK32.out.rs) ?_
    rintro e x33 ⟨rfl, nx33, hr, hc⟩
    have HK33 : Hid (_) := HK32.out.go hr hc
    have HC33 : Hid (_) := HC32'.out.trans hc
    clear hr hc HK32 HC32'
    go_wp2_with fail
    refine Calls.mono (c_inner hL hP R4 HK33.out.rs) ?_
    rintro e x34 ⟨rfl, nx34, hr, hc⟩
    obtain ⟨ad4, cap4, y4, hap, hko4, hc4⟩ := (HK33.out.go hr hc).kid (K := [c]) y (by simp)
    have HRn : Hid (_) := hap
    have HK34 : Hid (_) := hko4
    have HC34 : Hid (_) := hc4 _ (HC33.out.trans hc)
    clear hr hc hap hko4 hc4 HK33 HC33
    go_wp2_with (at_builtin; refine wpList_append_run _ _ 36 rfl rfl _ _ _ _ rfl rfl HRn.out ?_)
    refine Calls.mono (c_has R5 HK34.out.rs) ?_
    rintro e x35 ⟨rfl, nx35, hr, hc⟩
    have HK35 : Hid (_) := HK34.out.go hr hc
    have HC35 : Hid (_) := HC34.out.trans hc
    clear hr hc HK34 HC34 HRn
    cases b5
    · have R6 : Ru (Rp.put { k := 26, kids := [c, y], a := A }) a5 r s' := ⟨by have := HEE.out; simpa only using this, HS.out⟩
      clear HEE
      go_wp2_with fail
      have HV : Hid (_) := HK35.out.kv HR32.out
      refine Calls.mono (c_putV (k := 26) (n := 0) (t := []) (N := []) (K := [c, y]) (a := A) R6 HV.out.1 (NV.nil _ _ _ _) HV.out.2) ?_
      rintro e x99 ⟨rfl, nx99, hr, hc⟩
      have HR99 : Hid (_) := hr
      have HC99 : Hid (_) := (HC32.out.trans HC35.out).trans hc
      clear hr hc
      go_wp2_with fail
      go_ret
      exact ⟨rfl, nx99, HR99.out, HC99.out⟩
    · have e := HEE.out
      simp only at e
      rcases em6 : Rp.inner L a5 with ⟨z, a6⟩
      rw [em6] at e
      simp only at e
      have R7 : Ru (Rp.put { k := 26, kids := [c, y, z], a := A }) a6 r s' := ⟨e, HS.out⟩
      have R6 : Ru (Rp.inner L) a5 z a6 := ⟨em6, R7.back (Rp.pre_len.put _)⟩
      clear e em6 HEE
      go_wp2_with fail
      refine Calls.mono (c_inner hL hP R6 HK35.out.rs) ?_
      rintro e x36 ⟨rfl, nx36, hr, hc⟩
      obtain ⟨ad6, cap6, y6, hap, hko6, hc6⟩ := (HK35.out.go hr hc).kid (K := [c] ++ [y]) z (by simp)
      have HRn : Hid (_) := hap
      have HK36 : Hid (_) := hko6
      have HC36 : Hid (_) := hc6 _ (HC35.out.trans hc)
      clear hr hc hap hko6 hc6 HK35 HC35
      go_wp2_with (at_builtin; refine wpList_append_run _ _ 36 rfl rfl _ _ _ _ rfl rfl HRn.out ?_)
      have HV : Hid (_) := HK36.out.kv HR32.out
      refine Calls.mono (c_putV (k := 26) (n := 0) (t := []) (N := []) (K := [c, y, z]) (a := A) R7 HV.out.1 (NV.nil _ _ _ _) HV.out.2) ?_
      rintro e x99 ⟨rfl, nx99, hr, hc⟩
      have HR99 : Hid (_) := hr
      have HC99 : Hid (_) := (HC32.out.trans HC36.out).trans hc
      clear hr hc
      go_wp2_with fail
      go_ret
      exact ⟨rfl, nx99, HR99.out, HC99.out⟩
  case false =>
  have e := HEE1.out
  simp only at e
  have HE3 : Hid (_) := e
  clear e HEE1
  rcases eh2 : Rp.has [119, 104, 105, 108, 101] p1 with ⟨b2, p2⟩
  have T2 := ru_has _ p1 HN1.out eh2
  have e := HE3.out
  rw [eh2] at e
  have HEE2 : Hid (_) := e
  have HN2 : Hid (p2.nodes.length ≤ 1000000000) := T2.small
  clear e eh2 HE3 HN1
  go_wp2_with fail
  refine Calls.mono (c_has T2 HR1.out) ?_
  rintro e y2 ⟨rfl, ny2, hr, hc⟩
  have HR2 : Hid (_) := hr
  have HC2 : Hid (_) := HC1.out.trans hc
  clear hr hc HR1 HC1 T2
  cases b2
  case true =>
    have e := HEE2.out
    simp only at e
    clear HEE2
    generalize em1 : Rp.must [40] p2 = a1 at e
    rcases em2 : L.e a1 with ⟨c, a2⟩
    rw [em2] at e
    simp only at e
    generalize em3 : Rp.must [41] a2 = a3 at e
    rcases em4 : Rp.inner L a3 with ⟨y, a4⟩
    rw [em4] at e
    simp only at e
    have R6 : Ru (Rp.put { k := 27, kids := [c, y], a := A }) a4 r s' := ⟨e, HS.out⟩
    have na4 := R6.back (Rp.pre_len.put _)
    have R4 : Ru (Rp.inner L) a3 y a4 := ⟨em4, na4⟩
    have na3 := R4.back (Rp.kp_inner Rp.pre_len hP.gr)
    have R3 : Ru (up (Rp.must [41])) a2 () a3 := ⟨by unfold up; rw [em3], na3⟩
    have na2 := R3.back (kp_up (Rp.kp_must Rp.pre_len _))
    have R2 : Ru L.e a1 c a2 := ⟨em2, na2⟩
    have na1 := R2.back hP.gr.e
    have R1 : Ru (up (Rp.must [40])) p2 () a1 := ⟨by unfold up; rw [em1], na1⟩
    clear e em1 em2 em3 em4 na1 na2 na3 na4
    go_wp2_with fail
    refine Calls.mono (c_must R1 HR2.out) ?_
    rintro e x31 ⟨rfl, nx31, hr, hc⟩
    have HR31 : Hid (_) := hr
    have HC31 : Hid (_) := HC2.out.trans hc
    clear hr hc
    go_wp2_with fail
    refine Calls.mono ((hL _).e R2 HR31.out) ?_
    rintro e x32 ⟨rfl, nx32, hr, hc⟩
    have HR32 : Hid (_) := hr
    have HC32 : Hid (_) := HC31.out.trans hc
    have HK32 : Hid (_) := KO.lit (w0 := x32) (e := 3) hr (Nat.le_refl _) #[.int .i64 (c : Int)] 1 rfl (by omega)
    have HC32' : Hid (_) := Chg.below (B := B) nx32 (Below.alloc (Below.refl x32.heap.size x32) (Nat.le_refl _) (.cells #[.int .i64 (c : Int)] 3))
    clear hr hc
    go_wp2_with fail
    refine Calls.mono (c_must R3 HK32.out.rs) ?_
    rintro e x33 ⟨rfl, nx33, hr, hc⟩
    have HK33 : Hid (_) := HK32.out.go hr hc
    have HC33 : Hid (_) := HC32'.out.trans hc
    clear hr hc HK32 HC32'
    go_wp2_with fail
    refine Calls.mono (c_inner hL hP R4 HK33.out.rs) ?_
    rintro e x34 ⟨rfl, nx34, hr, hc⟩
    obtain ⟨ad4, cap4, y4, hap, hko4, hc4⟩ := (HK33.out.go hr hc).kid (K := [c]) y (by simp)
    have HRn : Hid (_) := hap
    have HK34 : Hid (_) := hko4
    have HC34 : Hid (_) := hc4 _ (HC33.out.trans hc)
    clear hr hc hap hko4 hc4 HK33 HC33
    go_wp2_with (at_builtin; refine wpList_append_run _ _ 36 rfl rfl _ _ _ _ rfl rfl HRn.out ?_)
    have HV : Hid (_) := HK34.out.kv HR32.out
    refine Calls.mono (c_putV (k := 27) (n := 0) (t := []) (N := []) (K := [c, y]) (a := A) R6 HV.out.1 (NV.nil _ _ _ _) HV.out.2) ?_
    rintro e x99 ⟨rfl, nx99, hr, hc⟩
    have HR99 : Hid (_) := hr
    have HC99 : Hid (_) := (HC32.out.trans HC34.out).trans hc
    clear hr hc
    go_wp2_with fail
    go_ret
    exact ⟨rfl, nx99, HR99.out, HC99.out⟩
  case false =>
  have e := HEE2.out
  simp only at e
  have HE4 : Hid (_) := e
  clear e HEE2
  rcases eh3 : Rp.has [98, 114, 101, 97, 107] p2 with ⟨b3, p3⟩
  have T3 := ru_has _ p2 HN2.out eh3
  have e := HE4.out
  rw [eh3] at e
  have HEE3 : Hid (_) := e
  have HN3 : Hid (p3.nodes.length ≤ 1000000000) := T3.small
  clear e eh3 HE4 HN2
  go_wp2_with fail
  refine Calls.mono (c_has T3 HR2.out) ?_
  rintro e y3 ⟨rfl, ny3, hr, hc⟩
  have HR3 : Hid (_) := hr
  have HC3 : Hid (_) := HC2.out.trans hc
  clear hr hc HR2 HC2 T3
  cases b3
  case true =>
    have e := HEE3.out
    simp only at e
    clear HEE3
    generalize em1 : Rp.ende p3 = a1 at e
    have R2 : Ru (Rp.put { k := 28, a := A }) a1 r s' := ⟨e, HS.out⟩
    have R1 : Ru (up Rp.ende) p3 () a1 := ⟨by unfold up; rw [em1], R2.back (Rp.pre_len.put _)⟩
    clear e em1
    go_wp2_with fail
    refine Calls.mono (c_ende R1 HR3.out) ?_
    rintro e x31 ⟨rfl, nx31, hr, hc⟩
    have HR31 : Hid (_) := hr
    have HC31 : Hid (_) := HC3.out.trans hc
    clear hr hc
    go_wp2_with fail
    refine Calls.mono (c_putV (k := 28) (n := 0) (t := []) (N := []) (K := []) (a := A) R2 HR31.out (NV.nil _ _ _ _) (KV.nil _ _ _ _)) ?_
    rintro e x99 ⟨rfl, nx99, hr, hc⟩
    have HR99 : Hid (_) := hr
    have HC99 : Hid (_) := HC31.out.trans hc
    clear hr hc
    go_wp2_with fail
    go_ret
    exact ⟨rfl, nx99, HR99.out, HC99.out⟩
  case false =>
  have e := HEE3.out
  simp only at e
  have HE5 : Hid (_) := e
  clear e HEE3
  rcases eh4 : Rp.has [99, 111, 110, 116, 105, 110, 117, 101] p3 with ⟨b4, p4⟩
  have T4 := ru_has _ p3 HN3.out eh4
  have e := HE5.out
  rw [eh4] at e
  have HEE4 : Hid (_) := e
  have HN4 : Hid (p4.nodes.length ≤ 1000000000) := T4.small
  clear e eh4 HE5 HN3
  go_wp2_with fail
  refine Calls.mono (c_has T4 HR3.out) ?_
  rintro e y4 ⟨rfl, ny4, hr, hc⟩
  have HR4 : Hid (_) := hr
  have HC4 : Hid (_) := HC3.out.trans hc
  clear hr hc HR3 HC3 T4
  cases b4
  case true =>
    have e := HEE4.out
    simp only at e
    clear HEE4
    generalize em1 : Rp.ende p4 = a1 at e
    have R2 : Ru (Rp.put { k := 29, a := A }) a1 r s' := ⟨e, HS.out⟩
    have R1 : Ru (up Rp.ende) p4 () a1 := ⟨by unfold up; rw [em1], R2.back (Rp.pre_len.put _)⟩
    clear e em1
    go_wp2_with fail
    refine Calls.mono (c_ende R1 HR4.out) ?_
    rintro e x31 ⟨rfl, nx31, hr, hc⟩
    have HR31 : Hid (_) := hr
    have HC31 : Hid (_) := HC4.out.trans hc
    clear hr hc
    go_wp2_with fail
    refine Calls.mono (c_putV (k := 29) (n := 0) (t := []) (N := []) (K := []) (a := A) R2 HR31.out (NV.nil _ _ _ _) (KV.nil _ _ _ _)) ?_
    rintro e x99 ⟨rfl, nx99, hr, hc⟩
    have HR99 : Hid (_) := hr
    have HC99 : Hid (_) := HC31.out.trans hc
    clear hr hc
    go_wp2_with fail
    go_ret
    exact ⟨rfl, nx99, HR99.out, HC99.out⟩
  case false =>
  have e := HEE4.out
  simp only at e
  have HE6 : Hid (_) := e
  clear e HEE4
  rcases eh5 : Rp.has [114, 101, 116, 117, 114, 110] p4 with ⟨b5, p5⟩
  have T5 := ru_has _ p4 HN4.out eh5
  have e := HE6.out
  rw [eh5] at e
  have HEE5 : Hid (_) := e
  have HN5 : Hid (p5.nodes.length ≤ 1000000000) := T5.small
  clear e eh5 HE6 HN4
  go_wp2_with fail
  refine Calls.mono (c_has T5 HR4.out) ?_
  rintro e y5 ⟨rfl, ny5, hr, hc⟩
  have HR5 : Hid (_) := hr
  have HC5 : Hid (_) := HC4.out.trans hc
  clear hr hc HR4 HC4 T5
  cases b5
  case true =>
    have e := HEE5.out
    simp only at e
    clear HEE5
    obtain ⟨c0, c1, c2, c3, c4, c5, c7, c9, cf, hlt⟩ := HR5.out.cl
    obtain ⟨q, hq⟩ : ∃ q, (!(Rp.nx p5).ln && decide ((Rp.nx p5).k ≠ 0) && !Rp.isS [59] p5 && !Rp.isS [125] p5) = q := ⟨_, rfl⟩
    rw [hq] at e
    generalize Rp.nx p5 = T at *
    have HQ : Hid (_ = q) := hq
    have HEQ : Hid (_) := e
    have hr31 := HR5.out.below (Below.alloc (Below.refl y5.heap.size y5) (Nat.le_refl _) (.cells #[.int .i64 (T.k : Int), .string ⟨T.t.toArray⟩, .int .i64 (T.n : Int), .int .i64 (T.a : Int), .bool T.ln] 54))
    have hc31 := HC5.out.alloc (.cells #[.int .i64 (T.k : Int), .string ⟨T.t.toArray⟩, .int .i64 (T.n : Int), .int .i64 (T.a : Int), .bool T.ln] 54)
    have HR31 : Hid (_) := hr31
    have HC31 : Hid (_) := hc31
    have HJ1 : Hid (_) := is_any hr31 [59]
    have HJ2 : Hid (_) := is_any hr31 [125]
    clear e hq hr31 hc31 HR5 HC5
    go_upto_region 30 with fail
    generalize hwy : y5.alloc (.cells #[.int .i64 (T.k : Int), .string ⟨T.t.toArray⟩, .int .i64 (T.n : Int), .int .i64 (T.a : Int), .bool T.ln] 54) = wy at *
    have hy : wy.heap[y5.heap.size]? = some (.cells #[.int .i64 (T.k : Int), .string ⟨T.t.toArray⟩, .int .i64 (T.n : Int), .int .i64 (T.a : Int), .bool T.ln] 54 (0, 0)) := by rw [← hwy]; exact Array.getElem?_push_size
    have d0 : wy.cell? ⟨y5.heap.size, 0, none⟩ = some (.int .i64 (T.k : Int)) := by simp [World.cell?, hy]
    have d4 : wy.cell? ⟨y5.heap.size, 4, none⟩ = some (.bool T.ln) := by simp [World.cell?, hy]
    clear hy hwy c0 c1 c2 c3 c4 c5 c7 c9 cf hlt
    go_cut [128] (fun v wx => v = .bool q ∧ wy = wx)
    case first =>
      have hq := HQ.out
      clear HEQ HQ
      cases hl : T.ln
      · rw [hl] at d4
        by_cases hk : T.k = 0
        · obtain rfl : false = q := by rw [← hq]; simp [hk]
          rw [hk] at d0
          clear hq hl hk
          go_wp2_with fail
          go_meet
          case rel => exact ⟨rfl, rfl⟩
        · have e0 : ((T.k : Int) == 0) = false := by rw [beq_eq_false_iff_ne]; omega
          have v0 : ((T.k : Int) != 0) = true := by unfold bne; rw [e0]; rfl
          have e0' : ¬ (T.k : Int) = 0 := by omega
          cases j1 : Rp.isS [59] p5
          · rw [j1] at HJ1
            cases j2 : Rp.isS [125] p5
            · rw [j2] at HJ2
              obtain rfl : true = q := by rw [← hq]; simp [hk, hl, j1, j2]
              clear hq hl hk j1 j2
              go_wp2_with fail
              refine Calls.mono HJ1.out ?_
              rintro e x1 ⟨rfl, rfl⟩
              go_wp2_with fail
              refine Calls.mono HJ2.out ?_
              rintro e x2 ⟨rfl, rfl⟩
              go_wp2_with fail
              go_meet
              case rel => exact ⟨rfl, rfl⟩
            · rw [j2] at HJ2
              obtain rfl : false = q := by rw [← hq]; simp [j2]
              clear hq hl hk j1 j2
              go_wp2_with fail
              refine Calls.mono HJ1.out ?_
              rintro e x1 ⟨rfl, rfl⟩
              go_wp2_with fail
              refine Calls.mono HJ2.out ?_
              rintro e x2 ⟨rfl, rfl⟩
              go_wp2_with fail
              go_meet
              case rel => exact ⟨rfl, rfl⟩
          · rw [j1] at HJ1
            obtain rfl : false = q := by rw [← hq]; simp [j1]
            clear hq hl hk j1 HJ2
            go_wp2_with fail
            refine Calls.mono HJ1.out ?_
            rintro e x1 ⟨rfl, rfl⟩
            go_wp2_with fail
            go_meet
            case rel => exact ⟨rfl, rfl⟩
      · rw [hl] at d4
        obtain rfl : false = q := by rw [← hq]; simp [hl]
        clear hq hl HJ1 HJ2
        go_wp2_with fail
        go_meet
        case rel => exact ⟨rfl, rfl⟩
    case rest =>
    obtain ⟨rfl, rfl⟩ := hcut
    have e := HEQ.out
    clear HJ1 HJ2 d0 d4 HQ HEQ
    cases q
    case false =>
      simp only [Bool.false_eq_true, if_false] at e
      generalize em1 : Rp.ende p5 = a1 at e
      have R2 : Ru (Rp.put { k := 30, a := A }) a1 r s' := ⟨e, HS.out⟩
      have R1 : Ru (up Rp.ende) p5 () a1 := ⟨by unfold up; rw [em1], R2.back (Rp.pre_len.put _)⟩
      clear e em1
      go_wp2_with fail
      refine Calls.mono (c_ende R1 HR31.out) ?_
      rintro e x32 ⟨rfl, nx32, hr, hc⟩
      have HR32 : Hid (_) := hr
      have HC32 : Hid (_) := HC31.out.trans hc
      clear hr hc
      go_wp2_with fail
      refine Calls.mono (c_putV (k := 30) (n := 0) (t := []) (N := []) (K := []) (a := A) R2 HR32.out (NV.nil _ _ _ _) (KV.nil _ _ _ _)) ?_
      rintro e x99 ⟨rfl, nx99, hr, hc⟩
      have HR99 : Hid (_) := hr
      have HC99 : Hid (_) := HC32.out.trans hc
      clear hr hc
      go_wp2_with fail
      go_ret
      exact ⟨rfl, nx99, HR99.out, HC99.out⟩
    case true =>
      simp only [if_true] at e
      rcases em1 : L.e p5 with ⟨c, a1⟩
      rw [em1] at e
      simp only at e
      generalize em2 : Rp.ende a1 = a2 at e
      have R3 : Ru (Rp.put { k := 30, kids := [c], a := A }) a2 r s' := ⟨e, HS.out⟩
      have R2 : Ru (up Rp.ende) a1 () a2 := ⟨by unfold up; rw [em2], R3.back (Rp.pre_len.put _)⟩
      have R1 : Ru L.e p5 c a1 := ⟨em1, R2.back (kp_up (Rp.kp_ende Rp.pre_len))⟩
      clear e em1 em2
      go_wp2_with fail
      refine Calls.mono ((hL _).e R1 HR31.out) ?_
      rintro e x32 ⟨rfl, nx32, hr, hc⟩
      obtain ⟨ad4, cap4, y4, hap, hko4, hc4⟩ := (KO.nil (w0 := x32) (e := 3) hr (Nat.le_refl _)).kid (K := []) c (by simp)
      have HRn : Hid (_) := hap
      have HR32 : Hid (_) := hr
      have HC32 : Hid (_) := HC31.out.trans hc
      have HK33 : Hid (_) := hko4
      have HC33 : Hid (_) := hc4 _ (Chg.refl B nx32 x32)
      clear hr hc hap hko4 hc4
      go_wp2_with (at_builtin; refine wpList_append_run _ _ 36 rfl rfl _ _ _ _ rfl rfl HRn.out ?_)
      refine Calls.mono (c_ende R2 HK33.out.rs) ?_
      rintro e x34 ⟨rfl, nx34, hr, hc⟩
      have HV : Hid (_) := (HK33.out.go hr hc).kv HR32.out
      have HC34 : Hid (_) := (HC32.out.trans HC33.out).trans hc
      clear hr hc HK33 HC33 HRn
      go_wp2_with fail
      refine Calls.mono (c_putV (k := 30) (n := 0) (t := []) (N := []) (K := [c]) (a := A) R3 HV.out.1 (NV.nil _ _ _ _) HV.out.2) ?_
      rintro e x99 ⟨rfl, nx99, hr, hc⟩
      have HR99 : Hid (_) := hr
      have HC99 : Hid (_) := HC34.out.trans hc
      clear hr hc
      go_wp2_with fail
      go_ret
      exact ⟨rfl, nx99, HR99.out, HC99.out⟩
  case false =>
  have e := HEE5.out
  simp only at e
  have HE7 : Hid (_) := e
  clear e HEE5
  rcases eh6 : Rp.has [116, 104, 114, 111, 119] p5 with ⟨b6, p6⟩
  have T6 := ru_has _ p5 HN5.out eh6
  have e := HE7.out
  rw [eh6] at e
  have HEE6 : Hid (_) := e
  have HN6 : Hid (p6.nodes.length ≤ 1000000000) := T6.small
  clear e eh6 HE7 HN5
  go_wp2_with fail
  refine Calls.mono (c_has T6 HR5.out) ?_
  rintro e y6 ⟨rfl, ny6, hr, hc⟩
  have HR6 : Hid (_) := hr
  have HC6 : Hid (_) := HC5.out.trans hc
  clear hr hc HR5 HC5 T6
  cases b6
  case true =>
    have e := HEE6.out
    simp only at e
    clear HEE6
    obtain ⟨c0, c1, c2, c3, c4, c5, c7, c9, cf, hlt⟩ := HR6.out.cl
    have HSP : Hid (_) := HR6.out.spoil
    cases hl : (Rp.nx p6).ln
    · rw [hl] at e c5
      simp only [Bool.false_eq_true, if_false] at e
      rcases em1 : L.e p6 with ⟨c, a1⟩
      rw [em1] at e
      simp only at e
      generalize em2 : Rp.ende a1 = a2 at e
      have R3 : Ru (Rp.put { k := 31, kids := [c], a := A }) a2 r s' := ⟨e, HS.out⟩
      have R2 : Ru (up Rp.ende) a1 () a2 := ⟨by unfold up; rw [em2], R3.back (Rp.pre_len.put _)⟩
      have R1 : Ru L.e p6 c a1 := ⟨em1, R2.back (kp_up (Rp.kp_ende Rp.pre_len))⟩
      clear e em1 em2 hl HSP
      go_wp2_with fail
      clear c0 c1 c2 c3 c4 c5 c7 c9 cf hlt
      refine Calls.mono ((hL _).e R1 HR6.out) ?_
      rintro e x32 ⟨rfl, nx32, hr, hc⟩
      have HR32 : Hid (_) := hr
      have HC32 : Hid (_) := (HC6.out).trans hc
      have HK32 : Hid (_) := KO.lit (w0 := x32) (e := 3) hr (Nat.le_refl _) #[.int .i64 (c : Int)] 1 rfl (by omega)
      have HC32' : Hid (_) := Chg.below (B := B) nx32 (Below.alloc (Below.refl x32.heap.size x32) (Nat.le_refl _) (.cells #[.int .i64 (c : Int)] 3))
      clear hr hc
      go_wp2_with fail
      refine Calls.mono (c_ende R2 HK32.out.rs) ?_
      rintro e x33 ⟨rfl, nx33, hr, hc⟩
      have HV : Hid (_) := KO.kv (K := [c]) HR32.out (HK32.out.go hr hc)
      have HC33 : Hid (_) := HC32.out.trans (HC32'.out.trans hc)
      clear hr hc HK32 HC32'
      go_wp2_with fail
      refine Calls.mono (c_putV (k := 31) (n := 0) (t := []) (N := []) (K := [c]) (a := A) R3 HV.out.1 (NV.nil _ _ _ _) HV.out.2) ?_
      rintro e x99 ⟨rfl, nx99, hr, hc⟩
      have HR99 : Hid (_) := hr
      have HC99 : Hid (_) := HC33.out.trans hc
      clear hr hc
      go_wp2_with fail
      go_ret
      exact ⟨rfl, nx99, HR99.out, HC99.out⟩
    · rw [hl] at e c5
      simp only [if_true] at e
      rcases em1 : L.e (Rp.spoil p6) with ⟨c, a1⟩
      rw [em1] at e
      simp only at e
      generalize em2 : Rp.ende a1 = a2 at e
      have R3 : Ru (Rp.put { k := 31, kids := [c], a := A }) a2 r s' := ⟨e, HS.out⟩
      have R2 : Ru (up Rp.ende) a1 () a2 := ⟨by unfold up; rw [em2], R3.back (Rp.pre_len.put _)⟩
      have R1 : Ru L.e (Rp.spoil p6) c a1 := ⟨em1, R2.back (kp_up (Rp.kp_ende Rp.pre_len))⟩
      clear e em1 em2 hl
      go_wp2_with fail
      clear c0 c1 c2 c3 c4 c5 c7 c9 cf hlt
      refine Calls.mono ((hL _).e R1 HSP.out.1) ?_
      rintro e x32 ⟨rfl, nx32, hr, hc⟩
      have HR32 : Hid (_) := hr
      have HC32 : Hid (_) := (HC6.out.trans HSP.out.2).trans hc
      have HK32 : Hid (_) := KO.lit (w0 := x32) (e := 3) hr (Nat.le_refl _) #[.int .i64 (c : Int)] 1 rfl (by omega)
      have HC32' : Hid (_) := Chg.below (B := B) nx32 (Below.alloc (Below.refl x32.heap.size x32) (Nat.le_refl _) (.cells #[.int .i64 (c : Int)] 3))
      clear hr hc
      go_wp2_with fail
      refine Calls.mono (c_ende R2 HK32.out.rs) ?_
      rintro e x33 ⟨rfl, nx33, hr, hc⟩
      have HV : Hid (_) := KO.kv (K := [c]) HR32.out (HK32.out.go hr hc)
      have HC33 : Hid (_) := HC32.out.trans (HC32'.out.trans hc)
      clear hr hc HK32 HC32'
      go_wp2_with fail
      refine Calls.mono (c_putV (k := 31) (n := 0) (t := []) (N := []) (K := [c]) (a := A) R3 HV.out.1 (NV.nil _ _ _ _) HV.out.2) ?_
      rintro e x99 ⟨rfl, nx99, hr, hc⟩
      have HR99 : Hid (_) := hr
      have HC99 : Hid (_) := HC33.out.trans hc
      clear hr hc
      go_wp2_with fail
      go_ret
      exact ⟨rfl, nx99, HR99.out, HC99.out⟩
  case false =>
  have e := HEE6.out
  simp only at e
  have HE8 : Hid (_) := e
  clear e HEE6
  rcases eh7 : Rp.has [116, 114, 121] p6 with ⟨b7, p7⟩
  have T7 := ru_has _ p6 HN6.out eh7
  have e := HE8.out
  rw [eh7] at e
  have HEE7 : Hid (_) := e
  have HN7 : Hid (p7.nodes.length ≤ 1000000000) := T7.small
  clear e eh7 HE8 HN6
  go_wp2_with fail
  refine Calls.mono (c_has T7 HR6.out) ?_
  rintro e y7 ⟨rfl, ny7, hr, hc⟩
  have HR7 : Hid (_) := hr
  have HC7 : Hid (_) := HC6.out.trans hc
  clear hr hc HR6 HC6 T7
  cases b7
  case true =>
    have e := HEE7.out
    simp only at e
    clear HEE7
    rcases em1 : Rp.block L p7 with ⟨c, a1⟩
    rw [em1] at e
    simp only at e
    generalize em2 : Rp.must [99, 97, 116, 99, 104] a1 = a2 at e
    generalize em3 : Rp.must [40] a2 = a3 at e
    rcases em4 : Rp.rname a3 with ⟨t, a4⟩
    rw [em4] at e
    simp only at e
    generalize em5 : Rp.must [41] a4 = a5 at e
    rcases em6 : Rp.block L a5 with ⟨y, a6⟩
    rw [em6] at e
    simp only at e
    have R7 : Ru (Rp.put { k := 32, t := t, kids := [c, y], a := A }) a6 r s' := ⟨e, HS.out⟩
    have R6 : Ru (Rp.block L) a5 y a6 := ⟨em6, R7.back (Rp.pre_len.put _)⟩
    have R5 : Ru (up (Rp.must [41])) a4 () a5 := ⟨by unfold up; rw [em5], R6.back (Rp.kp_block Rp.pre_len hP.gr)⟩
    have R4 : Ru Rp.rname a3 t a4 := ⟨em4, R5.back (kp_up (Rp.kp_must Rp.pre_len _))⟩
    have R3 : Ru (up (Rp.must [40])) a2 () a3 := ⟨by unfold up; rw [em3], R4.back (Rp.kp_rname Rp.pre_len)⟩
    have R2 : Ru (up (Rp.must [99, 97, 116, 99, 104])) a1 () a2 := ⟨by unfold up; rw [em2], R3.back (kp_up (Rp.kp_must Rp.pre_len _))⟩
    have R1 : Ru (Rp.block L) p7 c a1 := ⟨em1, R2.back (kp_up (Rp.kp_must Rp.pre_len _))⟩
    clear e em1 em2 em3 em4 em5 em6
    go_wp2_with fail
    refine Calls.mono (c_block hL hP R1 HR7.out) ?_
    rintro e x32 ⟨rfl, nx32, hr, hc⟩
    have HR32 : Hid (_) := hr
    have HC32 : Hid (_) := HC7.out.trans hc
    have HK32 : Hid (_) := KO.lit (w0 := x32) (e := 3) hr (Nat.le_refl _) #[.int .i64 (c : Int)] 1 rfl (by omega)
    have HC32' : Hid (_) := Chg.below (B := B) nx32 (Below.alloc (Below.refl x32.heap.size x32) (Nat.le_refl _) (.cells #[.int .i64 (c : Int)] 3))
    clear hr hc
    go_wp2_with fail
    refine Calls.mono (c_must R2 HK32.out.rs) ?_
    rintro e x33 ⟨rfl, nx33, hr, hc⟩
    have HK33 : Hid (_) := HK32.out.go hr hc
    have HC33' : Hid (_) := HC32'.out.trans hc
    clear hr hc HK32 HC32'
    go_wp2_with fail
    refine Calls.mono (c_must R3 HK33.out.rs) ?_
    rintro e x34 ⟨rfl, nx34, hr, hc⟩
    have HK34 : Hid (_) := HK33.out.go hr hc
    have HC34' : Hid (_) := HC33'.out.trans hc
    clear hr hc HK33 HC33'
    go_wp2_with fail
    refine Calls.mono (c_name R4 HK34.out.rs) ?_
    rintro e x35 ⟨rfl, nx35, hr, hc⟩
    have HK35 : Hid (_) := HK34.out.go hr hc
    have HC35' : Hid (_) := HC34'.out.trans hc
    clear hr hc HK34 HC34'
    go_wp2_with fail
    refine Calls.mono (c_must R5 HK35.out.rs) ?_
    rintro e x36 ⟨rfl, nx36, hr, hc⟩
    have HK36 : Hid (_) := HK35.out.go hr hc
    have HC36' : Hid (_) := HC35'.out.trans hc
    clear hr hc HK35 HC35'
    go_wp2_with fail
    refine Calls.mono (c_block hL hP R6 HK36.out.rs) ?_
    rintro e x37 ⟨rfl, nx37, hr, hc⟩
    obtain ⟨ad4, cap4, y4, hap, hko4, hc4⟩ := (HK36.out.go hr hc).kid (K := [c]) y (by simp)
    have HRn : Hid (_) := hap
    have HK37 : Hid (_) := hko4
    have HC37 : Hid (_) := HC32.out.trans (hc4 _ (HC36'.out.trans hc))
    clear hr hc hap hko4 hc4 HK36 HC36'
    go_wp2_with (at_builtin; refine wpList_append_run _ _ 36 rfl rfl _ _ _ _ rfl rfl HRn.out ?_)
    have HV : Hid (_) := KO.kv (K := [c] ++ [y]) HR32.out HK37.out
    refine Calls.mono (c_putV (k := 32) (n := 0) (t := t) (N := []) (K := [c, y]) (a := A) R7 HV.out.1 (NV.nil _ _ _ _) HV.out.2) ?_
    rintro e x99 ⟨rfl, nx99, hr, hc⟩
    have HR99 : Hid (_) := hr
    have HC99 : Hid (_) := HC37.out.trans hc
    clear hr hc
    go_wp2_with fail
    go_ret
    exact ⟨rfl, nx99, HR99.out, HC99.out⟩
  case false =>
  have e := HEE7.out
  simp only at e
  have HE9 : Hid (_) := e
  clear e HEE7
  have HI1 : Hid (_) := is_any HR7.out [108, 101, 116]
  have HI2 : Hid (_) := is_any HR7.out [99, 111, 110, 115, 116]
  have e := HE9.out
  clear HE9
  cases h1 : Rp.isS [108, 101, 116] p7
  case true =>
    have HMV : Hid (_) := move_any HR7.out (isS_k h1).1 (isS_k h1).2
    rw [h1] at HI1
    cases h2 : Rp.isS [99, 111, 110, 115, 116] p7
    · rw [h2] at HI2
      rw [h1, h2] at e
      simp only [Bool.true_or, if_true, Bool.false_eq_true, if_false] at e
      rcases em1 : Rp.rname (Rp.move p7) with ⟨t, a1⟩
      rw [em1] at e
      simp only at e
      generalize em2 : Rp.must [61] a1 = a2 at e
      rcases em3 : L.e a2 with ⟨c, a3⟩
      rw [em3] at e
      simp only at e
      generalize em4 : Rp.ende a3 = a4 at e
      have R5 : Ru (Rp.put { k := 21, t := t, kids := [c], a := A }) a4 r s' := ⟨e, HS.out⟩
      have R4 : Ru (up Rp.ende) a3 () a4 := ⟨by unfold up; rw [em4], R5.back (Rp.pre_len.put _)⟩
      have R3 : Ru L.e a2 c a3 := ⟨em3, R4.back (kp_up (Rp.kp_ende Rp.pre_len))⟩
      have R2 : Ru (up (Rp.must [61])) a1 () a2 := ⟨by unfold up; rw [em2], R3.back hP.gr.e⟩
      have R1 : Ru Rp.rname (Rp.move p7) t a1 := ⟨em1, R2.back (kp_up (Rp.kp_must Rp.pre_len _))⟩
      clear e em1 em2 em3 em4
      clear h1 h2
      go_wp2_with fail
      refine Calls.mono HI1.out ?_
      rintro e x1 ⟨rfl, rfl⟩
      go_wp2_with fail
      refine Calls.mono HI2.out ?_
      rintro e x2 ⟨rfl, rfl⟩
      go_wp2_with fail
      refine Calls.mono HMV.out ?_
      rintro e x31 ⟨rfl, nx31, hr, hc⟩
      have HR31 : Hid (_) := hr
      have HC31 : Hid (_) := HC7.out.trans hc
      clear hr hc
      go_wp2_with fail
      refine Calls.mono (c_name R1 HR31.out) ?_
      rintro e x32 ⟨rfl, nx32, hr, hc⟩
      have HR32 : Hid (_) := hr
      have HC32 : Hid (_) := HC31.out.trans hc
      clear hr hc
      go_wp2_with fail
      refine Calls.mono (c_must R2 HR32.out) ?_
      rintro e x33 ⟨rfl, nx33, hr, hc⟩
      have HR33 : Hid (_) := hr
      have HC33 : Hid (_) := HC32.out.trans hc
      clear hr hc
      go_wp2_with fail
      refine Calls.mono ((hL _).e R3 HR33.out) ?_
      rintro e x34 ⟨rfl, nx34, hr, hc⟩
      have HR34 : Hid (_) := hr
      have HC34 : Hid (_) := HC33.out.trans hc
      have HK34 : Hid (_) := KO.lit (w0 := x34) (e := 3) hr (Nat.le_refl _) #[.int .i64 (c : Int)] 1 rfl (by omega)
      have HC34' : Hid (_) := Chg.below (B := B) nx34 (Below.alloc (Below.refl x34.heap.size x34) (Nat.le_refl _) (.cells #[.int .i64 (c : Int)] 3))
      clear hr hc
      go_wp2_with fail
      refine Calls.mono (c_ende R4 HK34.out.rs) ?_
      rintro e x35 ⟨rfl, nx35, hr, hc⟩
      have HV : Hid (_) := KO.kv (K := [c]) HR34.out (HK34.out.go hr hc)
      have HC35 : Hid (_) := HC34.out.trans (HC34'.out.trans hc)
      clear hr hc HK34 HC34'
      go_wp2_with fail
      refine Calls.mono (c_putV (k := 21) (n := 0) (t := t) (N := []) (K := [c]) (a := A) R5 HV.out.1 (NV.nil _ _ _ _) HV.out.2) ?_
      rintro e x99 ⟨rfl, nx99, hr, hc⟩
      have HR99 : Hid (_) := hr
      have HC99 : Hid (_) := HC35.out.trans hc
      clear hr hc
      go_wp2_with fail
      go_ret
      exact ⟨rfl, nx99, HR99.out, HC99.out⟩
    · rw [h2] at HI2
      rw [h1, h2] at e
      simp only [Bool.true_or, if_true] at e
      rcases em1 : Rp.rname (Rp.move p7) with ⟨t, a1⟩
      rw [em1] at e
      simp only at e
      generalize em2 : Rp.must [61] a1 = a2 at e
      rcases em3 : L.e a2 with ⟨c, a3⟩
      rw [em3] at e
      simp only at e
      generalize em4 : Rp.ende a3 = a4 at e
      have R5 : Ru (Rp.put { k := 22, t := t, kids := [c], a := A }) a4 r s' := ⟨e, HS.out⟩
      have R4 : Ru (up Rp.ende) a3 () a4 := ⟨by unfold up; rw [em4], R5.back (Rp.pre_len.put _)⟩
      have R3 : Ru L.e a2 c a3 := ⟨em3, R4.back (kp_up (Rp.kp_ende Rp.pre_len))⟩
      have R2 : Ru (up (Rp.must [61])) a1 () a2 := ⟨by unfold up; rw [em2], R3.back hP.gr.e⟩
      have R1 : Ru Rp.rname (Rp.move p7) t a1 := ⟨em1, R2.back (kp_up (Rp.kp_must Rp.pre_len _))⟩
      clear e em1 em2 em3 em4
      clear h1 h2
      go_wp2_with fail
      refine Calls.mono HI1.out ?_
      rintro e x1 ⟨rfl, rfl⟩
      go_wp2_with fail
      refine Calls.mono HI2.out ?_
      rintro e x2 ⟨rfl, rfl⟩
      go_wp2_with fail
      refine Calls.mono HMV.out ?_
      rintro e x31 ⟨rfl, nx31, hr, hc⟩
      have HR31 : Hid (_) := hr
      have HC31 : Hid (_) := HC7.out.trans hc
      clear hr hc
      go_wp2_with fail
      refine Calls.mono (c_name R1 HR31.out) ?_
      rintro e x32 ⟨rfl, nx32, hr, hc⟩
      have HR32 : Hid (_) := hr
      have HC32 : Hid (_) := HC31.out.trans hc
      clear hr hc
      go_wp2_with fail
      refine Calls.mono (c_must R2 HR32.out) ?_
      rintro e x33 ⟨rfl, nx33, hr, hc⟩
      have HR33 : Hid (_) := hr
      have HC33 : Hid (_) := HC32.out.trans hc
      clear hr hc
      go_wp2_with fail
      refine Calls.mono ((hL _).e R3 HR33.out) ?_
      rintro e x34 ⟨rfl, nx34, hr, hc⟩
      have HR34 : Hid (_) := hr
      have HC34 : Hid (_) := HC33.out.trans hc
      have HK34 : Hid (_) := KO.lit (w0 := x34) (e := 3) hr (Nat.le_refl _) #[.int .i64 (c : Int)] 1 rfl (by omega)
      have HC34' : Hid (_) := Chg.below (B := B) nx34 (Below.alloc (Below.refl x34.heap.size x34) (Nat.le_refl _) (.cells #[.int .i64 (c : Int)] 3))
      clear hr hc
      go_wp2_with fail
      refine Calls.mono (c_ende R4 HK34.out.rs) ?_
      rintro e x35 ⟨rfl, nx35, hr, hc⟩
      have HV : Hid (_) := KO.kv (K := [c]) HR34.out (HK34.out.go hr hc)
      have HC35 : Hid (_) := HC34.out.trans (HC34'.out.trans hc)
      clear hr hc HK34 HC34'
      go_wp2_with fail
      refine Calls.mono (c_putV (k := 22) (n := 0) (t := t) (N := []) (K := [c]) (a := A) R5 HV.out.1 (NV.nil _ _ _ _) HV.out.2) ?_
      rintro e x99 ⟨rfl, nx99, hr, hc⟩
      have HR99 : Hid (_) := hr
      have HC99 : Hid (_) := HC35.out.trans hc
      clear hr hc
      go_wp2_with fail
      go_ret
      exact ⟨rfl, nx99, HR99.out, HC99.out⟩
  case false =>
  rw [h1] at HI1
  cases h2 : Rp.isS [99, 111, 110, 115, 116] p7
  case true =>
    have HMV : Hid (_) := move_any HR7.out (isS_k h2).1 (isS_k h2).2
    rw [h2] at HI2
    rw [h1, h2] at e
    simp only [Bool.or_true, if_true] at e
    rcases em1 : Rp.rname (Rp.move p7) with ⟨t, a1⟩
    rw [em1] at e
    simp only at e
    generalize em2 : Rp.must [61] a1 = a2 at e
    rcases em3 : L.e a2 with ⟨c, a3⟩
    rw [em3] at e
    simp only at e
    generalize em4 : Rp.ende a3 = a4 at e
    have R5 : Ru (Rp.put { k := 22, t := t, kids := [c], a := A }) a4 r s' := ⟨e, HS.out⟩
    have R4 : Ru (up Rp.ende) a3 () a4 := ⟨by unfold up; rw [em4], R5.back (Rp.pre_len.put _)⟩
    have R3 : Ru L.e a2 c a3 := ⟨em3, R4.back (kp_up (Rp.kp_ende Rp.pre_len))⟩
    have R2 : Ru (up (Rp.must [61])) a1 () a2 := ⟨by unfold up; rw [em2], R3.back hP.gr.e⟩
    have R1 : Ru Rp.rname (Rp.move p7) t a1 := ⟨em1, R2.back (kp_up (Rp.kp_must Rp.pre_len _))⟩
    clear e em1 em2 em3 em4
    clear h1 h2
    go_wp2_with fail
    refine Calls.mono HI1.out ?_
    rintro e x1 ⟨rfl, rfl⟩
    go_wp2_with fail
    refine Calls.mono HI2.out ?_
    rintro e x2 ⟨rfl, rfl⟩
    go_wp2_with fail
    refine Calls.mono HI2.out ?_
    rintro e x3 ⟨rfl, rfl⟩
    go_wp2_with fail
    refine Calls.mono HMV.out ?_
    rintro e x31 ⟨rfl, nx31, hr, hc⟩
    have HR31 : Hid (_) := hr
    have HC31 : Hid (_) := HC7.out.trans hc
    clear hr hc
    go_wp2_with fail
    refine Calls.mono (c_name R1 HR31.out) ?_
    rintro e x32 ⟨rfl, nx32, hr, hc⟩
    have HR32 : Hid (_) := hr
    have HC32 : Hid (_) := HC31.out.trans hc
    clear hr hc
    go_wp2_with fail
    refine Calls.mono (c_must R2 HR32.out) ?_
    rintro e x33 ⟨rfl, nx33, hr, hc⟩
    have HR33 : Hid (_) := hr
    have HC33 : Hid (_) := HC32.out.trans hc
    clear hr hc
    go_wp2_with fail
    refine Calls.mono ((hL _).e R3 HR33.out) ?_
    rintro e x34 ⟨rfl, nx34, hr, hc⟩
    have HR34 : Hid (_) := hr
    have HC34 : Hid (_) := HC33.out.trans hc
    have HK34 : Hid (_) := KO.lit (w0 := x34) (e := 3) hr (Nat.le_refl _) #[.int .i64 (c : Int)] 1 rfl (by omega)
    have HC34' : Hid (_) := Chg.below (B := B) nx34 (Below.alloc (Below.refl x34.heap.size x34) (Nat.le_refl _) (.cells #[.int .i64 (c : Int)] 3))
    clear hr hc
    go_wp2_with fail
    refine Calls.mono (c_ende R4 HK34.out.rs) ?_
    rintro e x35 ⟨rfl, nx35, hr, hc⟩
    have HV : Hid (_) := KO.kv (K := [c]) HR34.out (HK34.out.go hr hc)
    have HC35 : Hid (_) := HC34.out.trans (HC34'.out.trans hc)
    clear hr hc HK34 HC34'
    go_wp2_with fail
    refine Calls.mono (c_putV (k := 22) (n := 0) (t := t) (N := []) (K := [c]) (a := A) R5 HV.out.1 (NV.nil _ _ _ _) HV.out.2) ?_
    rintro e x99 ⟨rfl, nx99, hr, hc⟩
    have HR99 : Hid (_) := hr
    have HC99 : Hid (_) := HC35.out.trans hc
    clear hr hc
    go_wp2_with fail
    go_ret
    exact ⟨rfl, nx99, HR99.out, HC99.out⟩
  case false =>
  rw [h2] at HI2
  rw [h1, h2] at e
  simp only [Bool.or_self, Bool.false_eq_true, if_false] at e
  have hix := hP.ix.e p7
  rcases em1 : L.e p7 with ⟨k, a1⟩
  rw [em1] at e hix
  simp only at e hix
  generalize em2 : Rp.ende a1 = a2 at e
  have hbd : a2.bad = false → a1.bad = false := fun hb => by
    cases eb : a1.bad
    · rfl
    · have := Rp.kp_ende Rp.pre_bad a1 eb; rw [em2, hb] at this; cases this
  have hgr : a1.nodes.length ≤ a2.nodes.length := by rw [← em2]; exact Rp.kp_ende Rp.pre_len a1
  have na2 : a2.nodes.length ≤ 1000000000 := by
    by_cases hb : a2.bad = true
    · rw [if_pos hb] at e; cases e; exact HS.out
    · rw [if_neg hb] at e
      have h3 := Rp.pre_len.put { k := 24, kids := [k], a := (a2.nodes.getD k {}).a } a2
      rw [e] at h3; exact Nat.le_trans h3 HS.out
  have R2 : Ru (up Rp.ende) a1 () a2 := ⟨by unfold up; rw [em2], na2⟩
  have R1 : Ru L.e p7 k a1 := ⟨em1, R2.back (kp_up (Rp.kp_ende Rp.pre_len))⟩
  have HKX : Hid (a2.bad = false → k < a2.nodes.length) := (show _ → _ from fun hb => Nat.lt_of_lt_of_le (hix (hbd hb)) hgr)
  have HEQ : Hid (_) := e
  clear e em1 em2 hix hbd hgr na2 h1 h2
  go_wp2_with fail
  refine Calls.mono HI1.out ?_
  rintro e x1 ⟨rfl, rfl⟩
  go_wp2_with fail
  refine Calls.mono HI2.out ?_
  rintro e x2 ⟨rfl, rfl⟩
  go_wp2_with fail
  refine Calls.mono ((hL _).e R1 HR7.out) ?_
  rintro e x31 ⟨rfl, nx31, hr, hc⟩
  have HR31 : Hid (_) := hr
  have HC31 : Hid (_) := HC7.out.trans hc
  clear hr hc
  go_wp2_with fail
  refine Calls.mono (c_ende R2 HR31.out) ?_
  rintro e x32 ⟨rfl, nx32, hr, hc⟩
  obtain ⟨c0, c1, c2, c3, c4, c5, c7, c9, cf, hlt⟩ := hr.cl
  have HR32 : Hid (_) := hr
  have HC32 : Hid (_) := HC31.out.trans hc
  clear hr hc
  have e := HEQ.out
  by_cases hb : a2.bad = true
  · rw [if_pos hb] at e
    obtain ⟨rfl, rfl⟩ := Prod.mk.inj e
    rw [hb] at c9
    clear e hb HEQ HKX
    go_wp2_with fail
    go_ret
    exact ⟨rfl, nx32, HR32.out, HC32.out⟩
  · rw [if_neg hb] at e
    have hb' : a2.bad = false := by simpa using hb
    have R3 : Ru (Rp.put { k := 24, kids := [k], a := (a2.nodes.getD k {}).a }) a2 r s' := ⟨e, HS.out⟩
    have hk := HKX.out hb'
    obtain ⟨gn, ncap, hnv, hncap, hgn, hpl⟩ := HR32.out.place hk
    have hx1 : (k : Int) < a2.nodes.length := by omega
    have hx0 : (0 : Int) ≤ k := by omega
    rw [hnv] at c7
    rw [hb'] at c9
    clear e hb hb' HEQ HKX hk hnv
    generalize (a2.nodes.getD k {}).a = ka at *
    generalize hnl : a2.nodes.length = nl at *
    go_wp2_with fail
    refine Calls.mono (c_putB (k := 24) (n := 0) (t := []) (K := [k]) (a := ka) R3 HR32.out #[.int .i64 (k : Int)] 1 rfl (fun j hj => by
      have : j = 0 := by simpa using hj
      subst this; rfl) (Below.refl _ _)) ?_
    rintro e x33 ⟨rfl, nx33, hr, hc⟩
    go_wp2_with fail
    go_ret
    exact ⟨rfl, nx33, hr, HC32.out.trans hc⟩
end
end Go.Proofs.Ytkaacmghgobhmaa.Rd
