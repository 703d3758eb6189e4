/- Texts: QJ QK. -/
import Derived.Test.YtkaacmghgobhmaaBn09
section
namespace Go.Proofs.Ytkaacmghgobhmaa.Rd
open Go.RowKit
open L (tkA own_block own_below intOf info_of size_list wpList_append_run)
set_option linter.unusedVariables false
section
variable {src : ByteArray} {F : Nat → Prop} {base B dep : Nat} {s s' : Rp.Rt} {nv : Value} {w : World}
/-- An object's box, at hand. -/
def ObS (src : ByteArray) (F : Nat → Prop) (base B dep : Nat) (nv0 : Value) (w W : World) (a : Nat) (N : List (List UInt8)) (K : List Nat) (s : Rp.Rt) : Prop := ∃ nv na ncap ka kcap, Bx src F base B dep s nv w W w.heap.size (.int .i64 8) (.int .i64 0) (.string ⟨#[]⟩) (.int .i64 (a : Int)) N na ncap K ka kcap ∧ Chg B nv0 nv w W
/-- Where the loop of an object's pairs stands. -/
def ObL (src : ByteArray) (F : Nat → Prop) (base B dep : Nat) (L : Rp.Lr) (nv0 : Value) (w W : World) (a f : Nat) (o : Option (List (List UInt8) × List Nat)) (s2 : Rp.Rt) : Prop :=
  ∃ N1 K1 q1, ObS src F base B dep nv0 w W a N1 K1 q1 ∧ Rp.objLoop L f N1 K1 q1 = (o, s2) ∧ q1.toks.length + 1 ≤ f ∧ K1.length + f ≤ 100001 ∧ N1.length = K1.length
theorem object_ru {L : Rp.Lr} {a r : Nat} (E : Ru (Rp.object L a) s r s') : ∃ o s2, Rp.objLoop L (s.toks.length + 1) [] [] s = (o, s2) ∧ s2.nodes.length ≤ 1000000000 ∧ (o = none → r = 0 ∧ s' = s2) ∧ (∀ N K, o = some (N, K) → ∃ s3, Ru (up (Rp.must [125])) s2 () s3 ∧ Ru (Rp.put { k := 8, names := N, kids := K, a := a }) s3 r s') := by
  have e := E.eq
  have hsm := E.small
  unfold Rp.object at e
  rcases e1 : Rp.objLoop L (s.toks.length + 1) [] [] s with ⟨o, s2⟩
  rw [e1] at e
  cases o with
  | none =>
    simp only [Prod.mk.injEq] at e
    obtain ⟨rfl, rfl⟩ := e
    exact ⟨none, s2, rfl, hsm, (fun _ => ⟨rfl, rfl⟩), (fun N K h => by cases h)⟩
  | some p =>
    obtain ⟨N, K⟩ := p
    simp only at e
    have R2 : Ru (Rp.put { k := 8, names := N, kids := K, a := a }) (Rp.must [125] s2) r s' := ⟨e, hsm⟩
    have n3 := R2.back (Rp.pre_len.put _)
    have R1 : Ru (up (Rp.must [125])) s2 () (Rp.must [125] s2) := ⟨rfl, n3⟩
    exact ⟨some (N, K), s2, rfl, R1.back (kp_up (Rp.kp_must Rp.pre_len _)), (fun h => by cases h), (fun N' K' h => by cases h; exact ⟨_, R1, R2⟩)⟩
/-- A round of the loop: what it begins with. -/
theorem objLoop_round {L : Rp.Lr} {f : Nat} {N : List (List UInt8)} {K : List Nat} {q s2 : Rp.Rt} {o : Option (List (List UInt8) × List Nat)} (h : Rp.objLoop L (f + 1) N K q = (o, s2)) :
    ((!Rp.isS [125] q || decide (0 < K.length)) = false ∧ o = some (N, K) ∧ s2 = q) ∨
    ((!Rp.isS [125] q || decide (0 < K.length)) = true ∧ (((!decide ((Rp.nx q).k = 3 ∨ (Rp.nx q).k = 4 ∨ (Rp.nx q).k = 2)) = true ∧ o = none ∧ s2 = Rp.spoil q) ∨ ((!decide ((Rp.nx q).k = 3 ∨ (Rp.nx q).k = 4 ∨ (Rp.nx q).k = 2)) = false ∧ q.bad = true ∧ o = none ∧ s2 = q) ∨
      ((!decide ((Rp.nx q).k = 3 ∨ (Rp.nx q).k = 4 ∨ (Rp.nx q).k = 2)) = false ∧ q.bad = false ∧ ∃ b q3 y q4 q5, Rp.must [58] (Rp.move q) = q3 ∧ L.e q3 = (y, q4) ∧ Rp.has [44] q4 = (b, q5) ∧ ((b = false ∧ o = some (N ++ [(Rp.nx q).t], K ++ [y]) ∧ s2 = q5) ∨ (b = true ∧ Rp.objLoop L f (N ++ [(Rp.nx q).t]) (K ++ [y]) q5 = (o, s2)))))) := by
  unfold Rp.objLoop at h
  simp only at h
  by_cases h1 : (!Rp.isS [125] q || decide (0 < K.length)) = true
  · rw [if_pos h1] at h
    refine .inr ⟨h1, ?_⟩
    by_cases h2 : (Rp.nx q).k = 3 ∨ (Rp.nx q).k = 4 ∨ (Rp.nx q).k = 2
    · rw [if_pos h2] at h
      by_cases h3 : q.bad = true
      · rw [if_pos h3] at h
        cases h
        exact .inr (.inl ⟨by rw [decide_eq_true h2]; rfl, h3, rfl, rfl⟩)
      · rw [if_neg h3] at h
        refine .inr (.inr ⟨by rw [decide_eq_true h2]; rfl, by simpa using h3, ?_⟩)
        rcases e5 : Rp.has [44] (L.e (Rp.must [58] (Rp.move q))).2 with ⟨b, q5⟩
        rw [e5] at h
        refine ⟨b, _, _, _, q5, rfl, rfl, e5, ?_⟩
        cases b
        · cases h; exact .inl ⟨rfl, rfl, rfl⟩
        · exact .inr ⟨rfl, h⟩
    · rw [if_neg h2, if_pos (show (Rp.spoil q).bad = true from rfl)] at h
      cases h
      exact .inl ⟨by rw [decide_eq_false h2]; rfl, rfl, rfl⟩
  · rw [if_neg h1] at h
    cases h
    exact .inl ⟨by simpa using h1, rfl, rfl⟩
set_option maxRecDepth 100000 in
set_option maxHeartbeats 2000000 in
theorem c_object {L : Rp.Lr} {a r : Nat} (hL : ∀ F, LvC src F base B dep L) (hP : LvP L) (E : Ru (Rp.object L a) s r s') (h : RS src F base B dep s nv w) :
    Calls Try.prog 76 #[.pointer (some ⟨B, 0, none⟩), .agg #[.int .i64 0, .int .i64 0, .string ⟨#[]⟩, .slice none 0 0, .slice none 0 0, .int .i64 (a : Int)]] w (Tells src F base B dep nv w s' (.int .i64 (r : Int))) := by
  obtain ⟨o, s2, e1, n2, hnone, hsome⟩ := object_ru E
  have hb0 := Bx.new h (.int .i64 8) (.int .i64 0) (.string ⟨#[]⟩) (.int .i64 (a : Int))
  have HST : Hid (ObL src F base B dep L nv w (w.alloc (.cells #[.int .i64 8, .int .i64 0, .string ⟨#[]⟩, .slice none 0 0, .slice none 0 0, .int .i64 (a : Int)] 38)) a (s.toks.length + 1) o s2) := (show ObL _ _ _ _ _ _ _ _ _ _ _ _ _ from ⟨[], [], s, ⟨nv, none, 0, none, 0, hb0, Chg.below nv ((Below.refl w.heap.size w).alloc (Nat.le_refl _) _)⟩, e1, Nat.le_refl _, by have := h.toks; simp; omega, rfl⟩)
  have H : Hid (_) := h
  have HN2 : Hid (s2.nodes.length ≤ 1000000000) := n2
  have HNO : Hid (_) := hnone
  have HSO : Hid (_) := hsome
  clear E h e1 n2 hb0 hnone hsome
  go_enter Try.func76, Try.ntmps76
  go_wp2_with fail
  go_loopg [5] (s.toks.length + 1) (fun f v W => Hid (ObL src F base B dep L nv w W a f o s2))
  case atStart => exact HST
  case round =>
    clear HST
    obtain ⟨N1, K1, q1, hos, hrun, hf, hcnt, hnk⟩ := Hid.out hrel
    obtain ⟨nv1, na, ncap, ka, kcap, hb1, hc1⟩ := hos
    have hg := hb1.rs.gd
    obtain ⟨f, rfl⟩ : ∃ f', gk = f' + 1 := ⟨gk - 1, by omega⟩
    have hround := objLoop_round hrun
    have HIS : Hid (_) := is_any hb1.rs [125]
    obtain ⟨g0, g1, g2, g3, g4, g5, z0, z1, z2, z3, z4, z5, gl⟩ := hb1.facts
    have HB1 : Hid (_) := hb1
    have HC1 : Hid (_) := hc1
    have HRD : Hid (_) := hround
    have HCN : Hid (q1.toks.length + 1 ≤ f + 1 ∧ K1.length + (f + 1) ≤ 100001 ∧ N1.length = K1.length ∧ Rp.Gd q1) := (show _ ∧ _ ∧ _ ∧ _ from ⟨hf, hcnt, hnk, hg⟩)
    obtain ⟨q, hq⟩ : ∃ q, (!Rp.isS [125] q1 || decide (0 < K1.length)) = q := ⟨_, rfl⟩
    have HQ : Hid (_ = q) := hq
    clear hrel hrun hf hcnt hnk hround hb1 hc1 hg hq
    go_upto_region 2 with fail
    go_cut [15] (fun v wx => v = .bool q ∧ wr = wx)
    case first =>
      cases hi : Rp.isS [125] q1
      · have e := HQ.out
        rw [hi] at e
        obtain rfl : true = q := e
        rw [hi] at HIS
        clear HQ HRD HCN hi
        go_wp2_with fail
        refine Calls.mono HIS.out ?_
        rintro e w5 ⟨rfl, rfl⟩
        go_wp2_with fail
        go_meet
        case rel => exact ⟨rfl, rfl⟩
      · rw [hi] at HIS
        by_cases hk : 0 < K1.length
        · have e := HQ.out
          rw [hi, decide_eq_true hk] at e
          obtain rfl : true = q := e
          have hk' : (0 : Int) < K1.length := by omega
          have HKK : Hid (0 < K1.length) := hk
          clear HQ HRD HCN hi hk
          go_wp2_with fail
          refine Calls.mono HIS.out ?_
          rintro e w5 ⟨rfl, rfl⟩
          go_wp2_with fail
          go_meet
          case rel => exact ⟨by rw [decide_eq_true HKK.out], rfl⟩
        · have e := HQ.out
          rw [hi, decide_eq_false hk] at e
          obtain rfl : false = q := e
          have hk' : ¬ (0 : Int) < K1.length := by omega
          have HKK : Hid (¬ 0 < K1.length) := hk
          clear HQ HRD HCN hi hk
          go_wp2_with fail
          refine Calls.mono HIS.out ?_
          rintro e w5 ⟨rfl, rfl⟩
          go_wp2_with fail
          go_meet
          case rel => exact ⟨by rw [decide_eq_false HKK.out], rfl⟩
    case rest =>
    obtain ⟨rfl, rfl⟩ := hcut
    clear HIS
    cases q
    · obtain ⟨rfl, rfl⟩ : o = some (N1, K1) ∧ s2 = q1 := by
        rcases HRD.out with ⟨_, h1, h2⟩ | ⟨h0, _⟩
        · exact ⟨h1, h2⟩
        · rw [HQ.out] at h0; cases h0
      obtain ⟨s3, RM, RP⟩ := HSO.out _ _ rfl
      clear HNO HSO HQ HRD HCN g0 g1 g2 g3 g4 g5 z0 z1 z2 z3 z4 z5 gl
      have HK6 : Hid (_) := (HB1.out).vals H.out
      have HC6 : Hid (_) := HC1.out
      clear HB1 HC1
      go_wp2_with fail
      refine Calls.mono (c_must RM HK6.out.1) ?_
      rintro e w20 ⟨rfl, nv20, hr20, hc20⟩
      have hX20 := HK6.out.2.2.2.go HK6.out.1 hc20
      have HN20 : Hid (_) := HK6.out.2.1.go hc20
      have HK20 : Hid (_) := HK6.out.2.2.1.go hc20
      have HC20 : Hid (_) := HC6.out.trans hc20
      have HR20 : Hid (_) := hr20
      obtain ⟨⟨y0, y1, y2, y3, y4, y5⟩, _, yl⟩ := hX20.facts
      clear hX20 hr20 hc20 HK6 HC6
      go_wp2_with fail
      refine Calls.mono (c_putV (k := 8) (n := 0) (t := []) (N := N1) (K := K1) (a := a) RP (HR20.out.less (fun k hk => .inl hk)) (by have := HN20.out.less (F' := F) (fun k hk => .inl hk); simpa only [List.length_append, List.length_cons, List.length_nil, Nat.zero_add] using this) (by have := HK20.out.less (F' := F) (fun k hk => .inl hk); simpa only [List.length_append, List.length_cons, List.length_nil, Nat.zero_add] using this)) ?_
      rintro e w21 ⟨rfl, nv21, hr21, hc21⟩
      go_wp2_with fail
      go_ret
      exact ⟨rfl, nv21, hr21, HC20.out.trans hc21⟩
    have hr3 : _ := (HRD.out.resolve_left (by rintro ⟨h0, _⟩; rw [HQ.out] at h0; cases h0)).2
    obtain ⟨c0, c1, c2, c3, c4, c5, c7, c9, cf, hlt⟩ := HB1.out.rs.cl
    obtain ⟨p, hp⟩ : ∃ p, (!decide ((Rp.nx q1).k = 3 ∨ (Rp.nx q1).k = 4 ∨ (Rp.nx q1).k = 2)) = p := ⟨_, rfl⟩
    rw [hp] at hr3
    have HR3 : Hid (_) := hr3
    have HPP : Hid (_ = p) := hp
    generalize hT : Rp.nx q1 = T at *
    have HTT : Hid (Rp.nx q1 = T) := hT
    have hbY := HB1.out.more (.cells #[.int .i64 (T.k : Int), .string ⟨T.t.toArray⟩, .int .i64 (T.n : Int), .int .i64 (T.a : Int), .bool T.ln] 54)
    have HBY : Hid (_) := hbY
    have HCY : Hid (Chg B nv nv1 w (wr.alloc (.cells #[.int .i64 (T.k : Int), .string ⟨T.t.toArray⟩, .int .i64 (T.n : Int), .int .i64 (T.a : Int), .bool T.ln] 54))) := HC1.out.alloc _
    clear hr3 hp HRD HQ hT hbY
    go_upto_region 4 with fail
    generalize hwy : wr.alloc (.cells #[.int .i64 (T.k : Int), .string ⟨T.t.toArray⟩, .int .i64 (T.n : Int), .int .i64 (T.a : Int), .bool T.ln] 54) = wy at *
    have hy : wy.heap[wr.heap.size]? = some (.cells #[.int .i64 (T.k : Int), .string ⟨T.t.toArray⟩, .int .i64 (T.n : Int), .int .i64 (T.a : Int), .bool T.ln] 54 (0, 0)) := by rw [← hwy]; exact Array.getElem?_push_size
    have HY : Hid (_) := hy
    have y0 : wy.cell? ⟨wr.heap.size, 0, none⟩ = some (.int .i64 (T.k : Int)) := by simp [World.cell?, hy]
    have y1 : wy.cell? ⟨wr.heap.size, 1, none⟩ = some (.string ⟨T.t.toArray⟩) := by simp [World.cell?, hy]
    clear hy hwy g0 g1 g2 g3 g4 g5 z0 z1 z2 z3 z4 z5 gl c0 c1 c2 c3 c4 c5 c7 c9 cf hlt
    go_cut [33] (fun v wx => v = .bool p ∧ wy = wx)
    case first =>
      have hpp := HPP.out
      clear HPP HR3 HTT HNO HSO HCN HB1 HC1
      by_cases k3 : T.k = 3
      · obtain rfl : false = p := by rw [← hpp]; simp [k3]
        rw [k3] at y0
        clear hpp k3
        go_wp2_with fail
        go_meet
        case rel => exact ⟨rfl, rfl⟩
      by_cases k4 : T.k = 4
      · obtain rfl : false = p := by rw [← hpp]; simp [k4]
        rw [k4] at y0
        clear hpp k3 k4
        go_wp2_with fail
        go_meet
        case rel => exact ⟨rfl, rfl⟩
      by_cases k2 : T.k = 2
      · obtain rfl : false = p := by rw [← hpp]; simp [k2]
        rw [k2] at y0
        clear hpp k3 k4 k2
        go_wp2_with fail
        go_meet
        case rel => exact ⟨rfl, rfl⟩
      obtain rfl : true = p := by rw [← hpp]; simp [k2, k3, k4]
      have e3 : ((T.k : Int) == 3) = false := by rw [beq_eq_false_iff_ne]; omega
      have e4 : ((T.k : Int) == 4) = false := by rw [beq_eq_false_iff_ne]; omega
      have e2 : ((T.k : Int) == 2) = false := by rw [beq_eq_false_iff_ne]; omega
      have e3' : ¬ (T.k : Int) = 3 := by omega
      have e4' : ¬ (T.k : Int) = 4 := by omega
      have e2' : ¬ (T.k : Int) = 2 := by omega
      clear hpp k3 k4 k2
      go_wp2_with fail
      go_meet
      case rel => exact ⟨by simp [bne, e3, e4, e2], rfl⟩
    case rest =>
    obtain ⟨rfl, rfl⟩ := hcut
    obtain ⟨c0, c1, c2, c3, c4, c5, c7, c9, cf, hlt⟩ := HBY.out.rs.cl
    rw [HTT.out] at c1 c2 c3 c4 c5
    have hr3 := HR3.out
    cases p
    · have hTk : T.k = 3 ∨ T.k = 4 ∨ T.k = 2 := by
        rcases Decidable.em (T.k = 3 ∨ T.k = 4 ∨ T.k = 2) with h | h
        · exact h
        · have := HPP.out; rw [decide_eq_false h] at this; cases this
      cases hbd : q1.bad
      · obtain ⟨b, q3, y, q4, q5, e3, e4, e5, hw⟩ : ∃ b q3 y q4 q5, Rp.must [58] (Rp.move q1) = q3 ∧ L.e q3 = (y, q4) ∧ Rp.has [44] q4 = (b, q5) ∧ ((b = false ∧ o = some (N1 ++ [T.t], K1 ++ [y]) ∧ s2 = q5) ∨ (b = true ∧ Rp.objLoop L f (N1 ++ [T.t]) (K1 ++ [y]) q5 = (o, s2))) := by
          rcases hr3 with ⟨h0, _⟩ | ⟨_, h0, _⟩ | ⟨_, _, h0⟩
          · cases h0
          · rw [hbd] at h0; cases h0
          · exact h0
        have n5 : q5.nodes.length ≤ 1000000000 := by
          rcases hw with ⟨_, _, e⟩ | ⟨_, e⟩
          · rw [← e]; exact HN2.out
          · exact gb (Rp.kp_objLoop Rp.pre_len hP.gr _ _ _) e HN2.out
        have n4 : q4.nodes.length ≤ 1000000000 := gb (Rp.kp_has Rp.pre_len _) e5 n5
        have R5 := ru_has _ q4 n4 e5
        have R4 : Ru L.e q3 y q4 := ⟨e4, n4⟩
        have n3 := R4.back hP.gr.e
        have R3 : Ru (up (Rp.must [58])) (Rp.move q1) () q3 := ⟨by unfold up; rw [e3], n3⟩
        have hg := HCN.out.2.2.2
        have hk0 : (Rp.nx q1).k ≠ 0 ∧ (Rp.nx q1).k ≠ 6 := by rw [HTT.out]; omega
        have hon := Rp.on_move hk0.1 hk0.2 hg
        have hmb : (Rp.move q1).bad = q1.bad := by unfold Rp.move; split <;> rfl
        have hl1 : (Rp.move q1).toks.length < q1.toks.length := by
          rcases hon.2 with hh | hh
          · rw [hmb, hbd] at hh; cases hh
          · exact hh
        have hl2 : q5.toks.length ≤ (Rp.move q1).toks.length := by
          have h1 := (Rp.kp_must Rp.pre_dn [58] (Rp.move q1)).1 hon.1
          rw [e3] at h1
          have h2 := (hP.dn.e q3).1 h1.1
          rw [e4] at h2
          have h3 := (Rp.kp_has Rp.pre_dn [44] q4).1 h2.1
          rw [e5] at h3
          exact Nat.le_trans h3.2 (Nat.le_trans h2.2 h1.2)
        have HLL : Hid (q5.toks.length + 1 ≤ f) := (show _ ≤ _ by have := HCN.out.1; omega)
        have HMV : Hid (_) := move_any HBY.out.rs hk0.1 hk0.2
        have HWW : Hid (_) := hw
        rw [hbd] at c9
        clear hr3 hbd e3 e4 e5 hw n5 n4 n3 hg hk0 hon hmb hl1 hl2 hTk HPP HR3 HTT HNO
        go_wp2_with fail
        refine Calls.mono HMV.out ?_
        rintro e w5 ⟨rfl, nv5, hr5, hc5⟩
        have HB5 : Hid (_) := HBY.out.go hr5 hc5
        have HC5 : Hid (_) := HCY.out.trans hc5
        have HY5 : Hid (_) := (HBY.out.rs.keepF hc5 (.inl (.inl (.inl (.inr rfl))))).trans HY.out
        clear hr5 hc5 c0 c1 c2 c3 c4 c5 c7 c9 cf hlt y0 y1 HMV
        go_wp2_with fail
        refine Calls.mono (c_must R3 HB5.out.rs) ?_
        rintro e w6 ⟨rfl, nv6, hr6, hc6⟩
        have hb6 := HB5.out.go hr6 hc6
        have hc6' := HC5.out.trans hc6
        have hy6 := (HB5.out.rs.keepF hc6 (.inl (.inl (.inl (.inr rfl))))).trans HY5.out
        have y1 : w6.cell? ⟨wr.heap.size, 1, none⟩ = some (.string ⟨T.t.toArray⟩) := by simp [World.cell?, hy6]
        have yl : wr.heap.size < w6.heap.size := Nat.lt_of_not_le fun hg => by rw [Array.getElem?_eq_none hg] at hy6; cases hy6
        obtain ⟨g0, g1, g2, g3, g4, g5, z0, z1, z2, z3, z4, z5, gl⟩ := hb6.facts
        obtain ⟨a', cap', w7, hrun7, k1, k2, k3, hb7, hch7⟩ := hb6.name T.t (by have := HCN.out; omega)
        have HRn : Hid (_) := hrun7
        have HB7 : Hid (_) := hb7
        have HC7 : Hid (_) := hch7 _ hc6'
        clear hr6 hc6 hb6 hc6' hy6 HB5 HC5 HY5 hrun7 hb7 hch7
        go_upto_region 11 with (at_builtin; refine wpList_append_run _ _ 35 rfl rfl _ _ _ _ rfl rfl HRn.out ?_)
        rw [show N1.length + 1 = (N1 ++ [T.t]).length by simp] at *
        obtain ⟨nm1, ap1⟩ := kid_step hL R4 HB7.out HC7.out (by have := HCN.out; omega)
        have HNM1 : Hid (_) := nm1
        have HAP1 : Hid (_) := ap1
        clear g0 g1 g2 g3 g4 g5 z0 z1 z2 z3 z4 z5 gl k1 k2 k3 y1 yl HRn nm1 ap1
        obtain ⟨g0, g1, g2, g3, g4, g5, z0, z1, z2, z3, z4, z5, gl⟩ := HB7.out.facts
        generalize w7.setCell ⟨w.heap.size, 3, none⟩ _ = w8 at *
        go_cut [] (fun wx => Hid (∃ nv' na ncap ka kcap, Bx src (fun k => F k ∨ k = wr.heap.size) base B dep q4 nv' w wx w.heap.size (.int .i64 8) (.int .i64 0) (.string ⟨#[]⟩) (.int .i64 (a : Int)) (N1 ++ [T.t]) na ncap (K1 ++ [y]) ka kcap ∧ Chg B nv nv' w wx))
        case first =>
          go_region_law (first | (refine step_append_ex (by rfl) _ _ 36 (by rfl) _ _ (by rfl) (by rfl) (ApK src (fun k => F k ∨ k = wr.heap.size) base B dep nv w w.heap.size (.int .i64 8) (.int .i64 0) (.string ⟨#[]⟩) (.int .i64 (a : Int)) (N1 ++ [T.t]) (K1 ++ [y]) q4 (.slice ka K1.length kcap)) (HAP1.out _ (by assumption)) ?_; rintro v' w9 ⟨a9, cap9, rfl, hc9, hf9, hl9, HA9⟩) | (go_simp; go_at_call 60; refine Calls.mono (HNM1.out _ (by repeat (first | with_reducible exact Below.refl _ _ | with_reducible refine Below.drew ?_))) ?_; rintro e w5 ⟨rfl, hx5, hX5, HO5⟩; try dsimp only))
          all_goals
            go_wp2_with fail
            go_meet
            case rel => exact (by have := Hid.out HA9; rwa [show (K1 ++ [y]).length = K1.length + 1 by simp] at this)
        case rest =>
        obtain ⟨nv9, na9, ncap9, ka9, kcap9, hb9, hc9⟩ := Hid.out hcut
        have HB8 : Hid (_) := hb9.less (F' := F) (fun k hk => .inl hk)
        have HC8 : Hid (_) := hc9
        clear hcut hb9 hc9 HNM1 HAP1 HB7 HC7 g0 g1 g2 g3 g4 g5 z0 z1 z2 z3 z4 z5 gl
        cases b
        · obtain ⟨rfl, rfl⟩ : o = some (N1 ++ [T.t], K1 ++ [y]) ∧ s2 = q5 := by
            rcases HWW.out with ⟨_, h1, h2⟩ | ⟨h0, _⟩
            · exact ⟨h1, h2⟩
            · cases h0
          obtain ⟨s3, RM, RP⟩ := HSO.out _ _ rfl
          clear HSO HWW HCN HLL
          go_wp2_with fail
          refine Calls.mono (c_has R5 HB8.out.rs) ?_
          rintro e w10 ⟨rfl, nv10, hr10, hc10⟩
          have HB9 : Hid (_) := HB8.out.go hr10 hc10
          have HC9 : Hid (_) := HC8.out.trans hc10
          clear hr10 hc10 HB8 HC8
          have HK6 : Hid (_) := (HB9.out).vals H.out
          have HC6 : Hid (_) := HC9.out
          clear HB9 HC9
          go_wp2_with fail
          refine Calls.mono (c_must RM HK6.out.1) ?_
          rintro e w20 ⟨rfl, nv20, hr20, hc20⟩
          have hX20 := HK6.out.2.2.2.go HK6.out.1 hc20
          have HN20 : Hid (_) := HK6.out.2.1.go hc20
          have HK20 : Hid (_) := HK6.out.2.2.1.go hc20
          have HC20 : Hid (_) := HC6.out.trans hc20
          have HR20 : Hid (_) := hr20
          obtain ⟨⟨y0, y1, y2, y3, y4, y5⟩, _, yl⟩ := hX20.facts
          clear hX20 hr20 hc20 HK6 HC6
          go_wp2_with fail
          refine Calls.mono (c_putV (k := 8) (n := 0) (t := []) (N := N1 ++ [T.t]) (K := K1 ++ [y]) (a := a) RP (HR20.out.less (fun k hk => .inl hk)) (by have := HN20.out.less (F' := F) (fun k hk => .inl hk); simpa only [List.length_append, List.length_cons, List.length_nil, Nat.zero_add] using this) (by have := HK20.out.less (F' := F) (fun k hk => .inl hk); simpa only [List.length_append, List.length_cons, List.length_nil, Nat.zero_add] using this)) ?_
          rintro e w21 ⟨rfl, nv21, hr21, hc21⟩
          go_wp2_with fail
          go_ret
          exact ⟨rfl, nv21, hr21, HC20.out.trans hc21⟩
        · have hrun5 : Rp.objLoop L f (N1 ++ [T.t]) (K1 ++ [y]) q5 = (o, s2) := by
            rcases HWW.out with ⟨h0, _⟩ | ⟨_, h1⟩
            · cases h0
            · exact h1
          have HRN5 : Hid (_) := hrun5
          clear hrun5 HWW HSO
          go_wp2_with fail
          refine Calls.mono (c_has R5 HB8.out.rs) ?_
          rintro e w10 ⟨rfl, nv10, hr10, hc10⟩
          have HB9 : Hid (_) := HB8.out.go hr10 hc10
          have HC9 : Hid (_) := HC8.out.trans hc10
          clear hr10 hc10 HB8 HC8
          have HEN : Hid (ObL src F base B dep L nv w w10 a f o s2) := (show ObL _ _ _ _ _ _ _ _ _ _ _ _ _ from ⟨N1 ++ [T.t], K1 ++ [y], q5, ⟨nv10, na9, ncap9, ka9, kcap9, HB9.out, HC9.out⟩, HRN5.out, HLL.out, by have := HCN.out.2.1; simp; omega, by have := HCN.out.2.2.1; simp; omega⟩)
          clear HB9 HC9 HRN5 HLL HCN
          go_wp2_with fail
          go_roundg f
          case rel => exact HEN
          case measure => omega
      · obtain ⟨rfl, rfl⟩ : o = none ∧ s2 = q1 := by
          rcases hr3 with ⟨h0, _⟩ | ⟨_, _, h1, h2⟩ | ⟨_, h0, _⟩
          · cases h0
          · exact ⟨h1, h2⟩
          · rw [hbd] at h0; cases h0
        obtain ⟨rfl, rfl⟩ := HNO.out rfl
        rw [hbd] at c9
        clear hr3 HR3 HPP HTT HNO HSO HCN hbd hTk
        go_wp2_with fail
        go_ret
        exact ⟨rfl, nv1, HBY.out.rs.less (fun k hk => .inl (.inl (.inl (.inl hk)))), HCY.out⟩
    · obtain ⟨rfl, rfl⟩ : o = none ∧ s2 = Rp.spoil q1 := by
        rcases hr3 with ⟨_, h1, h2⟩ | ⟨h0, _⟩ | ⟨h0, _⟩
        · exact ⟨h1, h2⟩
        · cases h0
        · cases h0
      obtain ⟨rfl, rfl⟩ := HNO.out rfl
      have HSP : Hid (_) := HBY.out.rs.spoil
      clear hr3 HR3 HPP HTT HNO HSO HCN
      go_wp2_with fail
      go_ret
      exact ⟨rfl, nv1, HSP.out.1.less (fun k hk => .inl (.inl (.inl (.inl hk)))), HCY.out.trans HSP.out.2⟩
end
end Go.Proofs.Ytkaacmghgobhmaa.Rd
end
section
namespace Go.Proofs.Ytkaacmghgobhmaa.Rd
open Go.RowKit
open L (tkA own_block own_below intOf info_of size_list wpList_append_run)
set_option linter.unusedVariables false
theorem set7x {w : World} {b : Nat} {x0 x1 x2 x3 x4 x5 : Value} {t : TypeId} (h : w.heap[b]? = some (.cells #[x0, x1, x2, x3, x4, x5] t (0, 0))) (y0 y1 y2 y3 y4 y5 z : Value) :
    (((((((w.setCell ⟨b, 0, none⟩ y0).setCell ⟨b, 1, none⟩ y1).setCell ⟨b, 2, none⟩ y2).setCell ⟨b, 3, none⟩ y3).setCell ⟨b, 4, none⟩ y4).setCell ⟨b, 5, none⟩ y5).setCell ⟨b, 5, none⟩ z).heap[b]? = some (.cells #[y0, y1, y2, y3, y4, z] t (0, 0)) := by
  simp [World.setCell, Array.getElem?_modify, h]
section
variable {src : ByteArray} {F : Nat → Prop} {base B dep : Nat} {s s' : Rp.Rt} {nv : Value} {w : World}
/-- Two boxes beside the reader: a token's, a node's. -/
structure TwoB (src : ByteArray) (F : Nat → Prop) (base B dep : Nat) (nv0 : Value) (w W : World) (T : Lx.Tk) (x0 x1 x2 x3 x4 x5 : Value) (s : Rp.Rt) (nv : Value) : Prop where
  rs : RS src (fun k => (F k ∨ k = w.heap.size) ∨ k = w.heap.size + 1) base B dep s nv W
  chg : Chg B nv0 nv w W
  tok : W.heap[w.heap.size]? = some (.cells #[.int .i64 (T.k : Int), .string ⟨T.t.toArray⟩, .int .i64 (T.n : Int), .int .i64 (T.a : Int), .bool T.ln] 54 (0, 0))
  box : W.heap[w.heap.size + 1]? = some (.cells #[x0, x1, x2, x3, x4, x5] 38 (0, 0))
theorem TwoB.new (h : RS src F base B dep s nv w) (T : Lx.Tk) (y0 y1 y2 y3 y4 y5 : Value) : TwoB src F base B dep nv w ((w.alloc (.cells #[.int .i64 (T.k : Int), .string ⟨T.t.toArray⟩, .int .i64 (T.n : Int), .int .i64 (T.a : Int), .bool T.ln] 54)).alloc (.cells #[y0, y1, y2, y3, y4, y5] 38)) T y0 y1 y2 y3 y4 y5 s nv := by
  have h2 := (h.more (.cells #[.int .i64 (T.k : Int), .string ⟨T.t.toArray⟩, .int .i64 (T.n : Int), .int .i64 (T.a : Int), .bool T.ln] 54)).more (.cells #[y0, y1, y2, y3, y4, y5] 38)
  rw [alloc_size'] at h2
  have hs := alloc_size' w (.cells #[.int .i64 (T.k : Int), .string ⟨T.t.toArray⟩, .int .i64 (T.n : Int), .int .i64 (T.a : Int), .bool T.ln] 54)
  exact ⟨h2, (Chg.refl B nv w).alloc _ |>.alloc _, (Below.heap_alloc _ _ _ (by rw [hs]; omega)).trans Array.getElem?_push_size, by rw [← hs]; exact Array.getElem?_push_size⟩
variable {nv0 nv' : Value} {W W' : World} {T : Lx.Tk} {x0 x1 x2 x3 x4 x5 : Value}
theorem TwoB.go (h : TwoB src F base B dep nv0 w W T x0 x1 x2 x3 x4 x5 s nv) (hr : RS src (fun k => (F k ∨ k = w.heap.size) ∨ k = w.heap.size + 1) base B dep s' nv' W') (c : Chg B nv nv' W W') : TwoB src F base B dep nv0 w W' T x0 x1 x2 x3 x4 x5 s' nv' :=
  ⟨hr, h.chg.trans c, (h.rs.keepF c (.inl (.inr rfl))).trans h.tok, (h.rs.keepF c (.inr rfl)).trans h.box⟩
theorem TwoB.below (h : TwoB src F base B dep nv0 w W T x0 x1 x2 x3 x4 x5 s nv) (hb : Below W.heap.size W W') : TwoB src F base B dep nv0 w W' T x0 x1 x2 x3 x4 x5 s nv := h.go (h.rs.below hb) (Chg.below nv hb)
theorem TwoB.facts (h : TwoB src F base B dep nv0 w W T x0 x1 x2 x3 x4 x5 s nv) : W.cell? ⟨w.heap.size, 0, none⟩ = some (.int .i64 (T.k : Int)) ∧ W.cell? ⟨w.heap.size, 1, none⟩ = some (.string ⟨T.t.toArray⟩) ∧ W.cell? ⟨w.heap.size, 2, none⟩ = some (.int .i64 (T.n : Int)) ∧ W.cell? ⟨w.heap.size, 3, none⟩ = some (.int .i64 (T.a : Int)) ∧ W.cell? ⟨w.heap.size, 4, none⟩ = some (.bool T.ln) ∧ w.heap.size < W.heap.size ∧
    W.cell? ⟨w.heap.size + 1, 0, none⟩ = some x0 ∧ W.cell? ⟨w.heap.size + 1, 1, none⟩ = some x1 ∧ W.cell? ⟨w.heap.size + 1, 2, none⟩ = some x2 ∧ W.cell? ⟨w.heap.size + 1, 3, none⟩ = some x3 ∧ W.cell? ⟨w.heap.size + 1, 4, none⟩ = some x4 ∧ W.cell? ⟨w.heap.size + 1, 5, none⟩ = some x5 ∧ W.frozen? ⟨w.heap.size + 1, 0, none⟩ = false ∧ W.frozen? ⟨w.heap.size + 1, 1, none⟩ = false ∧ W.frozen? ⟨w.heap.size + 1, 2, none⟩ = false ∧ W.frozen? ⟨w.heap.size + 1, 3, none⟩ = false ∧ W.frozen? ⟨w.heap.size + 1, 4, none⟩ = false ∧ W.frozen? ⟨w.heap.size + 1, 5, none⟩ = false ∧ w.heap.size + 1 < W.heap.size := by
  have h1 := h.tok
  have h2 := h.box
  refine ⟨?_, ?_, ?_, ?_, ?_, Nat.lt_of_not_le (fun hg => by rw [Array.getElem?_eq_none hg] at h1; cases h1), ?_, ?_, ?_, ?_, ?_, ?_, ?_, ?_, ?_, ?_, ?_, ?_, Nat.lt_of_not_le (fun hg => by rw [Array.getElem?_eq_none hg] at h2; cases h2)⟩ <;> simp [World.cell?, World.frozen?, h1, h2]
theorem TwoB.store (h : TwoB src F base B dep nv0 w W T x0 x1 x2 x3 x4 x5 s nv) {y0 y1 y2 y3 y4 y5 : Value} (i : Nat) (u : Value) (hb : (W.setCell ⟨w.heap.size + 1, i, none⟩ u).heap[w.heap.size + 1]? = some (.cells #[y0, y1, y2, y3, y4, y5] 38 (0, 0))) : TwoB src F base B dep nv0 w (W.setCell ⟨w.heap.size + 1, i, none⟩ u) T y0 y1 y2 y3 y4 y5 s nv :=
  ⟨h.rs.foreign (.inr rfl) i u, h.chg.setX (by omega) i u, (Below.heap_setCell W ⟨w.heap.size + 1, i, none⟩ u w.heap.size (by show w.heap.size ≠ w.heap.size + 1; omega)).trans h.tok, hb⟩
theorem TwoB.set0 (h : TwoB src F base B dep nv0 w W T x0 x1 x2 x3 x4 x5 s nv) (u : Value) : TwoB src F base B dep nv0 w (W.setCell ⟨w.heap.size + 1, 0, none⟩ u) T u x1 x2 x3 x4 x5 s nv := h.store 0 u (by have := h.box; simp [World.setCell, Array.getElem?_modify, this])
theorem TwoB.set1 (h : TwoB src F base B dep nv0 w W T x0 x1 x2 x3 x4 x5 s nv) (u : Value) : TwoB src F base B dep nv0 w (W.setCell ⟨w.heap.size + 1, 1, none⟩ u) T x0 u x2 x3 x4 x5 s nv := h.store 1 u (by have := h.box; simp [World.setCell, Array.getElem?_modify, this])
theorem TwoB.set2 (h : TwoB src F base B dep nv0 w W T x0 x1 x2 x3 x4 x5 s nv) (u : Value) : TwoB src F base B dep nv0 w (W.setCell ⟨w.heap.size + 1, 2, none⟩ u) T x0 x1 u x3 x4 x5 s nv := h.store 2 u (by have := h.box; simp [World.setCell, Array.getElem?_modify, this])
theorem TwoB.set3 (h : TwoB src F base B dep nv0 w W T x0 x1 x2 x3 x4 x5 s nv) (u : Value) : TwoB src F base B dep nv0 w (W.setCell ⟨w.heap.size + 1, 3, none⟩ u) T x0 x1 x2 u x4 x5 s nv := h.store 3 u (by have := h.box; simp [World.setCell, Array.getElem?_modify, this])
theorem TwoB.set4 (h : TwoB src F base B dep nv0 w W T x0 x1 x2 x3 x4 x5 s nv) (u : Value) : TwoB src F base B dep nv0 w (W.setCell ⟨w.heap.size + 1, 4, none⟩ u) T x0 x1 x2 x3 u x5 s nv := h.store 4 u (by have := h.box; simp [World.setCell, Array.getElem?_modify, this])
theorem TwoB.set5 (h : TwoB src F base B dep nv0 w W T x0 x1 x2 x3 x4 x5 s nv) (u : Value) : TwoB src F base B dep nv0 w (W.setCell ⟨w.heap.size + 1, 5, none⟩ u) T x0 x1 x2 x3 x4 u s nv := h.store 5 u (by have := h.box; simp [World.setCell, Array.getElem?_modify, this])
theorem simple_kind (t : List UInt8) : (Rp.simple t).t = [] ∧ (Rp.simple t).names = [] ∧ (Rp.simple t).kids = [] ∧ (Rp.simple t).k ≤ 7 := by
  unfold Rp.simple
  repeat' split
  all_goals exact ⟨rfl, rfl, rfl, by decide⟩
theorem simple_node (t : List UInt8) (a : Nat) : ({ Rp.simple t with a := a } : Ps.Nd) = { k := (Rp.simple t).k, n := (Rp.simple t).n, a := a } := by
  obtain ⟨h1, h2, h3, _⟩ := simple_kind t
  generalize Rp.simple t = n at *
  obtain ⟨k, n, t, ns, ks, a'⟩ := n
  simp only at h1 h2 h3
  subst h1 h2 h3
  rfl
set_option maxRecDepth 100000 in
set_option maxHeartbeats 2000000 in
theorem c_first {L : Rp.Lr} {r : Nat} (hL : ∀ F, LvC src F base B dep L) (hP : LvP L) (E : Ru (Rp.first L) s r s') (h : RS src F base B dep s nv w) :
    Calls Try.prog 73 #[.pointer (some ⟨B, 0, none⟩)] w (Tells src F base B dep nv w s' (.int .i64 (r : Int))) := by
  have e := E.eq
  have hsm := E.small
  have hn0 := E.back (Rp.kp_first Rp.pre_len hP.gr)
  obtain ⟨c0, c1, c2, c3, c4, c5, c7, c9, cf, hlt⟩ := h.cl
  have HTB : Hid (_) := fun y0 y1 y2 y3 y4 y5 => TwoB.new h (Rp.nx s) y0 y1 y2 y3 y4 y5
  have HMV : Hid (∀ W nv1, RS src (fun k => (F k ∨ k = w.heap.size) ∨ k = w.heap.size + 1) base B dep s nv1 W → (Rp.nx s).k ≠ 0 → (Rp.nx s).k ≠ 6 → Calls Try.prog 64 #[.pointer (some ⟨B, 0, none⟩)] W (Tells src (fun k => (F k ∨ k = w.heap.size) ∨ k = w.heap.size + 1) base B dep nv1 W (Rp.move s) (.tuple #[]))) := fun W nv1 hW h0 h6 => move_any hW h0 h6
  unfold Rp.first at e
  simp only at e
  by_cases k1 : (Rp.nx s).k = 1
  · rw [if_pos k1] at e
    have R1 : Ru (Rp.put { k := 1, n := (Rp.nx s).n, a := (Rp.nx s).a }) (Rp.move s) r s' := ⟨e, hsm⟩
    rw [k1] at c1
    have hcc := HTB.out (.int .i64 1) (.int .i64 ((Rp.nx s).n : Int)) (.string ⟨#[]⟩) (.slice none 0 0) (.slice none 0 0) (.int .i64 ((Rp.nx s).a : Int))
    have hmv := HMV.out _ _ hcc.rs (by omega) (by omega)
    rw [k1] at hcc hmv
    have HCC : Hid (_) := hcc
    have HMM : Hid (_) := hmv
    clear e HTB HMV hn0 hcc hmv k1 E h
    generalize Rp.nx s = T at *
    go_enter Try.func73, Try.ntmps73
    go_wp2_with fail
    refine Calls.mono HMM.out ?_
    rintro e w5 ⟨rfl, nv5, hr5, hc5⟩
    have hb5 := HCC.out.go hr5 hc5
    obtain ⟨_, _, _, _, _, _, b0, b1, b2, b3, b4, b5, _, _, _, _, _, _, bl⟩ := hb5.facts
    have HB5 : Hid (_) := hb5
    clear hr5 hc5 hb5 HMM HCC c0 c1 c2 c3 c4 c5 c7 c9 cf hlt
    go_wp2_with fail
    refine Calls.mono (c_putV (k := 1) (n := T.n) (t := []) (N := []) (K := []) (a := T.a) R1 (HB5.out.rs.less (fun k hk => .inl (.inl hk))) (NV.nil _ _ _ _) (KV.nil _ _ _ _)) ?_
    rintro e w6 ⟨rfl, nv6, hr6, hc6⟩
    go_wp2_with fail
    go_ret
    exact ⟨rfl, nv6, hr6, HB5.out.chg.trans hc6⟩
  rw [if_neg k1] at e
  by_cases k2 : (Rp.nx s).k = 2
  · rw [if_pos k2] at e
    have R1 : Ru (Rp.put { k := 2, t := (Rp.nx s).t, a := (Rp.nx s).a }) (Rp.move s) r s' := ⟨e, hsm⟩
    rw [k2] at c1
    have hcc := HTB.out (.int .i64 2) (.int .i64 0) (.string ⟨(Rp.nx s).t.toArray⟩) (.slice none 0 0) (.slice none 0 0) (.int .i64 ((Rp.nx s).a : Int))
    have hmv := HMV.out _ _ hcc.rs (by omega) (by omega)
    rw [k2] at hcc hmv
    have HCC : Hid (_) := hcc
    have HMM : Hid (_) := hmv
    clear e HTB HMV hn0 hcc hmv k1 k2 E h
    generalize Rp.nx s = T at *
    go_enter Try.func73, Try.ntmps73
    go_wp2_with fail
    refine Calls.mono HMM.out ?_
    rintro e w5 ⟨rfl, nv5, hr5, hc5⟩
    have hb5 := HCC.out.go hr5 hc5
    obtain ⟨_, _, _, _, _, _, b0, b1, b2, b3, b4, b5, _, _, _, _, _, _, bl⟩ := hb5.facts
    have HB5 : Hid (_) := hb5
    clear hr5 hc5 hb5 HMM HCC c0 c1 c2 c3 c4 c5 c7 c9 cf hlt
    go_wp2_with fail
    refine Calls.mono (c_putV (k := 2) (n := 0) (t := T.t) (N := []) (K := []) (a := T.a) R1 (HB5.out.rs.less (fun k hk => .inl (.inl hk))) (NV.nil _ _ _ _) (KV.nil _ _ _ _)) ?_
    rintro e w6 ⟨rfl, nv6, hr6, hc6⟩
    go_wp2_with fail
    go_ret
    exact ⟨rfl, nv6, hr6, HB5.out.chg.trans hc6⟩
  rw [if_neg k2] at e
  by_cases k3 : (Rp.nx s).k = 3
  · rw [if_pos k3] at e
    have R1 : Ru (Rp.put { k := 3, t := (Rp.nx s).t, a := (Rp.nx s).a }) (Rp.move s) r s' := ⟨e, hsm⟩
    rw [k3] at c1
    have hcc := HTB.out (.int .i64 3) (.int .i64 0) (.string ⟨(Rp.nx s).t.toArray⟩) (.slice none 0 0) (.slice none 0 0) (.int .i64 ((Rp.nx s).a : Int))
    have hmv := HMV.out _ _ hcc.rs (by omega) (by omega)
    rw [k3] at hcc hmv
    have HCC : Hid (_) := hcc
    have HMM : Hid (_) := hmv
    clear e HTB HMV hn0 hcc hmv k1 k2 k3 E h
    generalize Rp.nx s = T at *
    go_enter Try.func73, Try.ntmps73
    go_wp2_with fail
    refine Calls.mono HMM.out ?_
    rintro e w5 ⟨rfl, nv5, hr5, hc5⟩
    have hb5 := HCC.out.go hr5 hc5
    obtain ⟨_, _, _, _, _, _, b0, b1, b2, b3, b4, b5, _, _, _, _, _, _, bl⟩ := hb5.facts
    have HB5 : Hid (_) := hb5
    clear hr5 hc5 hb5 HMM HCC c0 c1 c2 c3 c4 c5 c7 c9 cf hlt
    go_wp2_with fail
    refine Calls.mono (c_putV (k := 3) (n := 0) (t := T.t) (N := []) (K := []) (a := T.a) R1 (HB5.out.rs.less (fun k hk => .inl (.inl hk))) (NV.nil _ _ _ _) (KV.nil _ _ _ _)) ?_
    rintro e w6 ⟨rfl, nv6, hr6, hc6⟩
    go_wp2_with fail
    go_ret
    exact ⟨rfl, nv6, hr6, HB5.out.chg.trans hc6⟩
  rw [if_neg k3] at e
  have hfl : ∀ (k n : Int) (t : ByteArray) (x y : Value) (a : Int) (W : World), (Instr.field 38 (.agg #[.int .i64 k, .int .i64 n, .string t, x, y, .int .i64 a]) 0).run Try.prog W = .ok (.int .i64 k) W := fun k n t x y a W => by simp [Instr.field, go_sem, asAgg]
  have HSI : Hid (∀ t W, _) := simple_any
  have hbox := HTB.out (.int .i64 0) (.int .i64 0) (.string ⟨#[]⟩) (.slice none 0 0) (.slice none 0 0) (.int .i64 ((Rp.nx s).a : Int))
  have q1 : (((Rp.nx s).k : Int) == 1) = false := by rw [beq_eq_false_iff_ne]; omega
  have q2 : (((Rp.nx s).k : Int) == 2) = false := by rw [beq_eq_false_iff_ne]; omega
  have q3 : (((Rp.nx s).k : Int) == 3) = false := by rw [beq_eq_false_iff_ne]; omega
  by_cases k4 : (Rp.nx s).k = 4 ∧ 0 < (Rp.simple (Rp.nx s).t).k
  · rw [if_pos k4, simple_node] at e
    have R1 : Ru (Rp.put { k := (Rp.simple (Rp.nx s).t).k, n := (Rp.simple (Rp.nx s).t).n, a := (Rp.nx s).a }) (Rp.move s) r s' := ⟨e, hsm⟩
    have hmv := fun W nv1 hW => HMV.out W nv1 hW (by omega) (by omega)
    have HMM : Hid (_) := hmv
    have hpos : (0 : Int) < (Rp.simple (Rp.nx s).t).k := by omega
    rw [k4.1] at c1 q1 q2 q3 hbox
    have HCC : Hid (_) := hbox
    clear e HTB HMV hn0 hbox hmv k1 k2 k3 k4 E h q1 q2 q3
    generalize Rp.nx s = T at *
    go_enter Try.func73, Try.ntmps73
    go_wp2_with fail
    refine Calls.mono (HSI.out _ _) ?_
    rintro e w5 ⟨rfl, hb5⟩
    have h5 := HCC.out.below hb5
    obtain ⟨t0, t1, t2, t3, t4, tl, b0, b1, b2, b3, b4, b5, f0, f1, f2, f3, f4, f5, bl⟩ := h5.facts
    have H5 : Hid (_) := h5
    clear hb5 h5 HCC c0 c1 c2 c3 c4 c5 c7 c9 cf hlt
    go_wp2_with fail
    refine Calls.mono (HSI.out _ _) ?_
    rintro e w6 ⟨rfl, hb6⟩
    have h6 := H5.out.below hb6
    clear t0 t1 t2 t3 t4 tl b0 b1 b2 b3 b4 b5 f0 f1 f2 f3 f4 f5 bl
    obtain ⟨t0, t1, t2, t3, t4, tl, b0, b1, b2, b3, b4, b5, f0, f1, f2, f3, f4, f5, bl⟩ := h6.facts
    have H6 : Hid (_) := h6
    clear hb6 h6 H5
    go_wp2_with fail
    have H7 : Hid (_) := ((((((H6.out.set0 (.int .i64 ((Rp.simple T.t).k : Int))).set1 (.int .i64 ((Rp.simple T.t).n : Int))).set2 (.string ⟨#[]⟩)).set3 (.slice none 0 0)).set4 (.slice none 0 0)).set5 (.int .i64 0)).set5 (.int .i64 (T.a : Int))
    refine Calls.mono (HMM.out _ _ H7.out.rs) ?_
    rintro e w8 ⟨rfl, nv8, hr8, hc8⟩
    have hb8 := H7.out.go hr8 hc8
    clear t0 t1 t2 t3 t4 tl b0 b1 b2 b3 b4 b5 f0 f1 f2 f3 f4 f5 bl
    obtain ⟨_, _, _, _, _, _, b0, b1, b2, b3, b4, b5, _, _, _, _, _, _, bl⟩ := hb8.facts
    have HB8 : Hid (_) := hb8
    clear hr8 hc8 hb8 HMM H6 H7
    go_wp2_with fail
    refine Calls.mono (c_putV (k := (Rp.simple T.t).k) (n := (Rp.simple T.t).n) (t := []) (N := []) (K := []) (a := T.a) R1 (HB8.out.rs.less (fun k hk => .inl (.inl hk))) (NV.nil _ _ _ _) (KV.nil _ _ _ _)) ?_
    rintro e w9 ⟨rfl, nv9, hr9, hc9⟩
    go_wp2_with fail
    go_ret
    exact ⟨rfl, nv9, hr9, HB8.out.chg.trans hc9⟩
  rw [if_neg k4] at e
  have HE : Hid (_) := e
  have HK4 : Hid (_) := k4
  have HBX : Hid (_) := hbox
  have HN0 : Hid (s.nodes.length ≤ 1000000000) := hn0
  obtain ⟨T, hT⟩ : ∃ T, Rp.nx s = T := ⟨_, rfl⟩
  rw [hT] at c1 c2 c3 c4 c5 q1 q2 q3 hbox HE HK4 HBX
  have HTT : Hid (_) := hT
  clear e k4 k1 k2 k3 hbox HTB HMV hn0 E h hT
  go_enter Try.func73, Try.ntmps73
  go_upto_region 14 with fail
  go_cut [41] (fun v wx => v = .bool false ∧ Hid (TwoB src F base B dep nv w wx T (.int .i64 0) (.int .i64 0) (.string ⟨#[]⟩) (.slice none 0 0) (.slice none 0 0) (.int .i64 (T.a : Int)) s nv))
  case first =>
    by_cases h4 : T.k = 4
    · have h0 : (Rp.simple T.t).k = 0 := by
        have := HK4.out
        rcases Nat.eq_zero_or_pos (Rp.simple T.t).k with h | h
        · exact h
        · exact absurd ⟨h4, h⟩ this
      have q4 : ((T.k : Int) == 4) = true := by rw [beq_iff_eq]; omega
      have HH0 : Hid (_) := h0
      clear h0 h4 q1 q2 q3 HE HK4 HTT
      go_wp2_with fail
      refine Calls.mono (HSI.out _ _) ?_
      rintro e w5 ⟨rfl, hb5⟩
      have HB5 : Hid (_) := HBX.out.below hb5
      clear hb5 HBX
      rw [HH0.out]
      go_wp2_with fail
      go_meet
      case rel => exact ⟨rfl, HB5.out⟩
    · have q4 : ((T.k : Int) == 4) = false := by rw [beq_eq_false_iff_ne]; omega
      clear h4 HE HK4 HTT
      go_wp2_with fail
      go_meet
      case rel => exact ⟨rfl, HBX.out⟩
  case rest =>
  obtain ⟨rfl, hcut⟩ := hcut
  clear c0 c1 c2 c3 c4 c5 c7 c9 cf hlt q1 q2 q3 HBX HK4 HSI hfl
  have h1 := Hid.out hcut
  have HI : Hid (_) := is_any h1.rs [102, 117, 110, 99, 116, 105, 111, 110]
  have H1 : Hid (_) := h1
  clear hcut h1
  cases hi : Rp.isS [102, 117, 110, 99, 116, 105, 111, 110] s
  · rw [hi] at HI
    have e := HE.out
    rw [if_neg (by rw [hi]; simp)] at e
    cases e1 : Rp.has [40] s with
    | mk b1 p1 =>
    have R1 := ru_has [40] s HN0.out e1
    have np1 := R1.small
    rw [e1] at e
    cases b1
    · simp only at e
      cases e2 : Rp.has [91] p1 with
      | mk b2 p2 =>
      have R2 := ru_has [91] p1 np1 e2
      have np2 := R2.small
      rw [e2] at e
      cases b2
      · simp only at e
        cases e3 : Rp.has [123] p2 with
        | mk b3 p3 =>
        have R3 := ru_has [123] p2 np2 e3
        rw [e3] at e
        cases b3
        · simp only [Prod.mk.injEq] at e
          obtain ⟨rfl, rfl⟩ := e
          clear e1 e2 e3 HE hi np1 np2
          go_wp2_with fail
          refine Calls.mono HI.out ?_
          rintro e w5 ⟨rfl, rfl⟩
          go_wp2_with fail
          refine Calls.mono (c_has R1 H1.out.rs) ?_
          rintro e w6 ⟨rfl, nv6, hr6, hc6⟩
          go_wp2_with fail
          refine Calls.mono (c_has R2 hr6) ?_
          rintro e w7 ⟨rfl, nv7, hr7, hc7⟩
          go_wp2_with fail
          refine Calls.mono (c_has R3 hr7) ?_
          rintro e w8 ⟨rfl, nv8, hr8, hc8⟩
          obtain ⟨c0, c1, c2, c3, c4, c5, c7, c9, cf, hlt⟩ := hr8.cl
          have HSP : Hid (_) := hr8.spoil
          have HC8 : Hid (_) := ((H1.out.chg.trans hc6).trans hc7).trans hc8
          clear hr6 hc6 hr7 hc7 hr8 hc8
          go_wp2_with fail
          go_ret
          exact ⟨rfl, nv8, HSP.out.1.less (fun k hk => .inl (.inl hk)), HC8.out.trans HSP.out.2⟩
        · simp only at e
          have R4 : Ru (Rp.object L T.a) p3 r s' := ⟨e, hsm⟩
          clear e1 e2 e3 e HE hi np1 np2
          go_wp2_with fail
          refine Calls.mono HI.out ?_
          rintro e w5 ⟨rfl, rfl⟩
          go_wp2_with fail
          refine Calls.mono (c_has R1 H1.out.rs) ?_
          rintro e w6 ⟨rfl, nv6, hr6, hc6⟩
          have H6 : Hid (_) := H1.out.go hr6 hc6
          clear hr6 hc6
          go_wp2_with fail
          refine Calls.mono (c_has R2 H6.out.rs) ?_
          rintro e w7 ⟨rfl, nv7, hr7, hc7⟩
          have H7 : Hid (_) := H6.out.go hr7 hc7
          clear hr7 hc7
          go_wp2_with fail
          refine Calls.mono (c_has R3 H7.out.rs) ?_
          rintro e w8 ⟨rfl, nv8, hr8, hc8⟩
          have h8 := H7.out.go hr8 hc8
          obtain ⟨_, _, _, _, _, _, b0, b1, b2, b3, b4, b5, _, _, _, _, _, _, bl⟩ := h8.facts
          have H8 : Hid (_) := h8
          clear hr8 hc8 h8 H1 H6 H7
          go_wp2_with fail
          refine Calls.mono (c_object hL hP R4 (H8.out.rs.less (F' := F) (fun k hk => .inl (.inl hk)))) ?_
          rintro e w9 ⟨rfl, nv9, hr9, hc9⟩
          go_wp2_with fail
          go_ret
          exact ⟨rfl, nv9, hr9, H8.out.chg.trans hc9⟩
      · simp only at e
        rcases e4 : Rp.commas L [93] p2 with ⟨K, p4⟩
        rw [e4] at e
        simp only at e
        have R5 : Ru (Rp.put { k := 9, kids := K, a := T.a }) p4 r s' := ⟨e, hsm⟩
        have np4 := R5.back (Rp.pre_len.put _)
        have R4 : Ru (Rp.commas L [93]) p2 K p4 := ⟨e4, np4⟩
        clear e1 e2 e4 e HE hi np1 np2 np4
        go_wp2_with fail
        refine Calls.mono HI.out ?_
        rintro e w5 ⟨rfl, rfl⟩
        go_wp2_with fail
        refine Calls.mono (c_has R1 H1.out.rs) ?_
        rintro e w6 ⟨rfl, nv6, hr6, hc6⟩
        have H6 : Hid (_) := H1.out.go hr6 hc6
        clear hr6 hc6
        go_wp2_with fail
        refine Calls.mono (c_has R2 H6.out.rs) ?_
        rintro e w7 ⟨rfl, nv7, hr7, hc7⟩
        have h7 := H6.out.go hr7 hc7
        obtain ⟨_, _, _, _, _, _, b0, b1, b2, b3, b4, b5, f0, f1, f2, f3, f4, f5, bl⟩ := h7.facts
        have H7 : Hid (_) := h7.set0 (.int .i64 9)
        clear hr7 hc7 h7 H1 H6
        go_wp2_with fail
        refine Calls.mono (c_commas hL hP R4 H7.out.rs) ?_
        rintro e w8 ⟨ad, cap, rfl, nv8, hr8, hc8, hk8⟩
        clear b0 b1 b2 b3 b4 b5 f0 f1 f2 f3 f4 f5 bl
        have h8 := H7.out.go hr8 hc8
        obtain ⟨_, _, _, _, _, _, b0, b1, b2, b3, b4, b5, f0, f1, f2, f3, f4, f5, bl⟩ := h8.facts
        have H8 : Hid (_) := h8
        have HK8 : Hid (_) := hk8
        clear hr8 hc8 h8 hk8 H7
        go_wp2_with fail
        refine Calls.mono (c_putV (k := 9) (n := 0) (t := []) (N := []) (K := K) (a := T.a) R5 ((H8.out.set4 (.slice ad K.length cap)).rs.less (fun k hk => .inl (.inl hk))) (NV.nil _ _ _ _) ((HK8.out.set (X := w.heap.size + 1) (.inr rfl) 4 (.slice ad K.length cap)).less (fun k hk => .inl (.inl hk)))) ?_
        rintro e w9 ⟨rfl, nv9, hr9, hc9⟩
        have HC9 : Hid (_) := (H8.out.set4 (.slice ad K.length cap)).chg.trans hc9
        have HR9 : Hid (_) := hr9
        clear hr9 hc9 b0 b1 b2 b3 b4 b5 f0 f1 f2 f3 f4 f5 bl
        go_wp2_with fail
        go_ret
        exact ⟨rfl, nv9, HR9.out, HC9.out⟩
    · simp only at e
      rcases e4 : L.e p1 with ⟨y, p4⟩
      rw [e4] at e
      simp only [Prod.mk.injEq] at e
      obtain ⟨rfl, e5⟩ := e
      have R5 : Ru (up (Rp.must [41])) p4 () s' := ⟨by unfold up; rw [e5], hsm⟩
      have np4 := R5.back (kp_up (Rp.kp_must Rp.pre_len _))
      have R4 : Ru L.e p1 y p4 := ⟨e4, np4⟩
      clear e1 e4 e5 HE hi np1 np4
      go_wp2_with fail
      refine Calls.mono HI.out ?_
      rintro e w5 ⟨rfl, rfl⟩
      go_wp2_with fail
      refine Calls.mono (c_has R1 H1.out.rs) ?_
      rintro e w6 ⟨rfl, nv6, hr6, hc6⟩
      go_wp2_with fail
      refine Calls.mono ((hL _).e R4 (hr6.less (F' := F) (fun k hk => .inl (.inl hk)))) ?_
      rintro e w7 ⟨rfl, nv7, hr7, hc7⟩
      go_wp2_with fail
      refine Calls.mono (c_must R5 hr7) ?_
      rintro e w8 ⟨rfl, nv8, hr8, hc8⟩
      go_wp2_with fail
      go_ret
      exact ⟨rfl, nv8, hr8, ((H1.out.chg.trans hc6).trans hc7).trans hc8⟩
  · rw [hi] at HI
    have e := HE.out
    rw [if_pos hi] at e
    have R2 : Ru (Rp.func L false) s r s' := ⟨e, hsm⟩
    clear e HE hi
    go_wp2_with fail
    refine Calls.mono HI.out ?_
    rintro e w5 ⟨rfl, rfl⟩
    go_wp2_with fail
    refine Calls.mono (c_func hL hP R2 (H1.out.rs.less (F' := F) (fun k hk => .inl (.inl hk)))) ?_
    rintro e w6 ⟨rfl, nv6, hr6, hc6⟩
    go_wp2_with fail
    go_ret
    exact ⟨rfl, nv6, hr6, H1.out.chg.trans hc6⟩
end
end Go.Proofs.Ytkaacmghgobhmaa.Rd
end
