/- Texts: QM. -/
import Derived.Test.YtkaacmghgobhmaaBn10
import Derived.Deep.Upon
namespace Go.Proofs.Ytkaacmghgobhmaa.Rd
open Go.RowKit
open L (tkA own_block own_below intOf info_of size_list wpList_append_run)
set_option linter.unusedVariables false
theorem src_nothing (xo : Option Addr) (c : Nat) (e t : TypeId) (sz : Nat) (ht : Try.prog.underlying t = some (.slice e)) (w : World) : Src Try.prog sz t (.slice xo 0 c) 0 [] w :=
  ⟨.inl ⟨e, ht⟩, fun w' => by simp [Builtin.lenOf], by cases xo <;> simp [Builtin.firstCells, loadCells, loadCellsFrom], by cases xo <;> simp [Builtin.firstCells, loadCells, loadCellsFrom], by simp, by simp⟩
section
variable {src : ByteArray} {F : Nat → Prop} {base B dep : Nat} {s s' : Rp.Rt} {nv : Value} {w0 W : World} {v : Value}
/-- Kids behind kids. -/
theorem KO.kids {K0 K : List Nat} {a : Option Addr} {c : Nat} {ad : Option Addr} {cap : Nat} (h : KO src F base B dep s nv w0 W 3 (.slice a K0.length c) K0.length (kc K0)) (hk : KV F B nv W (.slice ad K.length cap) K) (hn : K0.length + K.length ≤ 1000000) :
    ∃ a' cap' w3, (Builtin.append_ #[36, 36] 36 #[.slice a K0.length c, .slice ad K.length cap]).run Try.prog W = .ok (.slice a' (K0 ++ K).length cap') w3 ∧ KO src F base B dep s nv w0 w3 3 (.slice a' (K0 ++ K).length cap') (K0 ++ K).length (kc (K0 ++ K)) ∧ (∀ nv0, Chg B nv0 nv w0 W → Chg B nv0 nv w0 w3) := by
  obtain ⟨i0, hi, hz0, hz1, hz2⟩ := info_of infoInt
  by_cases h0 : K = []
  · subst h0
    have hcap : K0.length ≤ c := by
      rcases h.own.2 with ⟨e, h⟩ | ⟨g, cap, cur, e, _, _, h4, _⟩
      · omega
      · simp only [Value.slice.injEq] at e; omega
    refine ⟨a, c, W, ?_, by simpa using h, fun nv0 c0 => c0⟩
    have := run_append_nothing (P := Try.prog) (ty := 36) W 36 36 3 i0 Try.underlying36 hi a K0.length c hcap _ (src_nothing ad cap 3 36 _ Try.underlying36 W)
    simpa using this
  · obtain ⟨ad', cap', e, hcap, hx⟩ := hk.kids
    simp only [Value.slice.injEq, true_and] at e
    obtain ⟨rfl, rfl⟩ := e
    obtain ⟨g, rfl, hg, hc⟩ := hx.resolve_left h0
    have hpos : 1 ≤ K.length := by
      cases K with
      | nil => exact absurd rfl h0
      | cons x K => simp
    obtain ⟨a', cap', w3, hr, hko, hch⟩ := h.cat 36 36 Try.underlying36 hi hz0 hz1 hz2 rfl (by omega) (Below.refl _ _) ⟨g, 0, none⟩ K.length cap (kc K) (by simp [kc]) (fun j u hj => by
      have hjl : j < K.length := by
        rcases Nat.lt_or_ge j K.length with h | h
        · exact h
        · rw [List.getElem?_eq_none (by simpa [kc] using h)] at hj; cases hj
      have h1 := hc j hjl
      have h2 : u = .int .i64 (K[j] : Int) := by
        have : (kc K)[j]? = some (.int .i64 (K[j] : Int)) := by simp [kc, hjl]
        rw [this] at hj; exact (Option.some.inj hj).symm
      rw [h2]
      rw [show (⟨g, 0, none⟩ : Addr).add j = ⟨g, j, none⟩ by unfold Addr.add; split <;> simp_all]
      exact h1) (by intro u hu; obtain ⟨k, _, rfl⟩ := List.mem_map.1 hu; rfl) hn hpos
    exact ⟨a', cap', w3, by simpa using hr, by simpa [kc] using hko, hch⟩
end
section
variable {src : ByteArray} {F : Nat → Prop} {base B dep : Nat} {s s' : Rp.Rt} {nv : Value} {w : World}
/-- Where the loop of what stands behind is. -/
structure PoL (src : ByteArray) (F : Nat → Prop) (base B dep : Nat) (L : Rp.Lr) (nv : Value) (w W : World) (f k : Nat) (s1 : Rp.Rt) (r : Nat) (s' : Rp.Rt) : Prop where
  rs : ∃ nv1, RS src F base B dep s1 nv1 W ∧ Chg B nv nv1 w W
  run : Rp.postLoop L f k s1 = (r, s') ∧ s1.toks.length ≤ f
  ix : s1.bad = false → k < s1.nodes.length
/-- A round: what it comes to. -/
theorem postLoop_round {L : Rp.Lr} {f k r : Nat} {q s' : Rp.Rt} (h : Rp.postLoop L (f + 1) k q = (r, s')) :
    (q.bad = true ∧ r = k ∧ s' = q) ∨ (q.bad = false ∧ ∃ b1 q1, Rp.has [46] q = (b1, q1) ∧
      ((b1 = true ∧ (((Rp.nx q1).k ≠ 3 ∧ (Rp.nx q1).k ≠ 4 ∧ r = k ∧ s' = Rp.spoil q1) ∨ (((Rp.nx q1).k = 3 ∨ (Rp.nx q1).k = 4) ∧ ∃ o q2, Rp.put { k := 11, t := (Rp.nx q1).t, kids := [k], a := (q.nodes.getD k {}).a } (Rp.move q1) = (o, q2) ∧ Rp.postLoop L f o q2 = (r, s')))) ∨
      (b1 = false ∧ ∃ b2 q2, Rp.has [91] q1 = (b2, q2) ∧
        ((b2 = true ∧ ∃ y q3 q4 o q5, L.e q2 = (y, q3) ∧ Rp.must [93] q3 = q4 ∧ Rp.put { k := 12, kids := [k, y], a := (q.nodes.getD k {}).a } q4 = (o, q5) ∧ Rp.postLoop L f o q5 = (r, s')) ∨
        (b2 = false ∧ ∃ b3 q3, Rp.has [40] q2 = (b3, q3) ∧
          ((b3 = true ∧ ∃ K q4 o q5, Rp.commas L [41] q3 = (K, q4) ∧ Rp.put { k := 13, kids := k :: K, a := (q.nodes.getD k {}).a } q4 = (o, q5) ∧ Rp.postLoop L f o q5 = (r, s')) ∨ (b3 = false ∧ r = k ∧ s' = q3))))))) := by
  unfold Rp.postLoop at h
  simp only at h
  by_cases hb : q.bad = true
  · rw [if_pos hb] at h; cases h; exact .inl ⟨hb, rfl, rfl⟩
  rw [if_neg hb] at h
  refine .inr ⟨by simpa using hb, ?_⟩
  rcases e1 : Rp.has [46] q with ⟨b1, q1⟩
  rw [e1] at h
  refine ⟨b1, q1, rfl, ?_⟩
  cases b1
  · simp only at h
    refine .inr ⟨rfl, ?_⟩
    rcases e2 : Rp.has [91] q1 with ⟨b2, q2⟩
    rw [e2] at h
    refine ⟨b2, q2, rfl, ?_⟩
    cases b2
    · simp only at h
      refine .inr ⟨rfl, ?_⟩
      rcases e3 : Rp.has [40] q2 with ⟨b3, q3⟩
      rw [e3] at h
      refine ⟨b3, q3, rfl, ?_⟩
      cases b3
      · cases h; exact .inr ⟨rfl, rfl, rfl⟩
      · exact .inl ⟨rfl, _, _, _, _, rfl, rfl, h⟩
    · exact .inl ⟨rfl, _, _, _, _, _, rfl, rfl, rfl, h⟩
  · simp only at h
    refine .inl ⟨rfl, ?_⟩
    by_cases hk : (Rp.nx q1).k ≠ 3 ∧ (Rp.nx q1).k ≠ 4
    · rw [if_pos hk] at h; cases h; exact .inl ⟨hk.1, hk.2, rfl, rfl⟩
    · rw [if_neg hk] at h; exact .inr ⟨by omega, _, _, rfl, h⟩
theorem commasLoop_len {L : Rp.Lr} : ∀ (f : Nat) (l : List Nat) (q : Rp.Rt), (Rp.commasLoop L f l q).1.length ≤ l.length + f
  | 0, l, q => Nat.le_refl _
  | f + 1, l, q => by
    unfold Rp.commasLoop
    split
    · simp
    · rename_i q1 h
      have h3 := commasLoop_len (L := L) f (l ++ [(L.e q1).1]) (L.e q1).2
      rw [List.length_append] at h3
      simp only [List.length_cons, List.length_nil] at h3
      show (Rp.commasLoop L f (l ++ [(L.e q1).1]) (L.e q1).2).1.length ≤ _
      omega
theorem commas_len {L : Rp.Lr} (hP : LvP L) {m : List UInt8} {q : Rp.Rt} (g : Rp.Gd q) : (Rp.commas L m q).1.length ≤ q.toks.length + 1 := by
  unfold Rp.commas
  split
  · simp
  · rename_i q1 h
    have h1 := (Rp.kp_has Rp.pre_dn m q).1 g
    rw [h] at h1
    have h2 := (hP.dn.e q1).1 h1.1
    have h3 := commasLoop_len (L := L) (L.e q1).2.toks.length [(L.e q1).1] (L.e q1).2
    simp only [List.length_cons, List.length_nil] at h3
    have h4 := h2.2
    have h5 := h1.2
    simp only at h5 ⊢
    omega
set_option maxRecDepth 100000 in
set_option maxHeartbeats 2000000 in
theorem p_part {L : Rp.Lr} {r : Nat} (hd : dep < 40) (hL : ∀ F, LvC src F base B (dep + 1) L) (hP : LvP L) (hb : s.bad = false) (E : Ru (Rp.deeper (Rp.post L)) s r s') (h : RS src F base B dep s nv w) :
    Calls Try.prog 72 #[.pointer (some ⟨B, 0, none⟩)] w (Tells src F base B dep nv w s' (.int .i64 (r : Int))) := by
  have e := E.eq
  have hsm := E.small
  unfold Rp.deeper at e
  rw [hb] at e
  simp only [Bool.false_eq_true, if_false] at e
  have HI : Hid (_) := c_in h hb hd
  rcases e1 : Rp.first L s with ⟨k, s1⟩
  have e2 : Rp.postLoop L s1.toks.length k s1 = (r, s') := by unfold Rp.post at e; rw [e1] at e; exact e
  have n1 : s1.nodes.length ≤ 1000000000 := gb (Rp.kp_postLoop Rp.pre_len hP.gr _ _) e2 hsm
  have R1 : Ru (Rp.first L) s k s1 := ⟨e1, n1⟩
  have hix : s1.bad = false → k < s1.nodes.length := fun hb => by
    have := Rp.ix_first hP.ix hP.bd hP.gr s
    rw [e1] at this; exact this hb
  have HRUN : Hid (_) := e2
  have HIX : Hid (_) := hix
  have HS : Hid (s'.nodes.length ≤ 1000000000) := hsm
  clear e e1 e2 n1 hix hsm E h hb
  go_enter Try.func72, Try.ntmps72
  go_wp2_with fail
  refine Calls.mono HI.out ?_
  rintro e w1 ⟨rfl, hr1, hc1⟩
  go_wp2_with fail
  refine Calls.mono (c_first hL hP R1 hr1) ?_
  rintro e w2 ⟨rfl, nv2, hr2, hc2⟩
  have HST : Hid (PoL src F base B (dep + 1) L nv w w2 s1.toks.length k s1 r s') := (show PoL _ _ _ _ _ _ _ _ _ _ _ _ _ _ from ⟨⟨nv2, hr2, hc1.trans hc2⟩, ⟨HRUN.out, Nat.le_refl _⟩, HIX.out⟩)
  clear hr1 hc1 hr2 hc2 HRUN HIX
  go_wp2_with fail
  go_loopg [3] (s1.toks.length) (fun f v W => ∃ (k : Nat) (t1 : Rp.Rt), v = .int .i64 (k : Int) ∧ Hid (PoL src F base B (dep + 1) L nv w W f k t1 r s'))
  case atStart => exact ⟨k, s1, rfl, HST⟩
  case round =>
    clear HST
    obtain ⟨k1, q, rfl, HIN⟩ := hrel
    obtain ⟨⟨nv3, hr3, hc3⟩, ⟨hrun, hf⟩, hix⟩ := HIN.out
    have hg := hr3.gd
    obtain ⟨f, rfl⟩ : ∃ f', gk = f' + 1 := ⟨gk - 1, by have := hg.one; omega⟩
    have hround := postLoop_round hrun
    have hn3 : q.nodes.length ≤ 1000000000 := gb (Rp.kp_postLoop Rp.pre_len hP.gr _ _) hrun HS.out
    obtain ⟨c0, c1, c2, c3, c4, c5, c7, c9, cf, hlt⟩ := hr3.cl
    have HR3 : Hid (_) := hr3
    have HC3 : Hid (_) := hc3
    have HG : Hid (Rp.Gd q ∧ q.toks.length ≤ f + 1) := (show _ ∧ _ from ⟨hg, hf⟩)
    rcases hround with ⟨hb, rfl, rfl⟩ | ⟨hb, b1, q1, e1, hw⟩
    · rw [hb] at c9
      clear HIN hr3 hc3 hrun hf hix hg hn3 hb HG
      go_wp2_with fail
      refine Calls.mono (c_out HR3.out) ?_
      rintro e w5 ⟨rfl, hr5, hc5⟩
      clear c0 c1 c2 c3 c4 c5 c7 c9 cf hlt
      go_wp2_with fail
      go_ret
      exact ⟨rfl, nv3, hr5, HC3.out.trans hc5⟩
    have hk1 := hix hb
    obtain ⟨gn, ncap, hnv, hncap, hgn, hpl⟩ := hr3.place hk1
    have hx1 : (k1 : Int) < q.nodes.length := by omega
    have hx0 : (0 : Int) ≤ k1 := by omega
    rw [hnv] at c7
    rw [hb] at c9
    have T1 := ru_has [46] q hn3 e1
    have nq1 := T1.small
    have HSTEP : Hid (∀ q', Rp.Dn q1 q' → b1 = true → q'.toks.length ≤ f) := fun q' hd ht => by
      subst ht
      have h1 := Rp.has_on e1 hg
      have hbad : q1.bad = false := by rw [(Rp.has_keep e1).2]; exact hb
      have h2 : q1.toks.length < q.toks.length := by
        rcases h1.2 with hh | hh
        · rw [hbad] at hh; cases hh
        · exact hh
      have := (hd.1 h1.1).2
      omega
    have HQ1 : Hid (Rp.Gd q1 ∧ q1.bad = false ∧ q1.nodes.length = q.nodes.length ∧ (b1 = false → q1 = q)) := (show _ ∧ _ ∧ _ ∧ _ from by
      have := (Rp.kp_has Rp.pre_dn [46] q).1 hg
      rw [e1] at this
      exact ⟨this.1, by rw [(Rp.has_keep e1).2]; exact hb, by rw [(Rp.has_keep e1).1], fun hf => by subst hf; exact Rp.has_no e1⟩)
    have HKK : Hid (k1 < q.nodes.length) := hk1
    generalize hka : (q.nodes.getD k1 {}).a = ka at *
    have HKA : Hid (_ = ka) := hka
    clear HIN hr3 hc3 hrun hix hg hn3 hk1 hnv e1 hka hb
    generalize hnl : q.nodes.length = nl at *
    cases b1
    · obtain ⟨b2, q2, e2, hw⟩ : ∃ b2 q2, Rp.has [91] q1 = (b2, q2) ∧
        ((b2 = true ∧ ∃ y q3 q4 o q5, L.e q2 = (y, q3) ∧ Rp.must [93] q3 = q4 ∧ Rp.put { k := 12, kids := [k1, y], a := ka } q4 = (o, q5) ∧ Rp.postLoop L f o q5 = (r, s')) ∨
        (b2 = false ∧ ∃ b3 q3, Rp.has [40] q2 = (b3, q3) ∧
          ((b3 = true ∧ ∃ K q4 o q5, Rp.commas L [41] q3 = (K, q4) ∧ Rp.put { k := 13, kids := k1 :: K, a := ka } q4 = (o, q5) ∧ Rp.postLoop L f o q5 = (r, s')) ∨ (b3 = false ∧ r = k1 ∧ s' = q3)))) := by
        rcases hw with ⟨h, _⟩ | ⟨_, h⟩
        · cases h
        · exact h
      have T2 := ru_has [91] q1 nq1 e2
      have nq2 := T2.small
      have HQ2 : Hid (Rp.Gd q2 ∧ q2.bad = false ∧ q2.nodes.length = nl ∧ (b2 = true → ∀ q', Rp.Dn q2 q' → q'.toks.length ≤ f)) := (show _ ∧ _ ∧ _ ∧ _ from by
        have g1 := HQ1.out.1
        have := (Rp.kp_has Rp.pre_dn [91] q1).1 g1
        rw [e2] at this
        have hq : q1 = q := HQ1.out.2.2.2 rfl
        refine ⟨this.1, by rw [(Rp.has_keep e2).2]; exact HQ1.out.2.1, by rw [(Rp.has_keep e2).1]; exact HQ1.out.2.2.1, fun ht q' hd => ?_⟩
        subst ht
        have h1 := Rp.has_on e2 g1
        have hbad : q2.bad = false := by rw [(Rp.has_keep e2).2]; exact HQ1.out.2.1
        have h2 : q2.toks.length < q1.toks.length := by
          rcases h1.2 with hh | hh
          · rw [hbad] at hh; cases hh
          · exact hh
        have h3 := (hd.1 h1.1).2
        have h4 := HG.out.2
        rw [hq] at h2
        omega)
      clear e2
      cases b2
      · obtain ⟨b3, q3, e3, hw⟩ : ∃ b3 q3, Rp.has [40] q2 = (b3, q3) ∧
          ((b3 = true ∧ ∃ K q4 o q5, Rp.commas L [41] q3 = (K, q4) ∧ Rp.put { k := 13, kids := k1 :: K, a := ka } q4 = (o, q5) ∧ Rp.postLoop L f o q5 = (r, s')) ∨ (b3 = false ∧ r = k1 ∧ s' = q3)) := by
          rcases hw with ⟨h, _⟩ | ⟨_, h⟩
          · cases h
          · exact h
        have T3 := ru_has [40] q2 nq2 e3
        have HQ3 : Hid (b3 = true → ∀ q', Rp.Dn q3 q' → q'.toks.length ≤ f) := (show _ → _ from fun ht q' hd => by
          subst ht
          have g2 := HQ2.out.1
          have h1 := Rp.has_on e3 g2
          have hbad : q3.bad = false := by rw [(Rp.has_keep e3).2]; exact HQ2.out.2.1
          have h2 : q3.toks.length < q2.toks.length := by
            rcases h1.2 with hh | hh
            · rw [hbad] at hh; cases hh
            · exact hh
          have h3 := (hd.1 h1.1).2
          have hq : q1 = q := HQ1.out.2.2.2 rfl
          have hq2 : q2.toks.length ≤ q1.toks.length := by
            have := T2.eq
            rw [Rp.has_no this]; exact Nat.le_refl _
          have h4 := HG.out.2
          rw [hq] at hq2
          omega)
        clear e3
        cases b3
        · obtain ⟨rfl, rfl⟩ : r = k1 ∧ s' = q3 := by
            rcases hw with ⟨h, _⟩ | ⟨_, h⟩
            · cases h
            · exact h
          clear hw HQ1 HQ2 HQ3 HSTEP HG nq1 nq2 HS HKA
          go_wp2_with fail
          refine Calls.mono (c_has T1 HR3.out) ?_
          rintro e w5 ⟨rfl, nv5, hr5, hc5⟩
          clear c0 c1 c2 c3 c4 c5 c7 c9 cf hlt hgn hpl
          go_wp2_with fail
          refine Calls.mono (c_has T2 hr5) ?_
          rintro e w6 ⟨rfl, nv6, hr6, hc6⟩
          go_wp2_with fail
          refine Calls.mono (c_has T3 hr6) ?_
          rintro e w7 ⟨rfl, nv7, hr7, hc7⟩
          go_wp2_with fail
          refine Calls.mono (c_out hr7) ?_
          rintro e w8 ⟨rfl, hr8, hc8⟩
          go_wp2_with fail
          go_ret
          exact ⟨rfl, nv7, hr8, (((HC3.out.trans hc5).trans hc6).trans hc7).trans hc8⟩
        · obtain ⟨K, q4, o, q5, e4, e5, e6⟩ : ∃ K q4 o q5, Rp.commas L [41] q3 = (K, q4) ∧ Rp.put { k := 13, kids := k1 :: K, a := ka } q4 = (o, q5) ∧ Rp.postLoop L f o q5 = (r, s') := by
            rcases hw with ⟨_, h⟩ | ⟨h, _⟩
            · exact h
            · cases h
          have n5 : q5.nodes.length ≤ 1000000000 := gb (Rp.kp_postLoop Rp.pre_len hP.gr _ _) e6 HS.out
          have T5 : Ru (Rp.put { k := 13, kids := k1 :: K, a := ka }) q4 o q5 := ⟨e5, n5⟩
          have n4 := T5.back (Rp.pre_len.put _)
          have T4 : Ru (Rp.commas L [41]) q3 K q4 := ⟨e4, n4⟩
          have hl : q5.toks.length ≤ f := HQ3.out rfl q5 (by
            have h1 := Rp.kp_commas Rp.pre_dn hP.dn [41] q3
            rw [e4] at h1
            have h2 := Rp.pre_dn.put { k := 13, kids := k1 :: K, a := ka } q4
            rw [e5] at h2
            exact Rp.pre_dn.trans h1 h2)
          have HEND : Hid (∀ nv9 W, RS src F base B (dep + 1) q5 nv9 W → Chg B nv nv9 w W → PoL src F base B (dep + 1) L nv w W f o q5 r s') := fun nv9 W h1 h2 => ⟨⟨nv9, h1, h2⟩, ⟨e6, hl⟩, fun _ => by
            have h3 : (Rp.put { k := 13, kids := k1 :: K, a := ka } q4).1 < (Rp.put { k := 13, kids := k1 :: K, a := ka } q4).2.nodes.length := Rp.put_ix' _ _
            rw [e5] at h3; exact h3⟩
          have HT4 : Hid (_) := e4
          clear hw HQ1 HQ2 HQ3 HSTEP HG nq1 nq2 HKA e4 e5 e6 n5 n4 hl
          go_wp2_with fail
          refine Calls.mono (c_has T1 HR3.out) ?_
          rintro e w5 ⟨rfl, nv5, hr5, hc5⟩
          clear c0 c1 c2 c3 c4 c5 c7 c9 cf hlt hgn hpl
          go_wp2_with fail
          refine Calls.mono (c_has T2 hr5) ?_
          rintro e w6 ⟨rfl, nv6, hr6, hc6⟩
          go_wp2_with fail
          refine Calls.mono (c_has T3 hr6) ?_
          rintro e w7 ⟨rfl, nv7, hr7, hc7⟩
          have HKL : Hid (K.length ≤ 100000) := (show _ ≤ _ from by
            have h1 := commas_len hP (m := [41]) hr7.gd
            rw [HT4.out] at h1
            have h2 := hr7.toks
            simp only at h1; omega)
          have hko := KO.lit (w0 := w7) (e := 3) hr7 (Nat.le_refl _) #[.int .i64 (k1 : Int)] 1 rfl (by omega)
          have HKO : Hid (_) := hko
          have HR7 : Hid (_) := hr7
          have HC7 : Hid (_) := ((HC3.out.trans hc5).trans hc6).trans hc7
          clear hr5 hc5 hr6 hc6 hr7 hc7 hko HR3 HC3
          go_wp2_with fail
          refine Calls.mono (c_commas hL hP T4 HKO.out.rs) ?_
          rintro e w8 ⟨ad, cap, rfl, nv8, hr8, hc8, hk8⟩
          obtain ⟨a9, cap9, w9, hap, hko9, hc9⟩ := KO.kids (K0 := [k1]) (c := 1) (HKO.out.go hr8 hc8) (hk8.less (fun k hk => .inl hk)) (by have := HKL.out; simp; omega)
          have HRn : Hid (_) := hap
          have HK9 : Hid (_) := hko9.kv HR7.out
          have HC9 : Hid (_) := hc9 _ ((((Chg.below nv7 ((Below.refl w7.heap.size w7).alloc (Nat.le_refl _) (.cells #[.int .i64 (k1 : Int)] 3)))).trans hc8))
          clear hr8 hc8 hk8 hap hko9 hc9 HKO
          go_wp2_with (at_builtin; refine wpList_append_run _ _ 36 rfl rfl _ _ _ _ rfl rfl HRn.out ?_)
          refine Calls.mono (c_putV (k := 13) (n := 0) (t := []) (N := []) (K := k1 :: K) (a := ka) T5 HK9.out.1 (NV.nil _ _ _ _) HK9.out.2) ?_
          rintro e w10 ⟨rfl, nv10, hr10, hc10⟩
          have HEN : Hid (_) := HEND.out _ _ hr10 ((HC7.out.trans HC9.out).trans hc10)
          clear hr10 hc10
          go_wp2_with fail
          go_roundg f
          case rel => exact ⟨o, q5, rfl, HEN.out⟩
          case measure => omega
      · obtain ⟨y, q3, q4, o, q5, e3, e4, e5, e6⟩ : ∃ y q3 q4 o q5, L.e q2 = (y, q3) ∧ Rp.must [93] q3 = q4 ∧ Rp.put { k := 12, kids := [k1, y], a := ka } q4 = (o, q5) ∧ Rp.postLoop L f o q5 = (r, s') := by
          rcases hw with ⟨_, h⟩ | ⟨h, _⟩
          · exact h
          · cases h
        have n5 : q5.nodes.length ≤ 1000000000 := gb (Rp.kp_postLoop Rp.pre_len hP.gr _ _) e6 HS.out
        have T5 : Ru (Rp.put { k := 12, kids := [k1, y], a := ka }) q4 o q5 := ⟨e5, n5⟩
        have n4 := T5.back (Rp.pre_len.put _)
        have T4 : Ru (up (Rp.must [93])) q3 () q4 := ⟨by unfold up; rw [e4], n4⟩
        have n3 := T4.back (kp_up (Rp.kp_must Rp.pre_len _))
        have T3 : Ru L.e q2 y q3 := ⟨e3, n3⟩
        have hl : q5.toks.length ≤ f := HQ2.out.2.2.2 rfl q5 (by
          have h1 := hP.dn.e q2
          rw [e3] at h1
          have h2 := Rp.kp_must Rp.pre_dn [93] q3
          rw [e4] at h2
          have h3 := Rp.pre_dn.put { k := 12, kids := [k1, y], a := ka } q4
          rw [e5] at h3
          exact Rp.pre_dn.trans h1 (Rp.pre_dn.trans h2 h3))
        have HEND : Hid (∀ nv9 W, RS src F base B (dep + 1) q5 nv9 W → Chg B nv nv9 w W → PoL src F base B (dep + 1) L nv w W f o q5 r s') := fun nv9 W h1 h2 => ⟨⟨nv9, h1, h2⟩, ⟨e6, hl⟩, fun _ => by
          have h3 : (Rp.put { k := 12, kids := [k1, y], a := ka } q4).1 < (Rp.put { k := 12, kids := [k1, y], a := ka } q4).2.nodes.length := Rp.put_ix' _ _
          rw [e5] at h3; exact h3⟩
        clear hw HQ1 HQ2 HSTEP HG nq1 nq2 HKA e3 e4 e5 e6 n5 n4 n3 hl
        go_wp2_with fail
        refine Calls.mono (c_has T1 HR3.out) ?_
        rintro e w5 ⟨rfl, nv5, hr5, hc5⟩
        clear c0 c1 c2 c3 c4 c5 c7 c9 cf hlt hgn hpl
        go_wp2_with fail
        refine Calls.mono (c_has T2 hr5) ?_
        rintro e w6 ⟨rfl, nv6, hr6, hc6⟩
        go_wp2_with fail
        refine Calls.mono ((hL _).e T3 hr6) ?_
        rintro e w7 ⟨rfl, nv7, hr7, hc7⟩
        go_wp2_with fail
        refine Calls.mono (c_must T4 hr7) ?_
        rintro e w8 ⟨rfl, nv8, hr8, hc8⟩
        have HC8 : Hid (_) := (((HC3.out.trans hc5).trans hc6).trans hc7).trans hc8
        have HR8 : Hid (_) := hr8
        clear hr5 hc5 hr6 hc6 hr7 hc7 hr8 hc8 HR3 HC3
        go_wp2_with fail
        refine Calls.mono (c_putB (k := 12) (n := 0) (t := []) (K := [k1, y]) (a := ka) T5 HR8.out #[.int .i64 (k1 : Int), .int .i64 (y : Int)] 2 rfl (fun j hj => by
          have : j = 0 ∨ j = 1 := by simp at hj; omega
          rcases this with rfl | rfl <;> rfl) (Below.refl _ _)) ?_
        rintro e w10 ⟨rfl, nv10, hr10, hc10⟩
        have HEN : Hid (_) := HEND.out _ _ hr10 (HC8.out.trans hc10)
        clear hr10 hc10
        go_wp2_with fail
        go_roundg f
        case rel => exact ⟨o, q5, rfl, HEN.out⟩
        case measure => omega
    · have hw2 : ((Rp.nx q1).k ≠ 3 ∧ (Rp.nx q1).k ≠ 4 ∧ r = k1 ∧ s' = Rp.spoil q1) ∨ (((Rp.nx q1).k = 3 ∨ (Rp.nx q1).k = 4) ∧ ∃ o q2, Rp.put { k := 11, t := (Rp.nx q1).t, kids := [k1], a := ka } (Rp.move q1) = (o, q2) ∧ Rp.postLoop L f o q2 = (r, s')) := by
        rcases hw with ⟨_, h⟩ | ⟨h, _⟩
        · exact h
        · cases h
      rcases hw2 with ⟨h3, h4, rfl, rfl⟩ | ⟨hk, o, q2, e5, e6⟩
      · have z3 : (((Rp.nx q1).k : Int) == 3) = false := by rw [beq_eq_false_iff_ne]; omega
        have z4 : (((Rp.nx q1).k : Int) == 4) = false := by rw [beq_eq_false_iff_ne]; omega
        have y3 : ¬ ((Rp.nx q1).k : Int) = 3 := by omega
        have y4 : ¬ ((Rp.nx q1).k : Int) = 4 := by omega
        have v3 : (((Rp.nx q1).k : Int) != 3) = true := by unfold bne; rw [z3]; rfl
        have v4 : (((Rp.nx q1).k : Int) != 4) = true := by unfold bne; rw [z4]; rfl
        clear hw HQ1 HSTEP HG nq1 HKA HS h3 h4
        go_wp2_with fail
        refine Calls.mono (c_has T1 HR3.out) ?_
        rintro e w5 ⟨rfl, nv5, hr5, hc5⟩
        clear c0 c1 c2 c3 c4 c5 c7 c9 cf hlt hgn hpl
        obtain ⟨c0, c1, c2, c3, c4, c5, c7, c9, cf, hlt⟩ := hr5.cl
        have HSP : Hid (_) := fun o => hr5.spoil.1.below (Below.alloc (Below.refl _ _) (Nat.le_refl _) o)
        have HC5 : Hid (_) := fun o => (HC3.out.trans (hc5.trans hr5.spoil.2)).alloc o
        clear hr5 hc5 HR3 HC3
        generalize Rp.nx q1 = T at *
        go_wp2_with fail
        refine Calls.mono (c_out (HSP.out _)) ?_
        rintro e w8 ⟨rfl, hr8, hc8⟩
        have HR8 : Hid (_) := hr8
        have HC8 : Hid (_) := (HC5.out _).trans hc8
        clear c0 c1 c2 c3 c4 c5 c7 c9 cf hlt hr8 hc8
        go_wp2_with fail
        go_ret
        exact ⟨rfl, nv5, HR8.out, HC8.out⟩
      · have n2 : q2.nodes.length ≤ 1000000000 := gb (Rp.kp_postLoop Rp.pre_len hP.gr _ _) e6 HS.out
        have T5 : Ru (Rp.put { k := 11, t := (Rp.nx q1).t, kids := [k1], a := ka }) (Rp.move q1) o q2 := ⟨e5, n2⟩
        have hl : q2.toks.length ≤ f := HSTEP.out q2 (by
          have h2 := Rp.pre_dn.put { k := 11, t := (Rp.nx q1).t, kids := [k1], a := ka } (Rp.move q1)
          rw [e5] at h2
          exact Rp.pre_dn.trans (Rp.pre_dn.move q1) h2) rfl
        have HEND : Hid (∀ nv9 W, RS src F base B (dep + 1) q2 nv9 W → Chg B nv nv9 w W → PoL src F base B (dep + 1) L nv w W f o q2 r s') := fun nv9 W h1 h2 => ⟨⟨nv9, h1, h2⟩, ⟨e6, hl⟩, fun _ => by
          have h3 : (Rp.put { k := 11, t := (Rp.nx q1).t, kids := [k1], a := ka } (Rp.move q1)).1 < (Rp.put { k := 11, t := (Rp.nx q1).t, kids := [k1], a := ka } (Rp.move q1)).2.nodes.length := Rp.put_ix' _ _
          rw [e5] at h3; exact h3⟩
        have HMV : Hid (∀ (F' : Nat → Prop) W nv1, RS src F' base B (dep + 1) q1 nv1 W → Calls Try.prog 64 #[.pointer (some ⟨B, 0, none⟩)] W (Tells src F' base B (dep + 1) nv1 W (Rp.move q1) (.tuple #[]))) := fun F' W nv1 hW => move_any hW (by omega) (by omega)
        clear hw HQ1 HSTEP HG nq1 HKA e5 e6 n2 hl
        generalize Rp.move q1 = qm at *
        rcases hk with hk | hk
        all_goals
          go_wp2_with fail
          refine Calls.mono (c_has T1 HR3.out) ?_
          rintro e w5 ⟨rfl, nv5, hr5, hc5⟩
          clear c0 c1 c2 c3 c4 c5 c7 c9 cf hlt hgn hpl
          obtain ⟨c0, c1, c2, c3, c4, c5, c7, c9, cf, hlt⟩ := hr5.cl
          have HMR : Hid (_) := fun o => hr5.more o
          have HC5 : Hid (_) := fun o => (HC3.out.trans hc5).trans (Chg.below nv5 (Below.alloc (Below.refl w5.heap.size w5) (Nat.le_refl _) o))
          rw [hk] at c1
          clear hr5 hc5 HR3 HC3 T1
          generalize Rp.nx q1 = T at *
          go_wp2_with fail
          refine Calls.mono (HMV.out _ _ _ (HMR.out _)) ?_
          rintro e w6 ⟨rfl, nv6, hr6, hc6⟩
          have hX := ((HMR.out _).keepF hc6 (.inr rfl)).trans (heap_alloc_new w5 _ 54)
          have yl : w5.heap.size < w6.heap.size := Nat.lt_of_not_le fun hg => by rw [Array.getElem?_eq_none hg] at hX; cases hX
          have y1 : w6.cell? ⟨w5.heap.size, 1, none⟩ = some (.string ⟨T.t.toArray⟩) := by simp [World.cell?, hX]
          have HR6 : Hid (_) := hr6
          have HC6 : Hid (_) := (HC5.out _).trans hc6
          clear c0 c1 c2 c3 c4 c5 c7 c9 cf hlt hX hr6 hc6 HMR HC5 HMV
          go_wp2_with fail
          refine Calls.mono (c_putB (k := 11) (n := 0) (t := T.t) (K := [k1]) (a := ka) T5 (HR6.out.less (F' := F) (fun k hk => .inl hk)) #[.int .i64 (k1 : Int)] 1 rfl (fun j hj => by
            have : j = 0 := by simpa using hj
            subst this; rfl) (Below.refl _ _)) ?_
          rintro e w10 ⟨rfl, nv10, hr10, hc10⟩
          have HEN : Hid (_) := HEND.out _ _ hr10 (HC6.out.trans hc10)
          clear hr10 hc10 yl y1
          go_wp2_with fail
          go_roundg f
          case rel => exact ⟨o, q2, rfl, HEN.out⟩
          case measure => omega
end
end Go.Proofs.Ytkaacmghgobhmaa.Rd
