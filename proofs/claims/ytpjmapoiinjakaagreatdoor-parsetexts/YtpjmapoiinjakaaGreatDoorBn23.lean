/- Texts: QI QJ. -/
import Derived.Test.YtpjmapoiinjakaaGreatDoorBn22
section
namespace Go.Proofs.YtpjmapoiinjakaaGreatDoor.Rd
open Go.RowKit
open L (tkA own_block own_below intOf info_of size_list wpList_append_run)
set_option linter.unusedVariables false
set_option maxRecDepth 100000 in
set_option maxHeartbeats 4000000 in
theorem simple_any (t : List UInt8) (w : World) : Calls Tryz.prog 126 #[.string ⟨t.toArray⟩] w fun e w' => e = .returned (.agg #[.int .i64 ((Rp.simple t).k : Int), .int .i64 ((Rp.simple t).n : Int), .string ⟨#[]⟩, .slice none 0 0, .slice none 0 0, .int .i64 0]) ∧ Below w.heap.size w w' := by
  unfold Rp.simple
  by_cases h1 : t = [116, 114, 117, 101]
  · subst h1
    go_enter Tryz.func126, Tryz.ntmps126
    go_wp2_with fail
    refine bodyPost_ret (v := .agg #[.int .i64 4, .int .i64 1, .string ⟨#[]⟩, .slice none 0 0, .slice none 0 0, .int .i64 0]) (by simp [results, Tryz.results126, go_sem, *]) rfl ⟨rfl, ?_⟩
    repeat (first | with_reducible exact Below.refl _ _ | (with_reducible refine Below.setCell ?_ (by first | exact Nat.le_refl _ | omega | simp) _) | (with_reducible refine Below.alloc ?_ (by first | exact Nat.le_refl _ | omega | simp | (simp; omega)) _))
  rw [if_neg h1]
  have q1 : (t == [116, 114, 117, 101]) = false := by simpa using h1
  by_cases h2 : t = [102, 97, 108, 115, 101]
  · subst h2
    clear h1 q1
    go_enter Tryz.func126, Tryz.ntmps126
    go_wp2_with fail
    refine bodyPost_ret (v := .agg #[.int .i64 4, .int .i64 0, .string ⟨#[]⟩, .slice none 0 0, .slice none 0 0, .int .i64 0]) (by simp [results, Tryz.results126, go_sem, *]) rfl ⟨rfl, ?_⟩
    repeat (first | with_reducible exact Below.refl _ _ | (with_reducible refine Below.setCell ?_ (by first | exact Nat.le_refl _ | omega | simp) _) | (with_reducible refine Below.alloc ?_ (by first | exact Nat.le_refl _ | omega | simp | (simp; omega)) _))
  rw [if_neg h2]
  have q2 : (t == [102, 97, 108, 115, 101]) = false := by simpa using h2
  by_cases h3 : t = [110, 117, 108, 108]
  · subst h3
    clear h1 q1 h2 q2
    go_enter Tryz.func126, Tryz.ntmps126
    go_wp2_with fail
    refine bodyPost_ret (v := .agg #[.int .i64 5, .int .i64 0, .string ⟨#[]⟩, .slice none 0 0, .slice none 0 0, .int .i64 0]) (by simp [results, Tryz.results126, go_sem, *]) rfl ⟨rfl, ?_⟩
    repeat (first | with_reducible exact Below.refl _ _ | (with_reducible refine Below.setCell ?_ (by first | exact Nat.le_refl _ | omega | simp) _) | (with_reducible refine Below.alloc ?_ (by first | exact Nat.le_refl _ | omega | simp | (simp; omega)) _))
  rw [if_neg h3]
  have q3 : (t == [110, 117, 108, 108]) = false := by simpa using h3
  by_cases h4 : t = [117, 110, 100, 101, 102, 105, 110, 101, 100]
  · subst h4
    clear h1 q1 h2 q2 h3 q3
    go_enter Tryz.func126, Tryz.ntmps126
    go_wp2_with fail
    refine bodyPost_ret (v := .agg #[.int .i64 6, .int .i64 0, .string ⟨#[]⟩, .slice none 0 0, .slice none 0 0, .int .i64 0]) (by simp [results, Tryz.results126, go_sem, *]) rfl ⟨rfl, ?_⟩
    repeat (first | with_reducible exact Below.refl _ _ | (with_reducible refine Below.setCell ?_ (by first | exact Nat.le_refl _ | omega | simp) _) | (with_reducible refine Below.alloc ?_ (by first | exact Nat.le_refl _ | omega | simp | (simp; omega)) _))
  rw [if_neg h4]
  have q4 : (t == [117, 110, 100, 101, 102, 105, 110, 101, 100]) = false := by simpa using h4
  by_cases h5 : t = [116, 104, 105, 115]
  · subst h5
    clear h1 q1 h2 q2 h3 q3 h4 q4
    go_enter Tryz.func126, Tryz.ntmps126
    go_wp2_with fail
    refine bodyPost_ret (v := .agg #[.int .i64 7, .int .i64 0, .string ⟨#[]⟩, .slice none 0 0, .slice none 0 0, .int .i64 0]) (by simp [results, Tryz.results126, go_sem, *]) rfl ⟨rfl, ?_⟩
    repeat (first | with_reducible exact Below.refl _ _ | (with_reducible refine Below.setCell ?_ (by first | exact Nat.le_refl _ | omega | simp) _) | (with_reducible refine Below.alloc ?_ (by first | exact Nat.le_refl _ | omega | simp | (simp; omega)) _))
  rw [if_neg h5]
  have q5 : (t == [116, 104, 105, 115]) = false := by simpa using h5
  clear h1 h2 h3 h4 h5
  go_enter Tryz.func126, Tryz.ntmps126
  go_wp2_with fail
  refine bodyPost_ret (v := .agg #[.int .i64 0, .int .i64 0, .string ⟨#[]⟩, .slice none 0 0, .slice none 0 0, .int .i64 0]) (by simp [results, Tryz.results126, go_sem, *]) rfl ⟨rfl, ?_⟩
  repeat (first | with_reducible exact Below.refl _ _ | (with_reducible refine Below.setCell ?_ (by first | exact Nat.le_refl _ | omega | simp) _) | (with_reducible refine Below.alloc ?_ (by first | exact Nat.le_refl _ | omega | simp | (simp; omega)) _))
section
variable {src : ByteArray} {F F' : Nat → Prop} {base B dep : Nat} {s s' : Rp.Rt} {nv nv' : Value} {w w0 W W' : World} {X : Nat} {x0 x1 x2 x5 : Value} {N : List (List UInt8)} {na : Option Addr} {ncap : Nat} {K : List Nat} {ka : Option Addr} {kcap : Nat}
theorem Bx.less (h : Bx src F base B dep s nv w0 W X x0 x1 x2 x5 N na ncap K ka kcap) (hF : ∀ k, F' k → F k) : Bx src F' base B dep s nv w0 W X x0 x1 x2 x5 N na ncap K ka kcap :=
  ⟨⟨h.rs.less (fun k hk => by
    rcases hk with ((hk | hk) | hk) | hk
    · exact .inl (.inl (.inl (hF k hk)))
    · exact .inl (.inl (.inr hk))
    · exact .inl (.inr hk)
    · exact .inr hk), h.ko.own, h.ko.sz⟩, h.kd, h.box, fun k hk => ⟨(h.nX k hk).1, fun e => (h.nX k hk).2.1 (hF k e), (h.nX k hk).2.2⟩, fun k hk => ⟨(h.kX k hk).1, fun e => (h.kX k hk).2 (hF k e)⟩, ⟨fun e => h.XF.1 (hF _ e), h.XF.2⟩⟩
theorem Bx.more (h : Bx src F base B dep s nv w0 W X x0 x1 x2 x5 N na ncap K ka kcap) (o : Obj) : Bx src (fun k => F k ∨ k = W.heap.size) base B dep s nv w0 (W.alloc o) X x0 x1 x2 x5 N na ncap K ka kcap := by
  have hb : Below W.heap.size W (W.alloc o) := (Below.refl _ _).alloc (Nat.le_refl _) _
  have nl := own_block h.ko.own
  have kl := own_block h.kd
  obtain ⟨_, _, _, _, _, _, _, _, _, _, _, _, hlX⟩ := h.facts
  exact ⟨⟨(h.rs.more o).less (fun k hk => by
    rcases hk with (((hk | hk) | hk) | hk) | hk
    · exact .inl (.inl (.inl (.inl hk)))
    · exact .inr hk
    · exact .inl (.inl (.inl (.inr hk)))
    · exact .inl (.inl (.inr hk))
    · exact .inl (.inr hk)), own_below h.ko.own hb, Nat.le_trans h.ko.sz hb.size⟩, own_below h.kd hb, (hb.block X hlX).trans h.box, fun k hk => ⟨(h.nX k hk).1, fun e => by
      rcases e with e | e
      · exact (h.nX k hk).2.1 e
      · have := (nl k hk).2; omega, (h.nX k hk).2.2⟩, fun k hk => ⟨(h.kX k hk).1, fun e => by
      rcases e with e | e
      · exact (h.kX k hk).2 e
      · have := (kl k hk).2; omega⟩, ⟨fun e => by
      rcases e with e | e
      · exact h.XF.1 e
      · omega, h.XF.2⟩⟩
/-- What the walk is told behind the append of a kid. -/
def ApK (src : ByteArray) (F : Nat → Prop) (base B dep : Nat) (nv0 : Value) (w : World) (X : Nat) (x0 x1 x2 x5 : Value) (N : List (List UInt8)) (K : List Nat) (s : Rp.Rt) (old v' : Value) (w3 : World) : Prop :=
  ∃ a' cap', v' = .slice a' (K.length) cap' ∧ w3.cell? ⟨X, 4, none⟩ = some old ∧ w3.frozen? ⟨X, 4, none⟩ = false ∧ X < w3.heap.size ∧ Hid (∃ nv na ncap ka kcap, Bx src F base B dep s nv w (w3.setCell ⟨X, 4, none⟩ (.slice a' K.length cap')) X x0 x1 x2 x5 N na ncap K ka kcap ∧ Chg B nv0 nv w (w3.setCell ⟨X, 4, none⟩ (.slice a' K.length cap')))
/-- An e is told beside the box, and put behind the others. -/
theorem kid_step {L : Rp.Lr} {nv0 : Value} {y : Nat} (hL : ∀ F, LvC src F base B dep L) (R : Ru L.e s y s') (h : Bx src F base B dep s nv w W X x0 x1 x2 x5 N na ncap K ka kcap) (hc : Chg B nv0 nv w W) (hn : K.length + 1 ≤ 1000000) :
    (∀ W1, Below W.heap.size W W1 → Calls Tryz.prog 59 #[.pointer (some ⟨B, 0, none⟩)] W1 fun e w' => e = .returned (.int .i64 (y : Int)) ∧ w'.cell? ⟨X, 4, none⟩ = some (.slice ka K.length kcap) ∧ X < w'.heap.size ∧ Hid (∃ nv', Bx src F base B dep s' nv' w w' X x0 x1 x2 x5 N na ncap K ka kcap ∧ Chg B nv0 nv' w w')) ∧
    (∀ W1, Hid (∃ nv', Bx src F base B dep s' nv' w W1 X x0 x1 x2 x5 N na ncap K ka kcap ∧ Chg B nv0 nv' w W1) → ∃ v' w3, (Builtin.append_ #[41, 41] 41 #[.slice ka K.length kcap, .slice (some ⟨W1.heap.size, 0, none⟩) 1 1]).run Tryz.prog (W1.alloc (.cells #[.int .i64 (y : Int)] 3)) = .ok v' w3 ∧ ApK src F base B dep nv0 w X x0 x1 x2 x5 N (K ++ [y]) s' (.slice ka K.length kcap) v' w3) := by
  refine ⟨fun W1 hW => ?_, fun W1 hW => ?_⟩
  · have hb := h.go (h.rs.below hW) (Chg.below nv hW)
    refine ((hL _).e R hb.rs).mono ?_
    rintro e w' ⟨rfl, nv', hr', hc'⟩
    have hb' := hb.go hr' hc'
    obtain ⟨_, _, _, _, f4, _, _, _, _, _, _, _, fl⟩ := hb'.facts
    exact ⟨rfl, f4, fl, nv', hb', (hc.trans (Chg.below nv hW)).trans hc'⟩
  · obtain ⟨nv', hb, hc'⟩ := hW
    obtain ⟨a', cap', w3, hr, k1, k2, k3, hb', hch⟩ := hb.kid y hn
    exact ⟨_, w3, hr, a', cap', by simp, k1, k2, k3, nv', na, ncap, a', cap', by simpa using hb', by simpa using hch _ hc'⟩
end
end Go.Proofs.YtpjmapoiinjakaaGreatDoor.Rd
end
section
namespace Go.Proofs.YtpjmapoiinjakaaGreatDoor.Rd
open Go.RowKit
open L (tkA own_block own_below intOf info_of size_list wpList_append_run)
set_option linter.unusedVariables false
section
variable {src : ByteArray} {F : Nat → Prop} {base B dep : Nat} {s s' : Rp.Rt} {nv : Value} {w : World}
/-- An object's box, at hand. -/
def ObS (src : ByteArray) (F : Nat → Prop) (base B dep : Nat) (nv0 : Value) (w W : World) (a : Nat) (N : List (List UInt8)) (K : List Nat) (s : Rp.Rt) : Prop := ∃ nv na ncap ka kcap, Bx src F base B dep s nv w W w.heap.size (.int .i64 8) (.int .i64 0) (.string ⟨#[]⟩) (.int .i64 (a : Int)) N na ncap K ka kcap ∧ Chg B nv0 nv w W
/-- Where the loop of an object's pairs stands. -/
def ObL (src : ByteArray) (F : Nat → Prop) (base B dep : Nat) (L : Rp.Lr) (nv0 : Value) (w W : World) (a f : Nat) (o : Option (List (List UInt8) × List Nat)) (s2 : Rp.Rt) : Prop :=
  ∃ N1 K1 q1, ObS src F base B dep nv0 w W a N1 K1 q1 ∧ Rp.objLoop L f N1 K1 q1 = (o, s2) ∧ q1.toks.length + 1 ≤ f ∧ K1.length + f ≤ 100001 ∧ N1.length = K1.length
theorem object_ru {L : Rp.Lr} {a r : Nat} (E : Ru (Rp.object L a) s r s') : ∃ o s2, Rp.objLoop L (s.toks.length + 1) [] [] s = (o, s2) ∧ s2.nodes.length ≤ 1000000000 ∧ (o = none → r = 0 ∧ s' = s2) ∧ (∀ N K, o = some (N, K) → ∃ s3, Ru (up (Rp.must [125])) s2 () s3 ∧ Ru (Rp.put { k := 8, names := N, kids := K, a := a }) s3 r s') := by
  have e := E.eq
  have hsm := E.small
  unfold Rp.object at e
  rcases e1 : Rp.objLoop L (s.toks.length + 1) [] [] s with ⟨o, s2⟩
  rw [e1] at e
  cases o with
  | none =>
    simp only [Prod.mk.injEq] at e
    obtain ⟨rfl, rfl⟩ := e
    exact ⟨none, s2, rfl, hsm, (fun _ => ⟨rfl, rfl⟩), (fun N K h => by cases h)⟩
  | some p =>
    obtain ⟨N, K⟩ := p
    simp only at e
    have R2 : Ru (Rp.put { k := 8, names := N, kids := K, a := a }) (Rp.must [125] s2) r s' := ⟨e, hsm⟩
    have n3 := R2.back (Rp.pre_len.put _)
    have R1 : Ru (up (Rp.must [125])) s2 () (Rp.must [125] s2) := ⟨rfl, n3⟩
    exact ⟨some (N, K), s2, rfl, R1.back (kp_up (Rp.kp_must Rp.pre_len _)), (fun h => by cases h), (fun N' K' h => by cases h; exact ⟨_, R1, R2⟩)⟩
/-- A round of the loop: what it begins with. -/
theorem objLoop_round {L : Rp.Lr} {f : Nat} {N : List (List UInt8)} {K : List Nat} {q s2 : Rp.Rt} {o : Option (List (List UInt8) × List Nat)} (h : Rp.objLoop L (f + 1) N K q = (o, s2)) :
    ((!Rp.isS [125] q || decide (0 < K.length)) = false ∧ o = some (N, K) ∧ s2 = q) ∨
    ((!Rp.isS [125] q || decide (0 < K.length)) = true ∧ (((!decide ((Rp.nx q).k = 3 ∨ (Rp.nx q).k = 4 ∨ (Rp.nx q).k = 2)) = true ∧ o = none ∧ s2 = Rp.spoil q) ∨ ((!decide ((Rp.nx q).k = 3 ∨ (Rp.nx q).k = 4 ∨ (Rp.nx q).k = 2)) = false ∧ q.bad = true ∧ o = none ∧ s2 = q) ∨
      ((!decide ((Rp.nx q).k = 3 ∨ (Rp.nx q).k = 4 ∨ (Rp.nx q).k = 2)) = false ∧ q.bad = false ∧ ∃ b q3 y q4 q5, Rp.must [58] (Rp.move q) = q3 ∧ L.e q3 = (y, q4) ∧ Rp.has [44] q4 = (b, q5) ∧ ((b = false ∧ o = some (N ++ [(Rp.nx q).t], K ++ [y]) ∧ s2 = q5) ∨ (b = true ∧ Rp.objLoop L f (N ++ [(Rp.nx q).t]) (K ++ [y]) q5 = (o, s2)))))) := by
  unfold Rp.objLoop at h
  simp only at h
  by_cases h1 : (!Rp.isS [125] q || decide (0 < K.length)) = true
  · rw [if_pos h1] at h
    refine .inr ⟨h1, ?_⟩
    by_cases h2 : (Rp.nx q).k = 3 ∨ (Rp.nx q).k = 4 ∨ (Rp.nx q).k = 2
    · rw [if_pos h2] at h
      by_cases h3 : q.bad = true
      · rw [if_pos h3] at h
        cases h
        exact .inr (.inl ⟨by rw [decide_eq_true h2]; rfl, h3, rfl, rfl⟩)
      · rw [if_neg h3] at h
        refine .inr (.inr ⟨by rw [decide_eq_true h2]; rfl, by simpa using h3, ?_⟩)
        rcases e5 : Rp.has [44] (L.e (Rp.must [58] (Rp.move q))).2 with ⟨b, q5⟩
        rw [e5] at h
        refine ⟨b, _, _, _, q5, rfl, rfl, e5, ?_⟩
        cases b
        · cases h; exact .inl ⟨rfl, rfl, rfl⟩
        · exact .inr ⟨rfl, h⟩
    · rw [if_neg h2, if_pos (show (Rp.spoil q).bad = true from rfl)] at h
      cases h
      exact .inl ⟨by rw [decide_eq_false h2]; rfl, rfl, rfl⟩
  · rw [if_neg h1] at h
    cases h
    exact .inl ⟨by simpa using h1, rfl, rfl⟩
set_option maxRecDepth 100000 in
set_option maxHeartbeats 2000000 in
theorem c_object {L : Rp.Lr} {a r : Nat} (hL : ∀ F, LvC src F base B dep L) (hP : LvP L) (E : Ru (Rp.object L a) s r s') (h : RS src F base B dep s nv w) :
    Calls Tryz.prog 127 #[.pointer (some ⟨B, 0, none⟩), .agg #[.int .i64 0, .int .i64 0, .string ⟨#[]⟩, .slice none 0 0, .slice none 0 0, .int .i64 (a : Int)]] w (Tells src F base B dep nv w s' (.int .i64 (r : Int))) := by
  obtain ⟨o, s2, e1, n2, hnone, hsome⟩ := object_ru E
  have hb0 := Bx.new h (.int .i64 8) (.int .i64 0) (.string ⟨#[]⟩) (.int .i64 (a : Int))
  have HST : Hid (ObL src F base B dep L nv w (w.alloc (.cells #[.int .i64 8, .int .i64 0, .string ⟨#[]⟩, .slice none 0 0, .slice none 0 0, .int .i64 (a : Int)] 43)) a (s.toks.length + 1) o s2) := (show ObL _ _ _ _ _ _ _ _ _ _ _ _ _ from ⟨[], [], s, ⟨nv, none, 0, none, 0, hb0, Chg.below nv ((Below.refl w.heap.size w).alloc (Nat.le_refl _) _)⟩, e1, Nat.le_refl _, by have := h.toks; simp; omega, rfl⟩)
  have H : Hid (_) := h
  have HN2 : Hid (s2.nodes.length ≤ 1000000000) := n2
  have HNO : Hid (_) := hnone
  have HSO : Hid (_) := hsome
  clear E h e1 n2 hb0 hnone hsome
  go_enter Tryz.func127, Tryz.ntmps127
  go_wp2_with fail
  go_loopg [5] (s.toks.length + 1) (fun f v W => Hid (ObL src F base B dep L nv w W a f o s2))
  case atStart => exact HST
  case round =>
    clear HST
    obtain ⟨N1, K1, q1, hos, hrun, hf, hcnt, hnk⟩ := Hid.out hrel
    obtain ⟨nv1, na, ncap, ka, kcap, hb1, hc1⟩ := hos
    have hg := hb1.rs.gd
    obtain ⟨f, rfl⟩ : ∃ f', gk = f' + 1 := ⟨gk - 1, by omega⟩
    have hround := objLoop_round hrun
    have HIS : Hid (_) := is_any hb1.rs [125]
    obtain ⟨g0, g1, g2, g3, g4, g5, z0, z1, z2, z3, z4, z5, gl⟩ := hb1.facts
    have HB1 : Hid (_) := hb1
    have HC1 : Hid (_) := hc1
    have HRD : Hid (_) := hround
    have HCN : Hid (q1.toks.length + 1 ≤ f + 1 ∧ K1.length + (f + 1) ≤ 100001 ∧ N1.length = K1.length ∧ Rp.Gd q1) := (show _ ∧ _ ∧ _ ∧ _ from ⟨hf, hcnt, hnk, hg⟩)
    obtain ⟨q, hq⟩ : ∃ q, (!Rp.isS [125] q1 || decide (0 < K1.length)) = q := ⟨_, rfl⟩
    have HQ : Hid (_ = q) := hq
    clear hrel hrun hf hcnt hnk hround hb1 hc1 hg hq
    go_upto_region 2 with fail
    go_cut [15] (fun v wx => v = .bool q ∧ wr = wx)
    case first =>
      cases hi : Rp.isS [125] q1
      · have e := HQ.out
        rw [hi] at e
        obtain rfl : true = q := e
        rw [hi] at HIS
        clear HQ HRD HCN hi
        go_wp2_with fail
        refine Calls.mono HIS.out ?_
        rintro e w5 ⟨rfl, rfl⟩
        go_wp2_with fail
        go_meet
        case rel => exact ⟨rfl, rfl⟩
      · rw [hi] at HIS
        by_cases hk : 0 < K1.length
        · have e := HQ.out
          rw [hi, decide_eq_true hk] at e
          obtain rfl : true = q := e
          have hk' : (0 : Int) < K1.length := by omega
          have HKK : Hid (0 < K1.length) := hk
          clear HQ HRD HCN hi hk
          go_wp2_with fail
          refine Calls.mono HIS.out ?_
          rintro e w5 ⟨rfl, rfl⟩
          go_wp2_with fail
          go_meet
          case rel => exact ⟨by rw [decide_eq_true HKK.out], rfl⟩
        · have e := HQ.out
          rw [hi, decide_eq_false hk] at e
          obtain rfl : false = q := e
          have hk' : ¬ (0 : Int) < K1.length := by omega
          have HKK : Hid (¬ 0 < K1.length) := hk
          clear HQ HRD HCN hi hk
          go_wp2_with fail
          refine Calls.mono HIS.out ?_
          rintro e w5 ⟨rfl, rfl⟩
          go_wp2_with fail
          go_meet
          case rel => exact ⟨by rw [decide_eq_false HKK.out], rfl⟩
    case rest =>
    obtain ⟨rfl, rfl⟩ := hcut
    clear HIS
    cases q
    · obtain ⟨rfl, rfl⟩ : o = some (N1, K1) ∧ s2 = q1 := by
        rcases HRD.out with ⟨_, h1, h2⟩ | ⟨h0, _⟩
        · exact ⟨h1, h2⟩
        · rw [HQ.out] at h0; cases h0
      obtain ⟨s3, RM, RP⟩ := HSO.out _ _ rfl
      clear HNO HSO HQ HRD HCN g0 g1 g2 g3 g4 g5 z0 z1 z2 z3 z4 z5 gl
      have HK6 : Hid (_) := (HB1.out).vals H.out
      have HC6 : Hid (_) := HC1.out
      clear HB1 HC1
      go_wp2_with fail
      refine Calls.mono (c_must RM HK6.out.1) ?_
      rintro e w20 ⟨rfl, nv20, hr20, hc20⟩
      have hX20 := HK6.out.2.2.2.go HK6.out.1 hc20
      have HN20 : Hid (_) := HK6.out.2.1.go hc20
      have HK20 : Hid (_) := HK6.out.2.2.1.go hc20
      have HC20 : Hid (_) := HC6.out.trans hc20
      have HR20 : Hid (_) := hr20
      obtain ⟨⟨y0, y1, y2, y3, y4, y5⟩, _, yl⟩ := hX20.facts
      clear hX20 hr20 hc20 HK6 HC6
      go_wp2_with fail
      refine Calls.mono (c_putV (k := 8) (n := 0) (t := []) (N := N1) (K := K1) (a := a) RP (HR20.out.less (fun k hk => .inl hk)) (by have := HN20.out.less (F' := F) (fun k hk => .inl hk); simpa only [List.length_append, List.length_cons, List.length_nil, Nat.zero_add] using this) (by have := HK20.out.less (F' := F) (fun k hk => .inl hk); simpa only [List.length_append, List.length_cons, List.length_nil, Nat.zero_add] using this)) ?_
      rintro e w21 ⟨rfl, nv21, hr21, hc21⟩
      go_wp2_with fail
      go_ret
      exact ⟨rfl, nv21, hr21, HC20.out.trans hc21⟩
    have hr3 : _ := (HRD.out.resolve_left (by rintro ⟨h0, _⟩; rw [HQ.out] at h0; cases h0)).2
    obtain ⟨c0, c1, c2, c3, c4, c5, c7, c9, cf, hlt⟩ := HB1.out.rs.cl
    obtain ⟨p, hp⟩ : ∃ p, (!decide ((Rp.nx q1).k = 3 ∨ (Rp.nx q1).k = 4 ∨ (Rp.nx q1).k = 2)) = p := ⟨_, rfl⟩
    rw [hp] at hr3
    have HR3 : Hid (_) := hr3
    have HPP : Hid (_ = p) := hp
    generalize hT : Rp.nx q1 = T at *
    have HTT : Hid (Rp.nx q1 = T) := hT
    have hbY := HB1.out.more (.cells #[.int .i64 (T.k : Int), .string ⟨T.t.toArray⟩, .int .i64 (T.n : Int), .int .i64 (T.a : Int), .bool T.ln] 34)
    have HBY : Hid (_) := hbY
    have HCY : Hid (Chg B nv nv1 w (wr.alloc (.cells #[.int .i64 (T.k : Int), .string ⟨T.t.toArray⟩, .int .i64 (T.n : Int), .int .i64 (T.a : Int), .bool T.ln] 34))) := HC1.out.alloc _
    clear hr3 hp HRD HQ hT hbY
    go_upto_region 4 with fail
    generalize hwy : wr.alloc (.cells #[.int .i64 (T.k : Int), .string ⟨T.t.toArray⟩, .int .i64 (T.n : Int), .int .i64 (T.a : Int), .bool T.ln] 34) = wy at *
    have hy : wy.heap[wr.heap.size]? = some (.cells #[.int .i64 (T.k : Int), .string ⟨T.t.toArray⟩, .int .i64 (T.n : Int), .int .i64 (T.a : Int), .bool T.ln] 34 (0, 0)) := by rw [← hwy]; exact Array.getElem?_push_size
    have HY : Hid (_) := hy
    have y0 : wy.cell? ⟨wr.heap.size, 0, none⟩ = some (.int .i64 (T.k : Int)) := by simp [World.cell?, hy]
    have y1 : wy.cell? ⟨wr.heap.size, 1, none⟩ = some (.string ⟨T.t.toArray⟩) := by simp [World.cell?, hy]
    clear hy hwy g0 g1 g2 g3 g4 g5 z0 z1 z2 z3 z4 z5 gl c0 c1 c2 c3 c4 c5 c7 c9 cf hlt
    go_cut [33] (fun v wx => v = .bool p ∧ wy = wx)
    case first =>
      have hpp := HPP.out
      clear HPP HR3 HTT HNO HSO HCN HB1 HC1
      by_cases k3 : T.k = 3
      · obtain rfl : false = p := by rw [← hpp]; simp [k3]
        rw [k3] at y0
        clear hpp k3
        go_wp2_with fail
        go_meet
        case rel => exact ⟨rfl, rfl⟩
      by_cases k4 : T.k = 4
      · obtain rfl : false = p := by rw [← hpp]; simp [k4]
        rw [k4] at y0
        clear hpp k3 k4
        go_wp2_with fail
        go_meet
        case rel => exact ⟨rfl, rfl⟩
      by_cases k2 : T.k = 2
      · obtain rfl : false = p := by rw [← hpp]; simp [k2]
        rw [k2] at y0
        clear hpp k3 k4 k2
        go_wp2_with fail
        go_meet
        case rel => exact ⟨rfl, rfl⟩
      obtain rfl : true = p := by rw [← hpp]; simp [k2, k3, k4]
      have e3 : ((T.k : Int) == 3) = false := by rw [beq_eq_false_iff_ne]; omega
      have e4 : ((T.k : Int) == 4) = false := by rw [beq_eq_false_iff_ne]; omega
      have e2 : ((T.k : Int) == 2) = false := by rw [beq_eq_false_iff_ne]; omega
      have e3' : ¬ (T.k : Int) = 3 := by omega
      have e4' : ¬ (T.k : Int) = 4 := by omega
      have e2' : ¬ (T.k : Int) = 2 := by omega
      clear hpp k3 k4 k2
      go_wp2_with fail
      go_meet
      case rel => exact ⟨by simp [bne, e3, e4, e2], rfl⟩
    case rest =>
    obtain ⟨rfl, rfl⟩ := hcut
    obtain ⟨c0, c1, c2, c3, c4, c5, c7, c9, cf, hlt⟩ := HBY.out.rs.cl
    rw [HTT.out] at c1 c2 c3 c4 c5
    have hr3 := HR3.out
    cases p
    · have hTk : T.k = 3 ∨ T.k = 4 ∨ T.k = 2 := by
        rcases Decidable.em (T.k = 3 ∨ T.k = 4 ∨ T.k = 2) with h | h
        · exact h
        · have := HPP.out; rw [decide_eq_false h] at this; cases this
      cases hbd : q1.bad
      · obtain ⟨b, q3, y, q4, q5, e3, e4, e5, hw⟩ : ∃ b q3 y q4 q5, Rp.must [58] (Rp.move q1) = q3 ∧ L.e q3 = (y, q4) ∧ Rp.has [44] q4 = (b, q5) ∧ ((b = false ∧ o = some (N1 ++ [T.t], K1 ++ [y]) ∧ s2 = q5) ∨ (b = true ∧ Rp.objLoop L f (N1 ++ [T.t]) (K1 ++ [y]) q5 = (o, s2))) := by
          rcases hr3 with ⟨h0, _⟩ | ⟨_, h0, _⟩ | ⟨_, _, h0⟩
          · cases h0
          · rw [hbd] at h0; cases h0
          · exact h0
        have n5 : q5.nodes.length ≤ 1000000000 := by
          rcases hw with ⟨_, _, e⟩ | ⟨_, e⟩
          · rw [← e]; exact HN2.out
          · exact gb (Rp.kp_objLoop Rp.pre_len hP.gr _ _ _) e HN2.out
        have n4 : q4.nodes.length ≤ 1000000000 := gb (Rp.kp_has Rp.pre_len _) e5 n5
        have R5 := ru_has _ q4 n4 e5
        have R4 : Ru L.e q3 y q4 := ⟨e4, n4⟩
        have n3 := R4.back hP.gr.e
        have R3 : Ru (up (Rp.must [58])) (Rp.move q1) () q3 := ⟨by unfold up; rw [e3], n3⟩
        have hg := HCN.out.2.2.2
        have hk0 : (Rp.nx q1).k ≠ 0 ∧ (Rp.nx q1).k ≠ 6 := by rw [HTT.out]; omega
        have hon := Rp.on_move hk0.1 hk0.2 hg
        have hmb : (Rp.move q1).bad = q1.bad := by unfold Rp.move; split <;> rfl
        have hl1 : (Rp.move q1).toks.length < q1.toks.length := by
          rcases hon.2 with hh | hh
          · rw [hmb, hbd] at hh; cases hh
          · exact hh
        have hl2 : q5.toks.length ≤ (Rp.move q1).toks.length := by
          have h1 := (Rp.kp_must Rp.pre_dn [58] (Rp.move q1)).1 hon.1
          rw [e3] at h1
          have h2 := (hP.dn.e q3).1 h1.1
          rw [e4] at h2
          have h3 := (Rp.kp_has Rp.pre_dn [44] q4).1 h2.1
          rw [e5] at h3
          exact Nat.le_trans h3.2 (Nat.le_trans h2.2 h1.2)
        have HLL : Hid (q5.toks.length + 1 ≤ f) := (show _ ≤ _ by have := HCN.out.1; omega)
        have HMV : Hid (_) := move_any HBY.out.rs hk0.1 hk0.2
        have HWW : Hid (_) := hw
        rw [hbd] at c9
        clear hr3 hbd e3 e4 e5 hw n5 n4 n3 hg hk0 hon hmb hl1 hl2 hTk HPP HR3 HTT HNO
        go_wp2_with fail
        refine Calls.mono HMV.out ?_
        rintro e w5 ⟨rfl, nv5, hr5, hc5⟩
        have HB5 : Hid (_) := HBY.out.go hr5 hc5
        have HC5 : Hid (_) := HCY.out.trans hc5
        have HY5 : Hid (_) := (HBY.out.rs.keepF hc5 (.inl (.inl (.inl (.inr rfl))))).trans HY.out
        clear hr5 hc5 c0 c1 c2 c3 c4 c5 c7 c9 cf hlt y0 y1 HMV
        go_wp2_with fail
        refine Calls.mono (c_must R3 HB5.out.rs) ?_
        rintro e w6 ⟨rfl, nv6, hr6, hc6⟩
        have hb6 := HB5.out.go hr6 hc6
        have hc6' := HC5.out.trans hc6
        have hy6 := (HB5.out.rs.keepF hc6 (.inl (.inl (.inl (.inr rfl))))).trans HY5.out
        have y1 : w6.cell? ⟨wr.heap.size, 1, none⟩ = some (.string ⟨T.t.toArray⟩) := by simp [World.cell?, hy6]
        have yl : wr.heap.size < w6.heap.size := Nat.lt_of_not_le fun hg => by rw [Array.getElem?_eq_none hg] at hy6; cases hy6
        obtain ⟨g0, g1, g2, g3, g4, g5, z0, z1, z2, z3, z4, z5, gl⟩ := hb6.facts
        obtain ⟨a', cap', w7, hrun7, k1, k2, k3, hb7, hch7⟩ := hb6.name T.t (by have := HCN.out; omega)
        have HRn : Hid (_) := hrun7
        have HB7 : Hid (_) := hb7
        have HC7 : Hid (_) := hch7 _ hc6'
        clear hr6 hc6 hb6 hc6' hy6 HB5 HC5 HY5 hrun7 hb7 hch7
        go_upto_region 11 with (at_builtin; refine wpList_append_run _ _ 35 rfl rfl _ _ _ _ rfl rfl HRn.out ?_)
        rw [show N1.length + 1 = (N1 ++ [T.t]).length by simp] at *
        obtain ⟨nm1, ap1⟩ := kid_step hL R4 HB7.out HC7.out (by have := HCN.out; omega)
        have HNM1 : Hid (_) := nm1
        have HAP1 : Hid (_) := ap1
        clear g0 g1 g2 g3 g4 g5 z0 z1 z2 z3 z4 z5 gl k1 k2 k3 y1 yl HRn nm1 ap1
        obtain ⟨g0, g1, g2, g3, g4, g5, z0, z1, z2, z3, z4, z5, gl⟩ := HB7.out.facts
        generalize w7.setCell ⟨w.heap.size, 3, none⟩ _ = w8 at *
        go_cut [] (fun wx => Hid (∃ nv' na ncap ka kcap, Bx src (fun k => F k ∨ k = wr.heap.size) base B dep q4 nv' w wx w.heap.size (.int .i64 8) (.int .i64 0) (.string ⟨#[]⟩) (.int .i64 (a : Int)) (N1 ++ [T.t]) na ncap (K1 ++ [y]) ka kcap ∧ Chg B nv nv' w wx))
        case first =>
          go_region_law (first | (refine step_append_ex (by rfl) _ _ 41 (by rfl) _ _ (by rfl) (by rfl) (ApK src (fun k => F k ∨ k = wr.heap.size) base B dep nv w w.heap.size (.int .i64 8) (.int .i64 0) (.string ⟨#[]⟩) (.int .i64 (a : Int)) (N1 ++ [T.t]) (K1 ++ [y]) q4 (.slice ka K1.length kcap)) (HAP1.out _ (by assumption)) ?_; rintro v' w9 ⟨a9, cap9, rfl, hc9, hf9, hl9, HA9⟩) | (go_simp; go_at_call 59; refine Calls.mono (HNM1.out _ (by repeat (first | with_reducible exact Below.refl _ _ | with_reducible refine Below.drew ?_))) ?_; rintro e w5 ⟨rfl, hx5, hX5, HO5⟩; try dsimp only))
          all_goals
            go_wp2_with fail
            go_meet
            case rel => exact (by have := Hid.out HA9; rwa [show (K1 ++ [y]).length = K1.length + 1 by simp] at this)
        case rest =>
        obtain ⟨nv9, na9, ncap9, ka9, kcap9, hb9, hc9⟩ := Hid.out hcut
        have HB8 : Hid (_) := hb9.less (F' := F) (fun k hk => .inl hk)
        have HC8 : Hid (_) := hc9
        clear hcut hb9 hc9 HNM1 HAP1 HB7 HC7 g0 g1 g2 g3 g4 g5 z0 z1 z2 z3 z4 z5 gl
        cases b
        · obtain ⟨rfl, rfl⟩ : o = some (N1 ++ [T.t], K1 ++ [y]) ∧ s2 = q5 := by
            rcases HWW.out with ⟨_, h1, h2⟩ | ⟨h0, _⟩
            · exact ⟨h1, h2⟩
            · cases h0
          obtain ⟨s3, RM, RP⟩ := HSO.out _ _ rfl
          clear HSO HWW HCN HLL
          go_wp2_with fail
          refine Calls.mono (c_has R5 HB8.out.rs) ?_
          rintro e w10 ⟨rfl, nv10, hr10, hc10⟩
          have HB9 : Hid (_) := HB8.out.go hr10 hc10
          have HC9 : Hid (_) := HC8.out.trans hc10
          clear hr10 hc10 HB8 HC8
          have HK6 : Hid (_) := (HB9.out).vals H.out
          have HC6 : Hid (_) := HC9.out
          clear HB9 HC9
          go_wp2_with fail
          refine Calls.mono (c_must RM HK6.out.1) ?_
          rintro e w20 ⟨rfl, nv20, hr20, hc20⟩
          have hX20 := HK6.out.2.2.2.go HK6.out.1 hc20
          have HN20 : Hid (_) := HK6.out.2.1.go hc20
          have HK20 : Hid (_) := HK6.out.2.2.1.go hc20
          have HC20 : Hid (_) := HC6.out.trans hc20
          have HR20 : Hid (_) := hr20
          obtain ⟨⟨y0, y1, y2, y3, y4, y5⟩, _, yl⟩ := hX20.facts
          clear hX20 hr20 hc20 HK6 HC6
          go_wp2_with fail
          refine Calls.mono (c_putV (k := 8) (n := 0) (t := []) (N := N1 ++ [T.t]) (K := K1 ++ [y]) (a := a) RP (HR20.out.less (fun k hk => .inl hk)) (by have := HN20.out.less (F' := F) (fun k hk => .inl hk); simpa only [List.length_append, List.length_cons, List.length_nil, Nat.zero_add] using this) (by have := HK20.out.less (F' := F) (fun k hk => .inl hk); simpa only [List.length_append, List.length_cons, List.length_nil, Nat.zero_add] using this)) ?_
          rintro e w21 ⟨rfl, nv21, hr21, hc21⟩
          go_wp2_with fail
          go_ret
          exact ⟨rfl, nv21, hr21, HC20.out.trans hc21⟩
        · have hrun5 : Rp.objLoop L f (N1 ++ [T.t]) (K1 ++ [y]) q5 = (o, s2) := by
            rcases HWW.out with ⟨h0, _⟩ | ⟨_, h1⟩
            · cases h0
            · exact h1
          have HRN5 : Hid (_) := hrun5
          clear hrun5 HWW HSO
          go_wp2_with fail
          refine Calls.mono (c_has R5 HB8.out.rs) ?_
          rintro e w10 ⟨rfl, nv10, hr10, hc10⟩
          have HB9 : Hid (_) := HB8.out.go hr10 hc10
          have HC9 : Hid (_) := HC8.out.trans hc10
          clear hr10 hc10 HB8 HC8
          have HEN : Hid (ObL src F base B dep L nv w w10 a f o s2) := (show ObL _ _ _ _ _ _ _ _ _ _ _ _ _ from ⟨N1 ++ [T.t], K1 ++ [y], q5, ⟨nv10, na9, ncap9, ka9, kcap9, HB9.out, HC9.out⟩, HRN5.out, HLL.out, by have := HCN.out.2.1; simp; omega, by have := HCN.out.2.2.1; simp; omega⟩)
          clear HB9 HC9 HRN5 HLL HCN
          go_wp2_with fail
          go_roundg f
          case rel => exact HEN
          case measure => omega
      · obtain ⟨rfl, rfl⟩ : o = none ∧ s2 = q1 := by
          rcases hr3 with ⟨h0, _⟩ | ⟨_, _, h1, h2⟩ | ⟨_, h0, _⟩
          · cases h0
          · exact ⟨h1, h2⟩
          · rw [hbd] at h0; cases h0
        obtain ⟨rfl, rfl⟩ := HNO.out rfl
        rw [hbd] at c9
        clear hr3 HR3 HPP HTT HNO HSO HCN hbd hTk
        go_wp2_with fail
        go_ret
        exact ⟨rfl, nv1, HBY.out.rs.less (fun k hk => .inl (.inl (.inl (.inl hk)))), HCY.out⟩
    · obtain ⟨rfl, rfl⟩ : o = none ∧ s2 = Rp.spoil q1 := by
        rcases hr3 with ⟨_, h1, h2⟩ | ⟨h0, _⟩ | ⟨h0, _⟩
        · exact ⟨h1, h2⟩
        · cases h0
        · cases h0
      obtain ⟨rfl, rfl⟩ := HNO.out rfl
      have HSP : Hid (_) := HBY.out.rs.spoil
      clear hr3 HR3 HPP HTT HNO HSO HCN
      go_wp2_with fail
      go_ret
      exact ⟨rfl, nv1, HSP.out.1.less (fun k hk => .inl (.inl (.inl (.inl hk)))), HCY.out.trans HSP.out.2⟩
end
end Go.Proofs.YtpjmapoiinjakaaGreatDoor.Rd
end
