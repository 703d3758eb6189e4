/- Texts: ScS ScT ScU ScW ScX. -/
import Derived.Test.YtkaacmghgobhmaaBn14
section
namespace Go.Proofs.Ytkaacmghgobhmaa.Rd
open Go.RowKit
open L (tkA own_block own_below info_of)
set_option linter.unusedVariables false
/-- The finder's cells, and his numbers at two nodes. -/
structure SK (b g gi go a k n cap : Nat) (z o : Int) (W : World) : Prop where
  c0 : W.cell? ⟨b, 0, none⟩ = some (.slice (some ⟨g, 0, none⟩) n cap)
  c2 : W.cell? ⟨b, 2, none⟩ = some (.slice (some ⟨gi, 0, none⟩) n n)
  c3 : W.cell? ⟨b, 3, none⟩ = some (.slice (some ⟨go, 0, none⟩) n n)
  ia : W.cell? ⟨gi, a, none⟩ = some (.int .i64 z)
  oa : W.cell? ⟨go, a, none⟩ = some (.int .i64 o)
  ik : ∃ u, W.cell? ⟨gi, k, none⟩ = some u
  fk : W.frozen? ⟨gi, k, none⟩ = false
  hb : b < W.heap.size
  hi : gi < W.heap.size
  ho : go < W.heap.size
  hg : g < W.heap.size
theorem SK.set {b g gi go a k n cap : Nat} {z o : Int} {W : World} (h : SK b g gi go a k n cap z o W) (h1 : b ≠ gi) (h2 : go ≠ gi) (hk : a ≠ k) (u : Value) : SK b g gi go a k n cap z o (W.setCell ⟨gi, k, none⟩ u) := by
  obtain ⟨c0, c2, c3, ia, oa, ⟨u0, ik⟩, fk, hb, hi, ho, hg⟩ := h
  have e1 : ∀ g i, g ≠ gi → (W.setCell ⟨gi, k, none⟩ u).cell? ⟨g, i, none⟩ = W.cell? ⟨g, i, none⟩ := fun g i hne => by unfold World.cell?; rw [Below.heap_setCell _ _ _ _ hne]
  have hs : (W.setCell ⟨gi, k, none⟩ u).heap.size = W.heap.size := by simp [World.setCell]
  exact ⟨(e1 _ _ h1).trans c0, (e1 _ _ h1).trans c2, (e1 _ _ h1).trans c3, by simp [go_sem, ia], (e1 _ _ h2).trans oa, ⟨u, by simp [go_sem, ik]⟩, by simp [go_sem, fk], by rw [hs]; exact hb, by rw [hs]; exact hi, by rw [hs]; exact ho, by rw [hs]; exact hg⟩
set_option maxRecDepth 100000 in
set_option maxHeartbeats 1000000 in
theorem enterKid_none (w : World) (b a p : Nat) (HK : Hid (Calls Try.prog 55 #[.pointer (some ⟨b, 0, none⟩), .int .i64 (a : Int), .int .i64 (p : Int)] w fun e w' => e = .returned (kidV none) ∧ Below w.heap.size w w')) :
    Calls Try.prog 54 #[.pointer (some ⟨b, 0, none⟩), .int .i64 (a : Int), .int .i64 (p : Int)] w fun e w' => e = .returned (.tuple #[]) ∧ Below w.heap.size w w' := by
  go_enter Try.func54, Try.ntmps54
  go_wp2_with fail
  refine Calls.mono HK.out ?_
  rintro e w1 ⟨rfl, hb1⟩
  have HB : Hid (_) := hb1
  clear HK hb1
  simp only [kidV, Option.getD_none, Option.isSome_none]
  go_wp2_with fail
  exact bodyPost_ret (v := .tuple #[]) (by simp [results, Try.results54]) rfl ⟨rfl, HB.out⟩
theorem SK.drew {b g gi go a k n cap : Nat} {z o : Int} {W : World} (h : SK b g gi go a k n cap z o W) : SK b g gi go a k n cap z o W.drew := ⟨h.c0, h.c2, h.c3, h.ia, h.oa, h.ik, h.fk, h.hb, h.hi, h.ho, h.hg⟩
set_option maxRecDepth 100000 in
set_option maxHeartbeats 4000000 in
theorem enterKid_some (w : World) (R : World → Prop) (b g gi go a p k n cap kd x1 x5 m1 m2 cn ck : Nat) (an ak : Option Addr) (t : List UInt8) (z o : Int) (hn : n ≤ 1000000) (hcap : n ≤ cap) (ha : a < n) (hka : k < a) (hp : p ≤ 1000000) (hkd : kd ≤ 1000000000) (hbg : b ≠ gi) (hig : go ≠ gi) (hgg : g ≠ gi)
    (HK : Hid (Calls Try.prog 55 #[.pointer (some ⟨b, 0, none⟩), .int .i64 (a : Int), .int .i64 (p : Int)] w fun e w' => e = .returned (kidV (some k)) ∧ R w'))
    (HS : Hid (∀ w1, R w1 → SK b g gi go a k n cap z o w1)) (HD : Hid (∀ w1, R w1 → ∀ i, i < 6 → w1.cell? ⟨g, a * 6 + i, none⟩ = (#[.int .i64 (kd : Int), .int .i64 (x1 : Int), .string ⟨t.toArray⟩, .slice an m1 cn, .slice ak m2 ck, .int .i64 (x5 : Int)] : Array Value)[i]?))
    (X Q : World → Prop) (HX1 : Hid (∀ w1, R w1 → o = -1 → X (w1.setCell ⟨gi, k, none⟩ (.int .i64 z)).drew)) (HX2 : Hid (∀ w1, R w1 → o ≠ -1 → X ((w1.setCell ⟨gi, k, none⟩ (.int .i64 z)).drew.setCell ⟨gi, k, none⟩ (.int .i64 o)).drew))
    (HT1 : Hid (∀ W, X W → ¬ (kd = 32 ∧ p = 1) → Q (W.alloc (.cells #[.int .i64 (kd : Int), .int .i64 (x1 : Int), .string ⟨t.toArray⟩, .slice an m1 cn, .slice ak m2 ck, .int .i64 (x5 : Int)] 38))))
    (HT2 : Hid (∀ W, X W → kd = 32 → p = 1 → Calls Try.prog 52 #[.pointer (some ⟨b, 0, none⟩), .int .i64 (k : Int), .slice (some ⟨W.heap.size + 1, 0, none⟩) 1 1] ((W.alloc (.cells #[.int .i64 (kd : Int), .int .i64 (x1 : Int), .string ⟨t.toArray⟩, .slice an m1 cn, .slice ak m2 ck, .int .i64 (x5 : Int)] 38)).alloc (.cells #[.string ⟨t.toArray⟩] 9)) fun e w' => e = .returned (.tuple #[]) ∧ Q w')) :
    Calls Try.prog 54 #[.pointer (some ⟨b, 0, none⟩), .int .i64 (a : Int), .int .i64 (p : Int)] w fun e w' => e = .returned (.tuple #[]) ∧ Q w' := by
  have ha' : (a : Int) < n := by omega
  have ha0 : (0 : Int) ≤ a := by omega
  have hk' : (k : Int) < n := by omega
  have hk0 : (0 : Int) ≤ k := by omega
  go_enter Try.func54, Try.ntmps54
  go_wp2_with fail
  refine Calls.mono HK.out ?_
  rintro e w2 ⟨rfl, hR⟩
  have HSA : Hid (_) := ((HS.out w2 hR).set hbg hig (by omega) (.int .i64 z)).drew
  have HSB : Hid (_) := (HSA.out.set hbg hig (by omega) (.int .i64 o)).drew
  have ec : ∀ (W : World) u i, (W.setCell ⟨gi, k, none⟩ u).drew.cell? ⟨g, i, none⟩ = W.cell? ⟨g, i, none⟩ := fun W u i => by show (W.setCell ⟨gi, k, none⟩ u).cell? ⟨g, i, none⟩ = _; unfold World.cell?; rw [Below.heap_setCell _ _ _ _ hgg]
  have HDA : Hid (∀ i, i < 6 → (w2.setCell ⟨gi, k, none⟩ (.int .i64 z)).drew.cell? ⟨g, a * 6 + i, none⟩ = _) := fun i hi => (ec w2 _ _).trans (HD.out w2 hR i hi)
  have HDB : Hid (∀ i, i < 6 → ((w2.setCell ⟨gi, k, none⟩ (.int .i64 z)).drew.setCell ⟨gi, k, none⟩ (.int .i64 o)).drew.cell? ⟨g, a * 6 + i, none⟩ = _) := fun i hi => (ec _ _ _).trans (HDA.out i hi)
  clear ec
  have HX3 : Hid (_) := HX1.out w2 hR
  have HX4 : Hid (_) := HX2.out w2 hR
  obtain ⟨c0, c2, c3, ia, oa, ⟨u0, ik⟩, fk, hb, hi, ho, hg⟩ := HS.out w2 hR
  clear hR HX1 HX2
  simp only [kidV, Option.getD_some, Option.isSome_some]
  go_wp2_with fail
  go_region
  clear c0 c2 c3 ia oa ik fk hb hi ho hg HK HS HD
  generalize (w2.setCell ⟨gi, k, none⟩ (.int .i64 z)).drew = wX at *
  obtain ⟨c0, c2, c3, ia, oa, ⟨u1, ik⟩, fk, hb, hi, ho, hg⟩ := HSA.out
  by_cases ho1 : o = -1
  · subst ho1
    have HXX : X wX := HX3.out rfl
    clear HSB HDB HX3 HX4
    have hd0 := HDA.out 0 (by omega)
    have hd1 := HDA.out 1 (by omega)
    have hd2 := HDA.out 2 (by omega)
    have hd3 := HDA.out 3 (by omega)
    have hd4 := HDA.out 4 (by omega)
    have hd5 := HDA.out 5 (by omega)
    simp only [Nat.add_zero, List.getElem?_toArray, List.getElem?_cons_zero, List.getElem?_cons_succ] at hd0 hd1 hd2 hd3 hd4 hd5
    have HX : Hid (X wX) := HXX
    clear HXX
    by_cases h32 : kd = 32
    · subst h32
      by_cases hp1 : p = 1
      · subst hp1
        go_wp2_with fail
        refine Calls.mono (HT2.out wX HX.out (by first | rfl | trivial) (by first | rfl | trivial)) ?_
        rintro e w5 ⟨rfl, hq⟩
        have HQ : Hid (Q w5) := hq
        clear hq
        go_wp2_with fail
        go_end0
        exact ⟨rfl, HQ.out⟩
      · have hp1' : ¬ (p : Int) = 1 := by omega
        go_wp2_with fail
        go_end0
        exact ⟨rfl, HT1.out wX HX.out (fun h => hp1 h.2)⟩
    · have h32' : ¬ (kd : Int) = 32 := by omega
      go_wp2_with fail
      go_end0
      exact ⟨rfl, HT1.out wX HX.out (fun h => h32 h.1)⟩
  · go_wp2_with fail
    go_region
    clear c0 c2 c3 ia oa ik fk hb hi ho hg HSA HDA HX3
    have HXX := HX4.out ho1
    clear HX4
    generalize (wX.setCell ⟨gi, k, none⟩ (.int .i64 o)).drew = wY at *
    clear wX
    obtain ⟨c0, c2, c3, ia, oa, ⟨u1, ik⟩, fk, hb, hi, ho, hg⟩ := HSB.out
    have hd0 := HDB.out 0 (by omega)
    have hd1 := HDB.out 1 (by omega)
    have hd2 := HDB.out 2 (by omega)
    have hd3 := HDB.out 3 (by omega)
    have hd4 := HDB.out 4 (by omega)
    have hd5 := HDB.out 5 (by omega)
    simp only [Nat.add_zero, List.getElem?_toArray, List.getElem?_cons_zero, List.getElem?_cons_succ] at hd0 hd1 hd2 hd3 hd4 hd5
    have HX : Hid (X wY) := HXX
    clear HXX
    by_cases h32 : kd = 32
    · subst h32
      by_cases hp1 : p = 1
      · subst hp1
        go_wp2_with fail
        refine Calls.mono (HT2.out wY HX.out (by first | rfl | trivial) (by first | rfl | trivial)) ?_
        rintro e w5 ⟨rfl, hq⟩
        have HQ : Hid (Q w5) := hq
        clear hq
        go_wp2_with fail
        go_end0
        exact ⟨rfl, HQ.out⟩
      · have hp1' : ¬ (p : Int) = 1 := by omega
        go_wp2_with fail
        go_end0
        exact ⟨rfl, HT1.out wY HX.out (fun h => hp1 h.2)⟩
    · have h32' : ¬ (kd : Int) = 32 := by omega
      go_wp2_with fail
      go_end0
      exact ⟨rfl, HT1.out wY HX.out (fun h => h32 h.1)⟩
theorem enterKid_any {w0 w : World} {b gi go : Nat} {sv : Value} {mb : List Nat} {l : List Ps.Nd} {nv : Value} {C : Nat} {s : Sc.Fs} (h : FS w0 w b gi go sv mb l nv C s) (hC : C ≤ 8000000) (a p : Nat) (ha : a < l.length) (hp : p ≤ 1000000) :
    Calls Try.prog 54 #[.pointer (some ⟨b, 0, none⟩), .int .i64 (a : Int), .int .i64 (p : Int)] w fun e w' => e = .returned (.tuple #[]) ∧ ∃ sv' mb', FS w0 w' b gi go sv' mb' l nv (C + if p = 1 then 1 else 0) (Sc.enterKid l a p s) := by
  have hkid := kid_any h.lies a p ha (by omega)
  unfold Sc.enterKid
  cases hq : Sc.kid l a p with
  | none =>
    rw [hq] at hkid
    refine (enterKid_none w b a p hkid).mono ?_
    rintro e w' ⟨rfl, hb⟩
    exact ⟨rfl, sv, mb, (h.below hb).mono (by omega)⟩
  | some k =>
    rw [hq] at hkid
    have hk := Sc.kid_lt hq
    obtain ⟨g, cap, an, ak, cn, ck, rfl, hg, hc, hn, _⟩ := (h.told).node a ha
    have hgl : ∀ W, Below w.heap.size w W → g < W.heap.size := fun W hW => Nat.lt_of_lt_of_le hg (Nat.le_trans h.bel.size hW.size)
    have hb3 := h.hb
    have hzi := h.ok.inn _ (Sc.getD_mem (i := a) (by rw [h.ok.li]; exact ha))
    have hzo := h.ok.own _ (Sc.getD_mem (i := a) (by rw [h.ok.lo]; exact ha))
    rw [List.getElem?_eq_getElem ha]
    simp only
    generalize hs1 : ({ s with inn := s.inn.set k (if s.own.getD a 0 = -1 then s.inn.getD a 0 else s.own.getD a 0) } : Sc.Fs) = s1
    refine (enterKid_some w (fun W => Below w.heap.size w W) b g gi go a p k l.length cap l[a].k l[a].n l[a].a l[a].names.length l[a].kids.length cn ck an ak l[a].t (s.inn.getD a 0) (s.own.getD a 0) h.few hc ha hk hp (h.kinds _ (List.getElem_mem ha)) h.ap.1 (Ne.symm h.ap.2.2) (by omega) hkid (fun W hW => ?_) (fun W hW i hi => ?_)
      (fun W => FS w0 W b gi go sv mb l (.slice (some ⟨g, 0, none⟩) l.length cap) C s1) (fun W => ∃ sv' mb', FS w0 W b gi go sv' mb' l (.slice (some ⟨g, 0, none⟩) l.length cap) (C + if p = 1 then 1 else 0) (if l[a].k = 32 ∧ p = 1 then Sc.openS l k [l[a].t] s1 else s1)) (fun W hW ho => ?_) (fun W hW ho => ?_) (fun W hf hne => ?_) (fun W hf h32 hp1 => ?_))
    · have hf := h.below hW
      obtain ⟨c0, c1, c2, c3, fz, hb, hi, ho⟩ := hf.cells
      exact ⟨c0, c2, c3, (hf.innAt a ha).1, (hf.ownAt a ha).1, ⟨_, (hf.innAt k (by omega)).1⟩, (hf.innAt k (by omega)).2, hb, hi, ho, hgl W hW⟩
    · have hb := h.bel.trans (hW.mono h.bel.size)
      exact (hb.cell (p := ⟨g, a * 6 + i, none⟩) hg).trans (hn i hi)
    · have hf := (h.below hW).setInn k (s.inn.getD a 0) hzi
      rw [← hs1, if_pos ho]
      exact hf.below (Below.refl _ _).drew
    · have hf := (h.below hW).setInn k (s.inn.getD a 0) hzi
      have hf2 := (hf.below (Below.refl _ _).drew).setInn k (s.own.getD a 0) hzo
      have e : (s.inn.set k (s.inn.getD a 0)).set k (s.own.getD a 0) = s.inn.set k (s.own.getD a 0) := by rw [List.set_set]
      rw [← hs1, if_neg ho]
      rw [e] at hf2
      exact hf2.below (Below.refl _ _).drew
    · rw [if_neg hne]
      exact ⟨sv, mb, (hf.below ((Below.refl _ _).alloc (Nat.le_refl _) _)).mono (by omega)⟩
    · rw [if_pos hp1, if_pos (show l[a].k = 32 ∧ p = 1 from ⟨h32, hp1⟩)]
      generalize hO : Obj.cells #[Value.int .i64 (l[a].k : Int), .int .i64 (l[a].n : Int), .string ⟨l[a].t.toArray⟩, .slice an l[a].names.length cn, .slice ak l[a].kids.length ck, .int .i64 (l[a].a : Int)] 38 = O
      have sz1 := alloc_size' W O
      have sz2 := alloc_size' (W.alloc O) (.cells #[.string ⟨l[a].t.toArray⟩] 9)
      have hX := (MapKept.heap_alloc (W.alloc O) (.cells #[.string ⟨l[a].t.toArray⟩] 9)).1
      rw [sz1] at hX
      have hB : Below W.heap.size W ((W.alloc O).alloc (.cells #[.string ⟨l[a].t.toArray⟩] 9)) := ((Below.refl W.heap.size W).alloc (Nat.le_refl _) O).trans ((Below.refl _ _).alloc (by omega) _)
      have hf2 := hf.below hB
      obtain ⟨c0, c1, c2, c3, fz, xb, xi, xo⟩ := hf.cells
      refine (open_any hf2 (by omega) k (by omega) (N := [l[a].t]) ⟨some ⟨W.heap.size + 1, 0, none⟩, 1, rfl, Nat.le_refl _, .inr ⟨W.heap.size + 1, rfl, by omega, fun j hj => ?_⟩⟩ (fun q hq _ => ?_) (by simp) (fun x hx => ?_)).mono ?_
      · have : j = 0 := by simp at hj; omega
        subst this
        unfold World.cell?; rw [hX]; rfl
      · have : W.heap.size + 1 = q := by simpa [Value.ownBlock] using hq
        subst this
        exact ⟨by omega, by omega, by omega, by omega, fun e => by have := (own_block hf.row.own _ e).2; omega, fun e => by have := hf.row.lt e; omega⟩
      · rw [List.mem_singleton] at hx; rw [hx]; exact (h.tx _ (List.getElem_mem ha)).1
      · rintro e w' ⟨rfl, sv1, mb1, hq⟩
        exact ⟨rfl, sv1, mb1, hq.fs⟩
end Go.Proofs.Ytkaacmghgobhmaa.Rd
end
section
namespace Go.Proofs.Ytkaacmghgobhmaa.Rd
open Go.RowKit
open L (tkA own_block own_below info_of)
set_option linter.unusedVariables false
set_option maxRecDepth 100000 in
set_option maxHeartbeats 4000000 in
theorem enter_core (w : World) (b g go a n cap kd x1 x5 m1 m2 cn ck nm : Nat) (an ak : Option Addr) (t : List UInt8) (o : Int) (hn : n ≤ 1000000) (hcap : n ≤ cap) (ha : a < n) (hkd : kd ≤ 1000000000) (hm : m2 ≤ 1000000) (hnm : nm ≤ 1000000)
    (hb : b < w.heap.size) (hg : g < w.heap.size) (hgo : go < w.heap.size) (c0 : w.cell? ⟨b, 0, none⟩ = some (.slice (some ⟨g, 0, none⟩) n cap)) (c3 : w.cell? ⟨b, 3, none⟩ = some (.slice (some ⟨go, 0, none⟩) n n)) (co : w.cell? ⟨go, a, none⟩ = some (.int .i64 o))
    (HD : Hid (∀ i, i < 6 → w.cell? ⟨g, a * 6 + i, none⟩ = (#[.int .i64 (kd : Int), .int .i64 (x1 : Int), .string ⟨t.toArray⟩, .slice an m1 cn, .slice ak m2 ck, .int .i64 (x5 : Int)] : Array Value)[i]?))
    (w1 : World) (hw1 : w1 = w.alloc (.cells #[.int .i64 (kd : Int), .int .i64 (x1 : Int), .string ⟨t.toArray⟩, .slice an m1 cn, .slice ak m2 ck, .int .i64 (x5 : Int)] 38))
    (P0 P1 : World → Prop) (J : Nat → World → Prop)
    (HP0 : Hid (∀ W, P0 W → W.cell? ⟨w.heap.size, 4, none⟩ = some (.slice ak m2 ck) ∧ w.heap.size < W.heap.size ∧ J 0 W))
    (H33 : Hid (kd = 33 → Calls Try.prog 52 #[.pointer (some ⟨b, 0, none⟩), .int .i64 (a : Int), .slice none 0 0] w1 fun e w' => e = .returned (.tuple #[]) ∧ P0 w'))
    (H10 : Hid (kd = 10 → Calls Try.prog 52 #[.pointer (some ⟨b, 0, none⟩), .int .i64 (a : Int), .slice an m1 cn] w1 fun e w' => e = .returned (.tuple #[]) ∧ P0 w'))
    (H25o : Hid (kd = 25 → o ≠ -1 → P0 w1))
    (H25m : Hid (kd = 25 → o = -1 → Calls Try.prog 53 #[.pointer (some ⟨b, 0, none⟩), .int .i64 (a : Int)] w1 fun e w' => ∃ ad cp, e = .returned (.slice ad nm cp) ∧ P1 w'))
    (H25n : Hid (∀ W, P1 W → nm = 0 → P0 W))
    (H25p : Hid (∀ W, P1 W → nm ≠ 0 → Calls Try.prog 52 #[.pointer (some ⟨b, 0, none⟩), .int .i64 (a : Int), .slice none 0 0] W fun e w' => e = .returned (.tuple #[]) ∧ P0 w'))
    (HE : Hid (kd ≠ 33 → kd ≠ 10 → kd ≠ 25 → P0 w1))
    (HJ : Hid (∀ k W, k < m2 → J k W → Calls Try.prog 54 #[.pointer (some ⟨b, 0, none⟩), .int .i64 (a : Int), .int .i64 (k : Int)] W fun e w' => e = .returned (.tuple #[]) ∧ J (k + 1) w')) :
    Calls Try.prog 42 #[.pointer (some ⟨b, 0, none⟩), .int .i64 (a : Int)] w fun e w' => e = .returned (.tuple #[]) ∧ J m2 w' := by
  have ha' : (a : Int) < n := by omega
  have ha0 : (0 : Int) ≤ a := by omega
  have hd0 := HD.out 0 (by omega)
  have hd1 := HD.out 1 (by omega)
  have hd2 := HD.out 2 (by omega)
  have hd3 := HD.out 3 (by omega)
  have hd4 := HD.out 4 (by omega)
  have hd5 := HD.out 5 (by omega)
  simp only [Nat.add_zero, List.getElem?_toArray, List.getElem?_cons_zero, List.getElem?_cons_succ] at hd0 hd1 hd2 hd3 hd4 hd5
  have HW1 : Hid (w1 = _) := hw1
  clear hw1 HD
  go_enter Try.func42, Try.ntmps42
  by_cases h33 : kd = 33
  · subst h33
    have HC : Hid (_) := H33.out rfl
    rw [HW1.out] at HC
    clear H33 H10 H25o H25m H25n H25p HE HW1
    go_wp2_with fail
    refine Calls.mono HC.out ?_
    rintro e w2 ⟨rfl, hp⟩
    obtain ⟨c4, hlt, hj⟩ := HP0.out w2 hp
    have HJ0 : Hid (J 0 w2) := hj
    clear hp hj HP0 HC c0 c3 co hd0 hd1 hd2 hd3 hd4 hd5
    go_wp2_with fail
    go_loopw [50] (fun i W => ∃ k : Nat, k ≤ m2 ∧ i = .int .i64 (k : Int) ∧ Hid (J k W)) (fun i _ => m2 - (L.intOf i).toNat)
    case atStart => exact ⟨0, by omega, rfl, HJ0⟩
    case round =>
      obtain ⟨k, hk, rfl, HJk⟩ := hrel
      clear HJ0
      by_cases hkm : k < m2
      · have hkm' : (k : Int) < m2 := by omega
        go_wp2_with fail
        refine Calls.mono (HJ.out k _ hkm HJk.out) ?_
        rintro e w5 ⟨rfl, hj5⟩
        have HJ5 : Hid (J (k + 1) w5) := hj5
        clear hj5 HJk
        go_wp2_with fail
        go_roundw
        case rel => exact ⟨k + 1, by omega, by go_num, HJ5⟩
        case measure => simp [L.intOf] <;> omega
      · have hkm' : ¬ (k : Int) < m2 := by omega
        have : k = m2 := by omega
        subst this
        go_wp2_with fail
        go_end0
        exact ⟨rfl, HJk.out⟩
  by_cases h10 : kd = 10
  · subst h10
    have HC : Hid (_) := H10.out rfl
    rw [HW1.out] at HC
    clear H33 H10 H25o H25m H25n H25p HE HW1
    go_wp2_with fail
    refine Calls.mono HC.out ?_
    rintro e w2 ⟨rfl, hp⟩
    obtain ⟨c4, hlt, hj⟩ := HP0.out w2 hp
    have HJ0 : Hid (J 0 w2) := hj
    clear hp hj HP0 HC c0 c3 co hd0 hd1 hd2 hd3 hd4 hd5
    go_wp2_with fail
    go_loopw [50] (fun i W => ∃ k : Nat, k ≤ m2 ∧ i = .int .i64 (k : Int) ∧ Hid (J k W)) (fun i _ => m2 - (L.intOf i).toNat)
    case atStart => exact ⟨0, by omega, rfl, HJ0⟩
    case round =>
      obtain ⟨k, hk, rfl, HJk⟩ := hrel
      clear HJ0
      by_cases hkm : k < m2
      · have hkm' : (k : Int) < m2 := by omega
        go_wp2_with fail
        refine Calls.mono (HJ.out k _ hkm HJk.out) ?_
        rintro e w5 ⟨rfl, hj5⟩
        have HJ5 : Hid (J (k + 1) w5) := hj5
        clear hj5 HJk
        go_wp2_with fail
        go_roundw
        case rel => exact ⟨k + 1, by omega, by go_num, HJ5⟩
        case measure => simp [L.intOf] <;> omega
      · have hkm' : ¬ (k : Int) < m2 := by omega
        have : k = m2 := by omega
        subst this
        go_wp2_with fail
        go_end0
        exact ⟨rfl, HJk.out⟩
  have h33' : ¬ (kd : Int) = 33 := by omega
  have h10' : ¬ (kd : Int) = 10 := by omega
  by_cases h25 : kd = 25
  · subst h25
    by_cases ho : o = -1
    · subst ho
      have HC : Hid (_) := H25m.out rfl rfl
      rw [HW1.out] at HC
      clear H33 H10 H25o H25m HE HW1
      go_wp2_with fail
      refine Calls.mono HC.out ?_
      rintro e w2 ⟨ad, cp, rfl, hp1⟩
      have HP1 : Hid (P1 w2) := hp1
      clear HC hp1 c0 c3 co hd0 hd1 hd2 hd3 hd4 hd5
      by_cases hz : nm = 0
      · have hp : Hid (P0 w2) := H25n.out _ HP1.out hz
        subst hz
        have hp := hp.out
        obtain ⟨c4, hlt, hj⟩ := HP0.out w2 hp
        have HJ0 : Hid (J 0 w2) := hj
        clear hp hj HP0 HP1 H25n H25p
        go_wp2_with fail
        go_loopw [50] (fun i W => ∃ k : Nat, k ≤ m2 ∧ i = .int .i64 (k : Int) ∧ Hid (J k W)) (fun i _ => m2 - (L.intOf i).toNat)
        case atStart => exact ⟨0, by omega, rfl, HJ0⟩
        case round =>
          obtain ⟨k, hk, rfl, HJk⟩ := hrel
          clear HJ0
          by_cases hkm : k < m2
          · have hkm' : (k : Int) < m2 := by omega
            go_wp2_with fail
            refine Calls.mono (HJ.out k _ hkm HJk.out) ?_
            rintro e w5 ⟨rfl, hj5⟩
            have HJ5 : Hid (J (k + 1) w5) := hj5
            clear hj5 HJk
            go_wp2_with fail
            go_roundw
            case rel => exact ⟨k + 1, by omega, by go_num, HJ5⟩
            case measure => simp [L.intOf] <;> omega
          · have hkm' : ¬ (k : Int) < m2 := by omega
            have : k = m2 := by omega
            subst this
            go_wp2_with fail
            go_end0
            exact ⟨rfl, HJk.out⟩
      · have hz' : (0 : Int) < nm := by omega
        have HC2 : Hid (_) := H25p.out _ HP1.out hz
        clear HP1 H25n H25p
        go_wp2_with fail
        refine Calls.mono HC2.out ?_
        rintro e w3 ⟨rfl, hp⟩
        obtain ⟨c4, hlt, hj⟩ := HP0.out w3 hp
        have HJ0 : Hid (J 0 w3) := hj
        clear hp hj HP0 HC2
        go_wp2_with fail
        go_loopw [50] (fun i W => ∃ k : Nat, k ≤ m2 ∧ i = .int .i64 (k : Int) ∧ Hid (J k W)) (fun i _ => m2 - (L.intOf i).toNat)
        case atStart => exact ⟨0, by omega, rfl, HJ0⟩
        case round =>
          obtain ⟨k, hk, rfl, HJk⟩ := hrel
          clear HJ0
          by_cases hkm : k < m2
          · have hkm' : (k : Int) < m2 := by omega
            go_wp2_with fail
            refine Calls.mono (HJ.out k _ hkm HJk.out) ?_
            rintro e w5 ⟨rfl, hj5⟩
            have HJ5 : Hid (J (k + 1) w5) := hj5
            clear hj5 HJk
            go_wp2_with fail
            go_roundw
            case rel => exact ⟨k + 1, by omega, by go_num, HJ5⟩
            case measure => simp [L.intOf] <;> omega
          · have hkm' : ¬ (k : Int) < m2 := by omega
            have : k = m2 := by omega
            subst this
            go_wp2_with fail
            go_end0
            exact ⟨rfl, HJk.out⟩
    · have hp := H25o.out rfl ho
      have HPX : Hid (P0 w1) := hp
      rw [HW1.out] at hp
      obtain ⟨c4, hlt, hj⟩ := HP0.out _ hp
      have HJ0 : Hid (J 0 _) := hj
      clear hp hj HP0 HPX H33 H10 H25o H25m H25n H25p HE HW1 c4 hlt
      go_wp2_with fail
      go_loopw [50] (fun i W => ∃ k : Nat, k ≤ m2 ∧ i = .int .i64 (k : Int) ∧ Hid (J k W)) (fun i _ => m2 - (L.intOf i).toNat)
      case atStart => exact ⟨0, by omega, rfl, HJ0⟩
      case round =>
        obtain ⟨k, hk, rfl, HJk⟩ := hrel
        clear HJ0
        by_cases hkm : k < m2
        · have hkm' : (k : Int) < m2 := by omega
          go_wp2_with fail
          refine Calls.mono (HJ.out k _ hkm HJk.out) ?_
          rintro e w5 ⟨rfl, hj5⟩
          have HJ5 : Hid (J (k + 1) w5) := hj5
          clear hj5 HJk
          go_wp2_with fail
          go_roundw
          case rel => exact ⟨k + 1, by omega, by go_num, HJ5⟩
          case measure => simp [L.intOf] <;> omega
        · have hkm' : ¬ (k : Int) < m2 := by omega
          have : k = m2 := by omega
          subst this
          go_wp2_with fail
          go_end0
          exact ⟨rfl, HJk.out⟩
  · have h25' : ¬ (kd : Int) = 25 := by omega
    have e33 : ((kd : Int) == 33) = false := by simpa using h33'
    have e10 : ((kd : Int) == 10) = false := by simpa using h10'
    have e25 : ((kd : Int) == 25) = false := by simpa using h25'
    have hp := HE.out h33 h10 h25
    rw [HW1.out] at hp
    obtain ⟨c4, hlt, hj⟩ := HP0.out _ hp
    have HJ0 : Hid (J 0 _) := hj
    clear hp hj HP0 H33 H10 H25o H25m H25n H25p HE HW1 c4 hlt
    go_wp2_with fail
    go_loopw [50] (fun i W => ∃ k : Nat, k ≤ m2 ∧ i = .int .i64 (k : Int) ∧ Hid (J k W)) (fun i _ => m2 - (L.intOf i).toNat)
    case atStart => exact ⟨0, by omega, rfl, HJ0⟩
    case round =>
      obtain ⟨k, hk, rfl, HJk⟩ := hrel
      clear HJ0
      by_cases hkm : k < m2
      · have hkm' : (k : Int) < m2 := by omega
        go_wp2_with fail
        refine Calls.mono (HJ.out k _ hkm HJk.out) ?_
        rintro e w5 ⟨rfl, hj5⟩
        have HJ5 : Hid (J (k + 1) w5) := hj5
        clear hj5 HJk
        go_wp2_with fail
        go_roundw
        case rel => exact ⟨k + 1, by omega, by go_num, HJ5⟩
        case measure => simp [L.intOf] <;> omega
      · have hkm' : ¬ (k : Int) < m2 := by omega
        have : k = m2 := by omega
        subst this
        go_wp2_with fail
        go_end0
        exact ⟨rfl, HJk.out⟩
end Go.Proofs.Ytkaacmghgobhmaa.Rd
end
section
namespace Go.Proofs.Ytkaacmghgobhmaa.Sc
theorem kidsFrom_snoc (l : List Ps.Nd) (a : Nat) : ∀ (n p : Nat) (s : Fs), kidsFrom l a p (n + 1) s = enterKid l a (p + n) (kidsFrom l a p n s)
  | 0, p, s => rfl
  | n + 1, p, s => by
    have h := kidsFrom_snoc l a n (p + 1) (enterKid l a p s)
    show kidsFrom l a (p + 1) (n + 1) (enterKid l a p s) = _
    rw [h, show p + 1 + n = p + (n + 1) by omega]; rfl
end Go.Proofs.Ytkaacmghgobhmaa.Sc
namespace Go.Proofs.Ytkaacmghgobhmaa.Rd
open Go.RowKit
open L (tkA own_block own_below info_of)
set_option linter.unusedVariables false
theorem NamesIn.nil (W : World) : NamesIn W (.slice none 0 0) [] := ⟨none, 0, rfl, Nat.le_refl _, .inl rfl⟩
theorem enter_any {w0 w : World} {b gi go : Nat} {sv : Value} {mb : List Nat} {l : List Ps.Nd} {nv : Value} {C : Nat} {s : Sc.Fs} (h : FS w0 w b gi go sv mb l nv C s) (hC : C ≤ 7000000) (a : Nat) (ha : a < l.length) :
    Calls Try.prog 42 #[.pointer (some ⟨b, 0, none⟩), .int .i64 (a : Int)] w fun e w' => e = .returned (.tuple #[]) ∧ ∃ sv' mb', FS w0 w' b gi go sv' mb' l nv (C + 2) (Sc.enter l a s) := by
  obtain ⟨g, cap, an, ak, cn, ck, rfl, hg, hc, hn, hnm, hk1, _⟩ := (h.told).node a ha
  have hml := h.madeLen a
  have hsm := h.small _ (List.getElem_mem ha)
  have htx := h.tx _ (List.getElem_mem ha)
  obtain ⟨c0, c1, c2, c3, fz, hb, hi, ho⟩ := h.cells
  have hla := List.getElem?_eq_getElem ha
  have ekn : Sc.kidsOf l a = l[a].kids.length := by unfold Sc.kidsOf; rw [hla]; rfl
  have eop : Sc.opens l a s = if l[a].k = 33 then Sc.openS l a [] s else if l[a].k = 10 then Sc.openS l a l[a].names s else if l[a].k = 25 ∧ s.own.getD a 0 = -1 ∧ Sc.made l a ≠ [] then Sc.openS l a [] s else s := by unfold Sc.opens; rw [hla]
  generalize hO : Obj.cells #[Value.int .i64 (l[a].k : Int), .int .i64 (l[a].n : Int), .string ⟨l[a].t.toArray⟩, .slice an l[a].names.length cn, .slice ak l[a].kids.length ck, .int .i64 (l[a].a : Int)] 38 = O
  have hB : Below w.heap.size w (w.alloc O) := (Below.refl _ _).alloc (Nat.le_refl _) _
  have h1 := h.below hB
  have sz := alloc_size' w O
  have hX : (w.alloc O).heap[w.heap.size]? = some O := by rw [← hO]; exact (MapKept.heap_alloc w _).1
  have hapt : Apt (w.alloc O) b gi go sv mb w.heap.size := ⟨by omega, by omega, by omega, by omega, fun e => by have := (own_block h.row.own _ e).2; omega, fun e => by have := h.row.lt e; omega⟩
  have hP : ∀ {v : Value} {N : List (List UInt8)}, NamesIn (w.alloc O) v N → (∀ k, v.ownBlock = some k → N ≠ [] → Apt (w.alloc O) b gi go sv mb k) → N.length ≤ 1000000 → (∀ x ∈ N, x.length ≤ 1000000) → ∀ (W : World), Below (w.alloc O).heap.size (w.alloc O) W → FS w0 W b gi go sv mb l (.slice (some ⟨g, 0, none⟩) l.length cap) C s → Calls Try.prog 52 #[.pointer (some ⟨b, 0, none⟩), .int .i64 (a : Int), v] W fun e w' => e = .returned (.tuple #[]) ∧ ∃ sv' mb', FS w0 w' b gi go sv' mb' l (.slice (some ⟨g, 0, none⟩) l.length cap) (C + 1) (Sc.openS l a N s) ∧ w'.heap[w.heap.size]? = some O := fun hN hA hl hx W hW hf => by
    have hkp := Kp.below (b := b) (gi := gi) (go := go) (sv := sv) (mb := mb) hW
    obtain ⟨hN2, hA2⟩ := hN.apt hA hkp
    refine (open_any hf (by omega) a ha hN2 hA2 hl hx).mono ?_
    rintro e w' ⟨rfl, sv1, mb1, hq⟩
    exact ⟨rfl, sv1, mb1, hq.fs, ((hq.kp _ (hkp _ hapt).1).2.trans (hkp _ hapt).2).trans hX⟩
  have hP0 := hP (NamesIn.nil _) (fun k hk => by simp [Value.ownBlock] at hk) (by simp) (by simp)
  have hco := h.ownAt a ha
  unfold Sc.enter
  rw [ekn]
  refine (enter_core w b g go a l.length cap l[a].k l[a].n l[a].a l[a].names.length l[a].kids.length cn ck (Sc.made l a).length an ak l[a].t (s.own.getD a 0) h.few hc ha (h.kinds _ (List.getElem_mem ha)) hsm.2.1 hml.1 hb (Nat.lt_of_lt_of_le hg h.bel.size) ho c0 c3 hco.1 (fun i hi => ?_) (w.alloc O) (by rw [hO])
    (fun W => ∃ sv' mb', FS w0 W b gi go sv' mb' l (.slice (some ⟨g, 0, none⟩) l.length cap) (C + 1) (Sc.opens l a s) ∧ W.heap[w.heap.size]? = some O)
    (fun W => (l[a].k = 25 ∧ s.own.getD a 0 = -1) ∧ FS w0 W b gi go sv mb l (.slice (some ⟨g, 0, none⟩) l.length cap) C s ∧ Below (w.alloc O).heap.size (w.alloc O) W)
    (fun k W => ∃ sv' mb', FS w0 W b gi go sv' mb' l (.slice (some ⟨g, 0, none⟩) l.length cap) (C + 1 + if 1 < k then 1 else 0) (Sc.kidsFrom l a 0 k (Sc.opens l a s)))
    ?_ ?_ ?_ ?_ ?_ ?_ ?_ ?_ ?_).mono ?_
  · exact (h.bel.cell (p := ⟨g, a * 6 + i, none⟩) hg).trans (hn i hi)
  · rintro W ⟨sv1, mb1, hf, hk⟩
    refine ⟨by unfold World.cell?; rw [hk, ← hO]; rfl, lt_of_some hk, sv1, mb1, ?_⟩
    exact hf
  · intro e
    rw [eop, if_pos e]
    exact hP0 _ (Below.refl _ _) h1
  · intro e
    rw [eop, if_neg (by omega), if_pos e]
    have hN : NamesIn (w.alloc O) (.slice an l[a].names.length cn) l[a].names := hnm.below (h.bel.trans (hB.mono h.bel.size))
    refine hP hN (fun k hk hne => ?_) hsm.1 htx.2 _ (Below.refl _ _) h1
    obtain ⟨ad, cp, e1, _, e2⟩ := hnm
    rcases e2 with e2 | ⟨gq, rfl, hgq, _⟩
    · exact absurd e2 hne
    · simp only [Value.slice.injEq] at e1
      rw [e1.1] at hk
      have : gq = k := by simpa [Value.ownBlock] using hk
      subst this
      have hb3 := h.hb
      have := h.bel.size
      exact ⟨by omega, by omega, by omega, by omega, fun e => by have := (own_block h.row.own _ e).1; omega, fun e => by have := (h.row.low _ e).1; omega⟩
  · intro e hne
    rw [eop, if_neg (by omega), if_neg (by omega), if_neg (fun hh => hne hh.2.1)]
    exact ⟨sv, mb, h1.mono (by omega), hX⟩
  · intro e he
    refine (made_any h1.lies a ha).mono ?_
    rintro e w' ⟨v', rfl, hon⟩
    obtain ⟨ad, cp, e1, _, _⟩ := hon.names
    exact ⟨ad, cp, by rw [e1], ⟨e, he⟩, h1.below hon.bel, hon.bel⟩
  · rintro W ⟨⟨e, he⟩, hf, hW⟩ hz
    rw [eop, if_neg (by omega), if_neg (by omega), if_neg (fun hh => hh.2.2 (List.length_eq_zero_iff.1 hz))]
    exact ⟨sv, mb, hf.mono (by omega), (hW.block _ (by omega)).trans hX⟩
  · rintro W ⟨⟨e, he⟩, hf, hW⟩ hz
    rw [eop, if_neg (by omega), if_neg (by omega), if_pos ⟨e, he, fun hh => hz (by rw [hh]; rfl)⟩]
    exact hP0 W hW hf
  · intro e1 e2 e3
    rw [eop, if_neg e1, if_neg e2, if_neg (fun hh => e3 hh.1)]
    exact ⟨sv, mb, h1.mono (by omega), hX⟩
  · rintro k W hk ⟨sv1, mb1, hf⟩
    refine (enterKid_any hf (by split <;> omega) a k ha (by omega)).mono ?_
    rintro e w' ⟨rfl, sv2, mb2, hf2⟩
    refine ⟨rfl, sv2, mb2, ?_⟩
    rw [Sc.kidsFrom_snoc, Nat.zero_add]
    exact hf2.mono (by split <;> split <;> split <;> omega)
  · rintro e w' ⟨rfl, sv1, mb1, hf⟩
    exact ⟨rfl, sv1, mb1, hf.mono (by split <;> omega)⟩
end Go.Proofs.Ytkaacmghgobhmaa.Rd
end
section
namespace Go.Proofs.Ytkaacmghgobhmaa.Rd
open Go.RowKit
open L (tkA own_block own_below info_of)
set_option linter.unusedVariables false
/-- A spot, as it is told. -/
def spotOf (q : Option (List UInt8)) (F : List UInt8 → Option (Nat × Nat)) : Int × Int :=
  match q with
  | none => (-1, 0)
  | some nm => match F nm with
    | none => (-1, 0)
    | some (d, k) => ((d : Int), (k : Int))
set_option maxRecDepth 100000 in
set_option maxHeartbeats 4000000 in
theorem spot_core (w : World) (b g gi a n cap kd x1 x5 m1 m2 cn ck : Nat) (an ak : Option Addr) (t : List UInt8) (sv : Value) (z : Int) (r : Option (List UInt8)) (F : List UInt8 → Option (Nat × Nat)) (q : Option (List UInt8)) (hq : q = if kd = 3 then some t else r) (hn : n ≤ 1000000) (hcap : n ≤ cap) (ha : a < n) (hkd : kd ≤ 1000000000)
    (hb : b < w.heap.size) (hg : g < w.heap.size) (hgi : gi < w.heap.size) (HC : Hid (w.cell? ⟨b, 0, none⟩ = some (.slice (some ⟨g, 0, none⟩) n cap) ∧ w.cell? ⟨b, 1, none⟩ = some sv ∧ w.cell? ⟨b, 2, none⟩ = some (.slice (some ⟨gi, 0, none⟩) n n) ∧ w.cell? ⟨gi, a, none⟩ = some (.int .i64 z)))
    (HD : Hid (∀ i, i < 6 → w.cell? ⟨g, a * 6 + i, none⟩ = (#[.int .i64 (kd : Int), .int .i64 (x1 : Int), .string ⟨t.toArray⟩, .slice an m1 cn, .slice ak m2 ck, .int .i64 (x5 : Int)] : Array Value)[i]?))
    (HM : Hid (∀ W, Below w.heap.size w W → Calls Try.prog 43 #[.pointer (some ⟨b, 0, none⟩), .int .i64 (a : Int)] W fun e w' => e = .returned (nameV r) ∧ Below W.heap.size W w'))
    (hqx : ∀ x, q = some x → x.length ≤ 1000000)
    (HF : Hid (∀ W x, x.length ≤ 1000000 → Below w.heap.size w W → Calls Try.prog 44 #[sv, .int .i64 z, .string ⟨x.toArray⟩] W fun e w' => e = .returned (foundV (F x)) ∧ w' = W)) :
    Calls Try.prog 25 #[.pointer (some ⟨b, 0, none⟩), .int .i64 (a : Int)] w fun e w' => e = .returned (.agg #[.int .i64 (spotOf q F).1, .int .i64 (spotOf q F).2]) ∧ Below w.heap.size w w' := by
  have ha' : (a : Int) < n := by omega
  have ha0 : (0 : Int) ≤ a := by omega
  go_enter Try.func25, Try.ntmps25
  go_wp2_with fail
  have HA : Below w.heap.size w (w.alloc (.cells #[.int .i64 0, .int .i64 0] 40)) := (Below.refl _ _).alloc (Nat.le_refl _) _
  refine Calls.mono (HM.out _ HA) ?_
  rintro e w1 ⟨rfl, hb1⟩
  have sz := alloc_size' w (.cells #[.int .i64 0, .int .i64 0] 40)
  have hX1 : w1.heap[w.heap.size]? = some (.cells #[.int .i64 0, .int .i64 0] 40 (0, 0)) := (hb1.block _ (by omega)).trans (MapKept.heap_alloc w _).1
  have hB1 : Below w.heap.size w w1 := HA.trans (hb1.mono (by omega))
  have d0 := (hB1.cell (p := ⟨g, a * 6 + 0, none⟩) hg).trans (HD.out 0 (by omega))
  have d1 := (hB1.cell (p := ⟨g, a * 6 + 1, none⟩) hg).trans (HD.out 1 (by omega))
  have d2 := (hB1.cell (p := ⟨g, a * 6 + 2, none⟩) hg).trans (HD.out 2 (by omega))
  have d3 := (hB1.cell (p := ⟨g, a * 6 + 3, none⟩) hg).trans (HD.out 3 (by omega))
  have d4 := (hB1.cell (p := ⟨g, a * 6 + 4, none⟩) hg).trans (HD.out 4 (by omega))
  have d5 := (hB1.cell (p := ⟨g, a * 6 + 5, none⟩) hg).trans (HD.out 5 (by omega))
  simp only [Nat.add_zero, List.getElem?_toArray, List.getElem?_cons_zero, List.getElem?_cons_succ] at d0 d1 d2 d3 d4 d5
  have c0 := (hB1.cell (p := ⟨b, 0, none⟩) hb).trans HC.out.1
  have hg1 := Nat.lt_of_lt_of_le hg hB1.size
  have hbs1 := Nat.lt_of_lt_of_le hb hB1.size
  have HB1 : Hid (_) := hB1
  have HX1 : Hid (_) := hX1
  have HFN : Hid (_) := HF.out
  have HBN : Hid (∀ N n, Below w.heap.size w ((w1.alloc N).drewN n)) := fun N n => (hB1.alloc hB1.size N).trans (L.below_drewN _ _ n)
  clear hb1 hB1 hX1 HM HD HA sz HF
  have c1 := (HB1.out.cell (p := ⟨b, 1, none⟩) hb).trans HC.out.2.1
  have c2 := (HB1.out.cell (p := ⟨b, 2, none⟩) hb).trans HC.out.2.2.1
  have ci := (HB1.out.cell (p := ⟨gi, a, none⟩) hgi).trans HC.out.2.2.2
  have hgi1 := Nat.lt_of_lt_of_le hgi HB1.out.size
  have xs0 : w1.cell? ⟨w.heap.size, 0, none⟩ = some (.int .i64 0) := by unfold World.cell?; rw [HX1.out]; rfl
  have xs1 : w1.cell? ⟨w.heap.size, 1, none⟩ = some (.int .i64 0) := by unfold World.cell?; rw [HX1.out]; rfl
  have xf0 : w1.frozen? ⟨w.heap.size, 0, none⟩ = false := by unfold World.frozen?; rw [HX1.out]; rfl
  have xf1 : w1.frozen? ⟨w.heap.size, 1, none⟩ = false := by unfold World.frozen?; rw [HX1.out]; rfl
  have hxl : w.heap.size < w1.heap.size := lt_of_some HX1.out
  clear HC
  by_cases h3 : kd = 3
  · subst h3
    rw [if_pos rfl] at hq
    subst hq
    cases r with
    | none =>
      simp only [nameV, Option.getD_none, Option.isSome_none]
      cases hF : F t with
      | none =>
        have HG : Hid (∀ W, Below w.heap.size w W → Calls Try.prog 44 #[sv, .int .i64 z, .string ⟨t.toArray⟩] W fun e w' => e = .returned (.tuple #[.int .i64 0, .int .i64 0, .bool false]) ∧ w' = W) := (fun W hW => by have := HFN.out W t (hqx _ rfl) hW; rw [hF] at this; exact this)
        go_wp2_with fail
        go_quiet ((go_at_call 44; refine Calls.quiet_of_same (HG.out _ (HBN.out _ _))))
        go_wp2_with fail
        refine bodyPost_ret (v := .agg #[.int .i64 (-1), .int .i64 0]) (by simp [results, Try.results25, go_sem, xs0, xs1, hxl]) rfl ⟨by simp [spotOf, hF], ?_⟩
        exact ((HBN.out _ _).setCell (Nat.le_refl _) _).setCell (Nat.le_refl _) _
      | some dk =>
        obtain ⟨d, k⟩ := dk
        have HG : Hid (∀ W, Below w.heap.size w W → Calls Try.prog 44 #[sv, .int .i64 z, .string ⟨t.toArray⟩] W fun e w' => e = .returned (.tuple #[.int .i64 (d : Int), .int .i64 (k : Int), .bool true]) ∧ w' = W) := (fun W hW => by have := HFN.out W t (hqx _ rfl) hW; rw [hF] at this; exact this)
        go_wp2_with fail
        go_quiet ((go_at_call 44; refine Calls.quiet_of_same (HG.out _ (HBN.out _ _))))
        go_wp2_with fail
        refine bodyPost_ret (v := .agg #[.int .i64 (d : Int), .int .i64 (k : Int)]) (by simp [results, Try.results25, go_sem, xs0, xs1, hxl]) rfl ⟨by simp [spotOf, hF], ?_⟩
        exact ((HBN.out _ _).setCell (Nat.le_refl _) _).setCell (Nat.le_refl _) _
    | some nm =>
      simp only [nameV, Option.getD_some, Option.isSome_some]
      cases hF : F t with
      | none =>
        have HG : Hid (∀ W, Below w.heap.size w W → Calls Try.prog 44 #[sv, .int .i64 z, .string ⟨t.toArray⟩] W fun e w' => e = .returned (.tuple #[.int .i64 0, .int .i64 0, .bool false]) ∧ w' = W) := (fun W hW => by have := HFN.out W t (hqx _ rfl) hW; rw [hF] at this; exact this)
        go_wp2_with fail
        go_quiet ((go_at_call 44; refine Calls.quiet_of_same (HG.out _ (HBN.out _ _))))
        go_wp2_with fail
        refine bodyPost_ret (v := .agg #[.int .i64 (-1), .int .i64 0]) (by simp [results, Try.results25, go_sem, xs0, xs1, hxl]) rfl ⟨by simp [spotOf, hF], ?_⟩
        exact ((HBN.out _ _).setCell (Nat.le_refl _) _).setCell (Nat.le_refl _) _
      | some dk =>
        obtain ⟨d, k⟩ := dk
        have HG : Hid (∀ W, Below w.heap.size w W → Calls Try.prog 44 #[sv, .int .i64 z, .string ⟨t.toArray⟩] W fun e w' => e = .returned (.tuple #[.int .i64 (d : Int), .int .i64 (k : Int), .bool true]) ∧ w' = W) := (fun W hW => by have := HFN.out W t (hqx _ rfl) hW; rw [hF] at this; exact this)
        go_wp2_with fail
        go_quiet ((go_at_call 44; refine Calls.quiet_of_same (HG.out _ (HBN.out _ _))))
        go_wp2_with fail
        refine bodyPost_ret (v := .agg #[.int .i64 (d : Int), .int .i64 (k : Int)]) (by simp [results, Try.results25, go_sem, xs0, xs1, hxl]) rfl ⟨by simp [spotOf, hF], ?_⟩
        exact ((HBN.out _ _).setCell (Nat.le_refl _) _).setCell (Nat.le_refl _) _
  · have h3' : ¬ (kd : Int) = 3 := by omega
    rw [if_neg h3] at hq
    subst hq
    cases q with
    | none =>
      simp only [nameV, Option.getD_none, Option.isSome_none]
      go_wp2_with fail
      refine bodyPost_ret (v := .agg #[.int .i64 (-1), .int .i64 0]) (by simp [results, Try.results25, go_sem, xs0, xs1, hxl]) rfl ⟨by simp [spotOf], ?_⟩
      exact ((HB1.out.setCell (Nat.le_refl _) _).setCell (Nat.le_refl _) _).alloc (by have := HB1.out.size; simpa [World.setCell] using this) _
    | some nm =>
      simp only [nameV, Option.getD_some, Option.isSome_some]
      cases hF : F nm with
      | none =>
        have HG : Hid (∀ W, Below w.heap.size w W → Calls Try.prog 44 #[sv, .int .i64 z, .string ⟨nm.toArray⟩] W fun e w' => e = .returned (.tuple #[.int .i64 0, .int .i64 0, .bool false]) ∧ w' = W) := (fun W hW => by have := HFN.out W nm (hqx _ rfl) hW; rw [hF] at this; exact this)
        go_wp2_with fail
        go_quiet ((go_at_call 44; refine Calls.quiet_of_same (HG.out _ (HBN.out _ _))))
        go_wp2_with fail
        refine bodyPost_ret (v := .agg #[.int .i64 (-1), .int .i64 0]) (by simp [results, Try.results25, go_sem, xs0, xs1, hxl]) rfl ⟨by simp [spotOf, hF], ?_⟩
        exact ((HBN.out _ _).setCell (Nat.le_refl _) _).setCell (Nat.le_refl _) _
      | some dk =>
        obtain ⟨d, k⟩ := dk
        have HG : Hid (∀ W, Below w.heap.size w W → Calls Try.prog 44 #[sv, .int .i64 z, .string ⟨nm.toArray⟩] W fun e w' => e = .returned (.tuple #[.int .i64 (d : Int), .int .i64 (k : Int), .bool true]) ∧ w' = W) := (fun W hW => by have := HFN.out W nm (hqx _ rfl) hW; rw [hF] at this; exact this)
        go_wp2_with fail
        go_quiet ((go_at_call 44; refine Calls.quiet_of_same (HG.out _ (HBN.out _ _))))
        go_wp2_with fail
        refine bodyPost_ret (v := .agg #[.int .i64 (d : Int), .int .i64 (k : Int)]) (by simp [results, Try.results25, go_sem, xs0, xs1, hxl]) rfl ⟨by simp [spotOf, hF], ?_⟩
        exact ((HBN.out _ _).setCell (Nat.le_refl _) _).setCell (Nat.le_refl _) _
theorem spot_any {w0 w : World} {b gi go : Nat} {sv : Value} {mb : List Nat} {l : List Ps.Nd} {nv : Value} {C : Nat} {s : Sc.Fs} (h : FS w0 w b gi go sv mb l nv C s) (hC : C ≤ 10000000) (a : Nat) (ha : a < l.length) :
    Calls Try.prog 25 #[.pointer (some ⟨b, 0, none⟩), .int .i64 (a : Int)] w fun e w' => e = .returned (.agg #[.int .i64 (Sc.spot l s a).1, .int .i64 (Sc.spot l s a).2]) ∧ Below w.heap.size w w' := by
  obtain ⟨g, cap, an, ak, cn, ck, rfl, hg, hc, hn, _⟩ := (h.told).node a ha
  obtain ⟨c0, c1, c2, c3, fz, hb, hi, ho⟩ := h.cells
  have hcnt := h.cnt
  have hz := h.ok.inn _ (Sc.getD_mem (i := a) (by rw [h.ok.li]; exact ha))
  have hq : Sc.asked l a = if l[a].k = 3 then some l[a].t else Sc.makes l a := by unfold Sc.asked; rw [List.getElem?_eq_getElem ha]
  have e : Sc.spot l s a = spotOf (Sc.asked l a) (fun nm => Sc.find s.scopes nm (s.scopes.length + 1) (s.inn.getD a 0) 0) := rfl
  rw [e]
  refine spot_core w b g gi a l.length cap l[a].k l[a].n l[a].a l[a].names.length l[a].kids.length cn ck an ak l[a].t sv (s.inn.getD a 0) (Sc.makes l a) _ (Sc.asked l a) hq h.few hc ha (h.kinds _ (List.getElem_mem ha)) hb (Nat.lt_of_lt_of_le hg h.bel.size) hi ⟨c0, c1, c2, (h.innAt a ha).1⟩ (fun i hi => (h.bel.cell (p := ⟨g, a * 6 + i, none⟩) hg).trans (hn i hi)) (fun W hW => makes_any ((h.below hW).lies) a ha) (fun x hx => ?_) (fun W x hx hW => find_any ((h.below hW).row) (by omega) h.ok.up x hx _ hz.1 hz.2)
  rw [hq] at hx
  split at hx
  · cases hx; exact (h.tx _ (List.getElem_mem ha)).1
  · obtain ⟨m, hm, e2⟩ := Sc.makes_mem hx
    rw [← e2]; exact (h.tx m hm).1
end Go.Proofs.Ytkaacmghgobhmaa.Rd
end
section
namespace Go.Proofs.Ytkaacmghgobhmaa.Rd
open Go.RowKit
open L (tkA own_block own_below info_of)
set_option linter.unusedVariables false
theorem infoInt1 : (Try.prog.info? 3).map (fun i => (i.zero, i.size, i.bytes)) = some (some (.int .i64 0), 1, 8) := by kernel_rfl
/-- make of a row of numbers. -/
theorem make_ints (n : Nat) (hn : n ≤ 1000000) : ∃ M : Array Value, M.size = n ∧ (∀ j (h : j < M.size), ∃ u, M[j] = u) ∧ ∀ W : World, (Instr.makeSlice 36 (.int .i64 (n : Int)) (.int .i64 (n : Int))).run Try.prog W = .ok (.slice (some ⟨W.heap.size, 0, none⟩) n n) (W.alloc (.cells M 3)) := by
  obtain ⟨i0, hi, hz0, hz1, hz2⟩ := info_of infoInt1
  refine ⟨madeCells #[.int .i64 0] (n * 1), by rw [size_madeCells]; omega, fun j h => ⟨_, rfl⟩, fun W => ?_⟩
  have := run_make (P := Try.prog) W 36 3 i0 _ Try.underlying36 hi hz0 .i64 .i64 n n (by omega) (Int.le_refl _) (by rw [hz2]; omega) (by omega)
  simp only [Int.toNat_natCast, hz1] at this
  exact this
theorem SRow.nil (base : Nat) (W : World) : SRow base W (.slice none 0 0) [] [] := ⟨rfl, ⟨rfl, .inl ⟨rfl, rfl⟩⟩, fun j hj => by simp at hj, List.nodup_nil, fun m hm => by cases hm⟩
/-- What the tree must be, for the finder. -/
structure Fit (l : List Ps.Nd) : Prop where
  ne : l ≠ []
  few : l.length ≤ 1000000
  small : ∀ x ∈ l, x.names.length ≤ 1000000 ∧ x.kids.length ≤ 1000000 ∧ ∀ k ∈ x.kids, k ≤ 1000000
  kinds : ∀ x ∈ l, x.k ≤ 1000000000
  tx : ∀ x ∈ l, x.t.length ≤ 1000000 ∧ ∀ y ∈ x.names, y.length ≤ 1000000
/-- The finder as it begins. -/
theorem FS.start {w0 W : World} {b gi go : Nat} {l : List Ps.Nd} {nv : Value} (hf : Fit l) (ht : Told w0 nv l) (hb : Below w0.heap.size w0 W) (h1 : W.heap[b]? = some (.cells #[nv, .slice none 0 0, .slice (some ⟨gi, 0, none⟩) l.length l.length, .slice (some ⟨go, 0, none⟩) l.length l.length] 68 (0, 0)))
    (h2 : W.heap[gi]? = some (.cells (intsV (List.replicate l.length (-1))) 3 (0, 0))) (h3 : W.heap[go]? = some (.cells (intsV (List.replicate l.length (-1))) 3 (0, 0))) (h4 : w0.heap.size ≤ b ∧ w0.heap.size ≤ gi ∧ w0.heap.size ≤ go) (h5 : b ≠ gi ∧ b ≠ go ∧ gi ≠ go) :
    FS w0 W b gi go (.slice none 0 0) [] l nv 0 ⟨[], List.replicate l.length (-1), List.replicate l.length (-1)⟩ :=
  ⟨Sc.ok_start _, ht, hf.ne, hf.few, hf.small, hf.kinds, hf.tx, hb, h1, h2, h3, SRow.nil _ _, h4, h5, fun k hk => by rcases hk with hk | hk <;> simp [Value.ownBlock] at hk, Nat.le_refl _⟩
end Go.Proofs.Ytkaacmghgobhmaa.Rd
end
