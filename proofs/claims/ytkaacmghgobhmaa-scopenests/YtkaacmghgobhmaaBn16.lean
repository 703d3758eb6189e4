/- Texts: ScY ScZ ScSp ScEv. -/
import Derived.Test.YtkaacmghgobhmaaBn15
import Derived.Test.YtkaacmghgobhmaaBn00
import Derived.Test.YtkaacmghgobhmaaBn03
section
namespace Go.Proofs.Ytkaacmghgobhmaa.Rd
open Go.RowKit
open L (tkA own_block own_below info_of)
set_option linter.unusedVariables false
theorem three (w : World) (o1 o2 o3 : Array Value) : ∀ {t1 t2 t3 : TypeId}, (((w.alloc (.cells o1 t1)).alloc (.cells o2 t2)).alloc (.cells o3 t3)).drew.heap[w.heap.size]? = some (.cells o1 t1 (0, 0)) ∧ (((w.alloc (.cells o1 t1)).alloc (.cells o2 t2)).alloc (.cells o3 t3)).drew.heap[w.heap.size + 1]? = some (.cells o2 t2 (0, 0)) ∧ (((w.alloc (.cells o1 t1)).alloc (.cells o2 t2)).alloc (.cells o3 t3)).drew.heap[w.heap.size + 1 + 1]? = some (.cells o3 t3 (0, 0)) ∧ Below w.heap.size w (((w.alloc (.cells o1 t1)).alloc (.cells o2 t2)).alloc (.cells o3 t3)).drew := fun {t1 t2 t3} => by
  have s1 := alloc_size' w (.cells o1 t1)
  have s2 := alloc_size' (w.alloc (.cells o1 t1)) (.cells o2 t2)
  have e1 := (MapKept.heap_alloc w (.cells o1 t1)).1
  have e2 := (MapKept.heap_alloc (w.alloc (.cells o1 t1)) (.cells o2 t2)).1
  have e3 := (MapKept.heap_alloc ((w.alloc (.cells o1 t1)).alloc (.cells o2 t2)) (.cells o3 t3)).1
  rw [s1] at e2
  rw [s2, s1] at e3
  have b1 : Below w.heap.size w (w.alloc (.cells o1 t1)) := (Below.refl _ _).alloc (Nat.le_refl _) _
  have b2 : Below (w.heap.size + 1) (w.alloc (.cells o1 t1)) ((w.alloc (.cells o1 t1)).alloc (.cells o2 t2)) := (Below.refl _ _).alloc (by omega) _
  have b3 : Below (w.heap.size + 1 + 1) ((w.alloc (.cells o1 t1)).alloc (.cells o2 t2)) (((w.alloc (.cells o1 t1)).alloc (.cells o2 t2)).alloc (.cells o3 t3)) := (Below.refl _ _).alloc (by omega) _
  exact ⟨(b3.block _ (by omega)).trans ((b2.block _ (by omega)).trans e1), (b3.block _ (by omega)).trans e2, e3, (b1.trans ((b2.mono (by omega)).trans (b3.mono (by omega)))).drew⟩
/-- A row of numbers whose first k are filled. -/
def FillAt (W : World) (g n k : Nat) : Prop := ∃ M : Array Value, W.heap[g]? = some (.cells M 3 (0, 0)) ∧ M.size = n ∧ ∀ j, j < k → M[j]? = some (.int .i64 (-1))
/-- The finder while his numbers are filled. -/
structure Fl (w : World) (b gi go g n cap : Nat) (W : World) (k : Nat) : Prop where
  bel : Below w.heap.size w W
  fin : W.heap[b]? = some (.cells #[.slice (some ⟨g, 0, none⟩) n cap, .slice none 0 0, .slice (some ⟨gi, 0, none⟩) n n, .slice (some ⟨go, 0, none⟩) n n] 68 (0, 0))
  inn : FillAt W gi n k
  own : FillAt W go n k
theorem FillAt.full {W : World} {g n : Nat} (h : FillAt W g n n) : W.heap[g]? = some (.cells (intsV (List.replicate n (-1))) 3 (0, 0)) := by
  obtain ⟨M, h1, h2, h3⟩ := h
  rw [h1]
  have : M = intsV (List.replicate n (-1)) := by
    apply Array.ext_getElem?
    intro i
    by_cases hi : i < n
    · rw [h3 i hi]; simp [hi]
    · rw [Array.getElem?_eq_none (by omega), Array.getElem?_eq_none (by simp; omega)]
  rw [this]
theorem FillAt.set {W : World} {g n k : Nat} (h : FillAt W g n k) (hk : k < n) : FillAt (W.setCell ⟨g, k, none⟩ (.int .i64 (-1))) g n (k + 1) := by
  obtain ⟨M, h1, h2, h3⟩ := h
  refine ⟨M.setIfInBounds k (.int .i64 (-1)), by simp [World.setCell, Array.getElem?_modify, h1], by simpa using h2, fun j hj => ?_⟩
  by_cases e : k = j
  · subst e; exact Array.getElem?_setIfInBounds_self_of_lt (by omega)
  · rw [Array.getElem?_setIfInBounds_ne e]; exact h3 j (by omega)
theorem FillAt.keep {W W' : World} {g n k : Nat} (h : FillAt W g n k) (hb : W'.heap[g]? = W.heap[g]?) : FillAt W' g n k := by
  obtain ⟨M, h1, h2⟩ := h
  exact ⟨M, hb.trans h1, h2⟩
theorem FillAt.cell {W : World} {g n k : Nat} (h : FillAt W g n k) (hk : k < n) : (∃ u, W.cell? ⟨g, k, none⟩ = some u) ∧ W.frozen? ⟨g, k, none⟩ = false ∧ g < W.heap.size := by
  obtain ⟨M, h1, h2, _⟩ := h
  refine ⟨⟨M[k], ?_⟩, by simp [World.frozen?, h1], lt_of_some h1⟩
  unfold World.cell?
  rw [h1]
  exact Array.getElem?_eq_getElem (by show k < M.size; omega)
theorem Fl.step {w W : World} {b gi go g n cap k : Nat} (h : Fl w b gi go g n cap W k) (hk : k < n) (hne : w.heap.size ≤ b ∧ w.heap.size ≤ gi ∧ w.heap.size ≤ go ∧ b ≠ gi ∧ b ≠ go ∧ gi ≠ go) :
    Fl w b gi go g n cap ((W.setCell ⟨gi, k, none⟩ (.int .i64 (-1))).setCell ⟨go, k, none⟩ (.int .i64 (-1))).drew (k + 1) ∧ Fl w b gi go g n cap ((W.setCell ⟨go, k, none⟩ (.int .i64 (-1))).setCell ⟨gi, k, none⟩ (.int .i64 (-1))).drew (k + 1) := by
  obtain ⟨n1, n2, n3, n4, n5, n6⟩ := hne
  refine ⟨⟨((h.bel.setCell n2 _).setCell n3 _).drew, ?_, ?_, ?_⟩, ⟨((h.bel.setCell n3 _).setCell n2 _).drew, ?_, ?_, ?_⟩⟩
  · exact (Below.heap_setCell _ _ _ _ n5).trans ((Below.heap_setCell _ _ _ _ n4).trans h.fin)
  · exact (h.inn.set hk).keep (Below.heap_setCell _ _ _ _ n6)
  · exact (h.own.keep (Below.heap_setCell _ _ _ _ (Ne.symm n6))).set hk
  · exact (Below.heap_setCell _ _ _ _ n4).trans ((Below.heap_setCell _ _ _ _ n5).trans h.fin)
  · exact (h.inn.keep (Below.heap_setCell _ _ _ _ n6)).set hk
  · exact (h.own.set hk).keep (Below.heap_setCell _ _ _ _ (Ne.symm n6))
set_option maxRecDepth 100000 in
set_option maxHeartbeats 4000000 in
theorem found_core (w : World) (g n cap : Nat) (hn : n ≤ 1000000) (hcap : n ≤ cap) (J : Nat → Nat → Nat → Nat → World → Prop)
    (HS : Hid (∀ b gi go W, Fl w b gi go g n cap W n → w.heap.size ≤ b ∧ w.heap.size ≤ gi ∧ w.heap.size ≤ go ∧ b ≠ gi ∧ b ≠ go ∧ gi ≠ go → J n b gi go W))
    (HJ : Hid (∀ k b gi go W, k < n → J (k + 1) b gi go W → Calls Try.prog 42 #[.pointer (some ⟨b, 0, none⟩), .int .i64 (k : Int)] W fun e w' => e = .returned (.tuple #[]) ∧ J k b gi go w')) :
    Calls Try.prog 24 #[.slice (some ⟨g, 0, none⟩) n cap] w fun e w' => ∃ b gi go, e = .returned (.pointer (some ⟨b, 0, none⟩)) ∧ J 0 b gi go w' := by
  obtain ⟨M, hM, _, hmk⟩ := make_ints n hn
  go_enter Try.func24, Try.ntmps24
  go_wp2_with fail
  go_region
  · obtain ⟨W0, HW0, hx0, hx1, hx2, hbw⟩ : ∃ W0, W0 = (((w.alloc (.cells M 3)).alloc (.cells M 3)).alloc (.cells #[.slice (some ⟨g, 0, none⟩) n cap, .slice none 0 0, .slice (some ⟨w.heap.size, 0, none⟩) n n, .slice (some ⟨w.heap.size + 1, 0, none⟩) n n] 68)).drew ∧ W0.heap[w.heap.size]? = some (.cells M 3 (0, 0)) ∧ W0.heap[w.heap.size + 1]? = some (.cells M 3 (0, 0)) ∧ W0.heap[w.heap.size + 1 + 1]? = some (.cells #[.slice (some ⟨g, 0, none⟩) n cap, .slice none 0 0, .slice (some ⟨w.heap.size, 0, none⟩) n n, .slice (some ⟨w.heap.size + 1, 0, none⟩) n n] 68 (0, 0)) ∧ Below w.heap.size w W0 := ⟨_, rfl, (three w _ _ _).1, (three w _ _ _).2.1, (three w _ _ _).2.2.1, (three w _ _ _).2.2.2⟩
    rw [← HW0]
    clear HW0
    have HT : Hid (Fl w (w.heap.size + 1 + 1) (w.heap.size) (w.heap.size + 1) g n cap W0 0) := (show Fl _ _ _ _ _ _ _ _ _ from ⟨hbw, hx2, ⟨M, hx0, hM, fun j hj => by omega⟩, ⟨M, hx1, hM, fun j hj => by omega⟩⟩)
    have HNE : Hid (w.heap.size ≤ w.heap.size + 1 + 1 ∧ w.heap.size ≤ w.heap.size ∧ w.heap.size ≤ w.heap.size + 1 ∧ w.heap.size + 1 + 1 ≠ w.heap.size ∧ w.heap.size + 1 + 1 ≠ w.heap.size + 1 ∧ w.heap.size ≠ w.heap.size + 1) := (show _ ∧ _ from by omega)
    clear hx0 hx1 hx2 hbw hmk
    generalize hbb : w.heap.size + 1 + 1 = b at *
    generalize hg1 : w.heap.size + 1 = g1 at *
    go_wp2_with fail
    go_loopw [17] (fun i W => ∃ k : Nat, k ≤ n ∧ i = .int .i64 (k : Int) ∧ Hid (Fl w b w.heap.size g1 g n cap W k)) (fun i _ => n - (L.intOf i).toNat)
    case atStart => exact ⟨0, by omega, rfl, HT⟩
    case round =>
      obtain ⟨k, hk, rfl, HK⟩ := hrel
      clear HT
      by_cases hkn : k < n
      · have hkn' : (k : Int) < n := by omega
        have hk0 : (0 : Int) ≤ k := by omega
        obtain ⟨⟨u1, ik⟩, fi, hil⟩ := HK.out.inn.cell hkn
        obtain ⟨⟨u2, ok⟩, fo, hol⟩ := HK.out.own.cell hkn
        have hfin := HK.out.fin
        have c2 : wr.cell? ⟨b, 2, none⟩ = some (.slice (some ⟨w.heap.size, 0, none⟩) n n) := by simp [World.cell?, hfin]
        have c3 : wr.cell? ⟨b, 3, none⟩ = some (.slice (some ⟨g1, 0, none⟩) n n) := by simp [World.cell?, hfin]
        have hbl := lt_of_some hfin
        have hne1 := HNE.out.2.2.2.2.2
        have hst := HK.out.step hkn HNE.out
        have HA : Hid (_) := hst.1
        have HB : Hid (_) := hst.2
        clear hfin hst HK hbb hg1
        go_wp2_with fail
        go_region
        all_goals go_wp2_with fail
        all_goals go_roundw
        all_goals first | exact ⟨k + 1, by omega, by go_num, HA⟩ | exact ⟨k + 1, by omega, by go_num, HB⟩ | (simp [L.intOf] <;> omega)
      · have hkn' : ¬ (k : Int) < n := by omega
        have : k = n := by omega
        subst this
        have HJ0 : Hid (J k b w.heap.size g1 wr) := HS.out _ _ _ _ HK.out HNE.out
        clear HK HNE HS hbb hg1
        go_wp2_with fail
        go_loopw [5] (fun i W => ∃ (j : Nat) (z : Int), j ≤ k ∧ i = .int .i64 z ∧ z = (j : Int) - 1 ∧ Hid (J j b w.heap.size g1 W)) (fun i _ => (L.intOf i + 1).toNat)
        case atStart => exact ⟨k, (k : Int) - 1, by omega, by go_num, rfl, HJ0⟩
        case round =>
          obtain ⟨j, z, hj, rfl, hz, HJj⟩ := hrel
          clear HJ0
          by_cases hj0 : j = 0
          · subst hj0
            have : z = -1 := by omega
            subst this
            clear hz
            go_wp2_with fail
            go_ret
            exact ⟨_, _, _, rfl, HJj.out⟩
          · obtain ⟨j, rfl⟩ : ∃ j', j = j' + 1 := ⟨j - 1, by omega⟩
            obtain rfl : z = (j : Int) := by omega
            clear hz
            have hz0 : (0 : Int) ≤ j := by omega
            go_wp2_with fail
            refine Calls.mono (HJ.out j _ _ _ _ (by omega) HJj.out) ?_
            rintro e w5 ⟨rfl, hq⟩
            have HQ : Hid (J j b w.heap.size g1 w5) := hq
            clear hq HJj
            go_wp2_with fail
            go_roundw
            case rel => exact ⟨j, (j : Int) - 1, by omega, by go_num, rfl, HQ⟩
            case measure => simp [L.intOf] <;> omega
  · obtain ⟨W0, HW0, hx0, hx1, hx2, hbw⟩ : ∃ W0, W0 = (((w.alloc (.cells M 3)).alloc (.cells M 3)).alloc (.cells #[.slice (some ⟨g, 0, none⟩) n cap, .slice none 0 0, .slice (some ⟨w.heap.size + 1, 0, none⟩) n n, .slice (some ⟨w.heap.size, 0, none⟩) n n] 68)).drew ∧ W0.heap[w.heap.size]? = some (.cells M 3 (0, 0)) ∧ W0.heap[w.heap.size + 1]? = some (.cells M 3 (0, 0)) ∧ W0.heap[w.heap.size + 1 + 1]? = some (.cells #[.slice (some ⟨g, 0, none⟩) n cap, .slice none 0 0, .slice (some ⟨w.heap.size + 1, 0, none⟩) n n, .slice (some ⟨w.heap.size, 0, none⟩) n n] 68 (0, 0)) ∧ Below w.heap.size w W0 := ⟨_, rfl, (three w _ _ _).1, (three w _ _ _).2.1, (three w _ _ _).2.2.1, (three w _ _ _).2.2.2⟩
    rw [← HW0]
    clear HW0
    have HT : Hid (Fl w (w.heap.size + 1 + 1) (w.heap.size + 1) (w.heap.size) g n cap W0 0) := (show Fl _ _ _ _ _ _ _ _ _ from ⟨hbw, hx2, ⟨M, hx1, hM, fun j hj => by omega⟩, ⟨M, hx0, hM, fun j hj => by omega⟩⟩)
    have HNE : Hid (w.heap.size ≤ w.heap.size + 1 + 1 ∧ w.heap.size ≤ w.heap.size + 1 ∧ w.heap.size ≤ w.heap.size ∧ w.heap.size + 1 + 1 ≠ w.heap.size + 1 ∧ w.heap.size + 1 + 1 ≠ w.heap.size ∧ w.heap.size + 1 ≠ w.heap.size) := (show _ ∧ _ from by omega)
    clear hx0 hx1 hx2 hbw hmk
    generalize hbb : w.heap.size + 1 + 1 = b at *
    generalize hg1 : w.heap.size + 1 = g1 at *
    go_wp2_with fail
    go_loopw [17] (fun i W => ∃ k : Nat, k ≤ n ∧ i = .int .i64 (k : Int) ∧ Hid (Fl w b g1 w.heap.size g n cap W k)) (fun i _ => n - (L.intOf i).toNat)
    case atStart => exact ⟨0, by omega, rfl, HT⟩
    case round =>
      obtain ⟨k, hk, rfl, HK⟩ := hrel
      clear HT
      by_cases hkn : k < n
      · have hkn' : (k : Int) < n := by omega
        have hk0 : (0 : Int) ≤ k := by omega
        obtain ⟨⟨u1, ik⟩, fi, hil⟩ := HK.out.inn.cell hkn
        obtain ⟨⟨u2, ok⟩, fo, hol⟩ := HK.out.own.cell hkn
        have hfin := HK.out.fin
        have c2 : wr.cell? ⟨b, 2, none⟩ = some (.slice (some ⟨g1, 0, none⟩) n n) := by simp [World.cell?, hfin]
        have c3 : wr.cell? ⟨b, 3, none⟩ = some (.slice (some ⟨w.heap.size, 0, none⟩) n n) := by simp [World.cell?, hfin]
        have hbl := lt_of_some hfin
        have hne1 := HNE.out.2.2.2.2.2
        have hst := HK.out.step hkn HNE.out
        have HA : Hid (_) := hst.1
        have HB : Hid (_) := hst.2
        clear hfin hst HK hbb hg1
        go_wp2_with fail
        go_region
        all_goals go_wp2_with fail
        all_goals go_roundw
        all_goals first | exact ⟨k + 1, by omega, by go_num, HA⟩ | exact ⟨k + 1, by omega, by go_num, HB⟩ | (simp [L.intOf] <;> omega)
      · have hkn' : ¬ (k : Int) < n := by omega
        have : k = n := by omega
        subst this
        have HJ0 : Hid (J k b g1 w.heap.size wr) := HS.out _ _ _ _ HK.out HNE.out
        clear HK HNE HS hbb hg1
        go_wp2_with fail
        go_loopw [5] (fun i W => ∃ (j : Nat) (z : Int), j ≤ k ∧ i = .int .i64 z ∧ z = (j : Int) - 1 ∧ Hid (J j b g1 w.heap.size W)) (fun i _ => (L.intOf i + 1).toNat)
        case atStart => exact ⟨k, (k : Int) - 1, by omega, by go_num, rfl, HJ0⟩
        case round =>
          obtain ⟨j, z, hj, rfl, hz, HJj⟩ := hrel
          clear HJ0
          by_cases hj0 : j = 0
          · subst hj0
            have : z = -1 := by omega
            subst this
            clear hz
            go_wp2_with fail
            go_ret
            exact ⟨_, _, _, rfl, HJj.out⟩
          · obtain ⟨j, rfl⟩ : ∃ j', j = j' + 1 := ⟨j - 1, by omega⟩
            obtain rfl : z = (j : Int) := by omega
            clear hz
            have hz0 : (0 : Int) ≤ j := by omega
            go_wp2_with fail
            refine Calls.mono (HJ.out j _ _ _ _ (by omega) HJj.out) ?_
            rintro e w5 ⟨rfl, hq⟩
            have HQ : Hid (J j b g1 w.heap.size w5) := hq
            clear hq HJj
            go_wp2_with fail
            go_roundw
            case rel => exact ⟨j, (j : Int) - 1, by omega, by go_num, rfl, HQ⟩
            case measure => simp [L.intOf] <;> omega
/-- What found finds. -/
theorem found_any {w : World} {l : List Ps.Nd} {nv : Value} (hf : Fit l) (ht : Told w nv l) :
    Calls Try.prog 24 #[nv] w fun e w' => ∃ b gi go sv mb, e = .returned (.pointer (some ⟨b, 0, none⟩)) ∧ FS w w' b gi go sv mb l nv (2 * l.length) (Sc.found l) := by
  obtain ⟨g, cap, an, ak, cn, ck, rfl, hg, hc, _⟩ := ht.node 0 (by cases l with | nil => exact absurd rfl hf.ne | cons => simp)
  refine (found_core w g l.length cap hf.few hc (fun k b gi go W => ∃ sv mb s, FS w W b gi go sv mb l (.slice (some ⟨g, 0, none⟩) l.length cap) (2 * (l.length - k)) s ∧ Sc.down l k s = Sc.found l)
    (fun b gi go W hfl hne => ?_) (fun k b gi go W hk hj => ?_)).mono ?_
  · refine ⟨.slice none 0 0, [], ⟨[], List.replicate l.length (-1), List.replicate l.length (-1)⟩, ?_, rfl⟩
    exact (FS.start hf ht hfl.bel hfl.fin hfl.inn.full hfl.own.full ⟨hne.1, hne.2.1, hne.2.2.1⟩ hne.2.2.2).mono (by omega)
  · obtain ⟨sv, mb, s, hs, hd⟩ := hj
    have hfew := hf.few
    refine (enter_any hs (by omega) k hk).mono ?_
    rintro e w' ⟨rfl, sv', mb', hs'⟩
    exact ⟨rfl, sv', mb', _, hs'.mono (by omega), hd⟩
  · rintro e w' ⟨b, gi, go, rfl, sv, mb, s, hs, hd⟩
    have hd : s = Sc.found l := hd
    subst hd
    exact ⟨b, gi, go, sv, mb, rfl, hs.mono (by omega)⟩
end Go.Proofs.Ytkaacmghgobhmaa.Rd
end
section
namespace Go.Proofs.Ytkaacmghgobhmaa.Rd
open Go.RowKit
open L (tkA own_block own_below info_of)
set_option linter.unusedVariables false
/-- A row of numbers, the first k of them as they are to be. -/
def NumsAt (W : World) (R n k : Nat) (S : Nat → Int) : Prop := ∃ M : Array Value, W.heap[R]? = some (.cells M 3 (0, 0)) ∧ M.size = n ∧ ∀ j, j < k → M[j]? = some (.int .i64 (S j))
theorem NumsAt.cell {W : World} {g n k : Nat} {S : Nat → Int} (h : NumsAt W g n k S) (hk : k < n) : (∃ u, W.cell? ⟨g, k, none⟩ = some u) ∧ W.frozen? ⟨g, k, none⟩ = false ∧ g < W.heap.size := by
  obtain ⟨M, h1, h2, _⟩ := h
  refine ⟨⟨M[k], ?_⟩, by simp [World.frozen?, h1], lt_of_some h1⟩
  unfold World.cell?
  rw [h1]
  exact Array.getElem?_eq_getElem (by show k < M.size; omega)
theorem NumsAt.set {W : World} {g n k : Nat} {S : Nat → Int} (h : NumsAt W g n k S) (hk : k < n) {v : Int} (hv : v = S k) : NumsAt (W.setCell ⟨g, k, none⟩ (.int .i64 v)) g n (k + 1) S := by
  obtain ⟨M, h1, h2, h3⟩ := h
  refine ⟨M.setIfInBounds k (.int .i64 v), by simp [World.setCell, Array.getElem?_modify, h1], by simpa using h2, fun j hj => ?_⟩
  by_cases e : k = j
  · subst e; rw [← hv]; exact Array.getElem?_setIfInBounds_self_of_lt (by omega)
  · rw [Array.getElem?_setIfInBounds_ne e]; exact h3 j (by omega)
theorem NumsAt.less {W : World} {g n k : Nat} {S : Nat → Int} {v : Value} (h : NumsAt W g n k S) : NumsAt (W.setCell ⟨g, k, none⟩ v) g n k S := by
  obtain ⟨M, h1, h2, h3⟩ := h
  refine ⟨M.setIfInBounds k v, by simp [World.setCell, Array.getElem?_modify, h1], by simpa using h2, fun j hj => ?_⟩
  rw [Array.getElem?_setIfInBounds_ne (by omega)]; exact h3 j hj
set_option maxRecDepth 100000 in
set_option maxHeartbeats 4000000 in
theorem slots_core (w : World) (g n cap : Nat) (hn : n ≤ 1000000) (hcap : n ≤ cap) (S : Nat → Int) (K : Nat → World → Prop)
    (HF : Hid (Calls Try.prog 24 #[.slice (some ⟨g, 0, none⟩) n cap] w fun e w' => ∃ b, e = .returned (.pointer (some ⟨b, 0, none⟩)) ∧ Below w.heap.size w w' ∧ K b w'))
    (HK : Hid (∀ b w1, K b w1 → ∃ (go gs ns cs : Nat) (O : Nat → Int), ns ≤ cs ∧ ns ≤ 10000000 ∧ ∀ W, Below w1.heap.size w1 W → b < W.heap.size ∧ go < W.heap.size ∧ W.cell? ⟨b, 3, none⟩ = some (.slice (some ⟨go, 0, none⟩) n n) ∧ ∀ j, j < n → W.cell? ⟨go, j, none⟩ = some (.int .i64 (O j)) ∧ (O j = -1 → S j = -1) ∧ (O j ≠ -1 → ∃ q : Nat, O j = (q : Int) ∧ q < ns ∧ W.cell? ⟨b, 1, none⟩ = some (.slice (some ⟨gs, 0, none⟩) ns cs) ∧ gs < W.heap.size ∧ W.cell? ⟨gs, q * 3 + 2, none⟩ = some (.int .i64 (S j))))) :
    Calls Try.prog 14 #[.slice (some ⟨g, 0, none⟩) n cap] w fun e w' => ∃ R, e = .returned (.slice (some ⟨R, 0, none⟩) n n) ∧ w.heap.size ≤ R ∧ Below w.heap.size w w' ∧ NumsAt w' R n n S := by
  obtain ⟨M, hM, _, hmk⟩ := make_ints n hn
  go_enter Try.func14, Try.ntmps14
  go_wp2_with fail
  refine Calls.mono HF.out ?_
  rintro e w2 ⟨b, rfl, hb2, hk2⟩
  obtain ⟨go, gs, ns, cs, O, hcs, hns, hall⟩ := HK.out b w2 hk2
  have hA : Below w2.heap.size w2 (w2.alloc (.cells M 3)) := (Below.refl _ _).alloc (Nat.le_refl _) _
  obtain ⟨hb, hg, c3, _⟩ := hall _ hA
  have HALL : Hid (_) := hall
  have H0 : Hid (Below w2.heap.size w2 (w2.alloc (.cells M 3)) ∧ NumsAt (w2.alloc (.cells M 3)) w2.heap.size n 0 S) := ⟨hA, M, (MapKept.heap_alloc w2 _).1, hM, fun j hj => by omega⟩
  have HB2 : Hid (Below w.heap.size w w2) := hb2
  clear hall hk2 HF HK hb2 hA
  go_wp2_with fail
  go_loopw [17] (fun i W => ∃ k : Nat, k ≤ n ∧ i = .int .i64 (k : Int) ∧ Hid (Below w2.heap.size w2 W ∧ NumsAt W w2.heap.size n k S)) (fun i _ => n - (L.intOf i).toNat)
  case atStart => exact ⟨0, by omega, rfl, H0⟩
  case round =>
    obtain ⟨k, hk, rfl, HW⟩ := hrel
    clear H0 hb hg c3
    by_cases hkn : k < n
    · have hkn' : (k : Int) < n := by omega
      have hk0 : (0 : Int) ≤ k := by omega
      obtain ⟨hb, hg, c3, hj⟩ := HALL.out _ HW.out.1
      obtain ⟨co, ho1, ho2⟩ := hj k hkn
      obtain ⟨⟨u, cu⟩, fu, hRl⟩ := HW.out.2.cell hkn
      by_cases ho : O k = -1
      · rw [ho] at co
        have H1 : Hid (Below w2.heap.size w2 (wr.setCell ⟨w2.heap.size, k, none⟩ (.int .i64 (-1))) ∧ NumsAt (wr.setCell ⟨w2.heap.size, k, none⟩ (.int .i64 (-1))) w2.heap.size n (k + 1) S) := ⟨HW.out.1.setCell (Nat.le_refl _) _, HW.out.2.set hkn (ho1 ho).symm⟩
        clear ho1 ho2 hj HALL HW
        go_wp2_with fail
        go_roundw
        case rel => exact ⟨k + 1, by omega, by go_num, H1⟩
        case measure => simp [L.intOf] <;> omega
      · have hW1 : Below w2.heap.size w2 (wr.setCell ⟨w2.heap.size, k, none⟩ (.int .i64 (-1))) := HW.out.1.setCell (Nat.le_refl _) _
        have hN1 := HW.out.2.less (v := .int .i64 (-1))
        obtain ⟨hb', hg', c3', hj'⟩ := HALL.out _ hW1
        obtain ⟨_, _, ho2'⟩ := hj' k hkn
        obtain ⟨q, hq1, hq, c1, hgs, cq⟩ := ho2' ho
        obtain ⟨⟨u2, cu2⟩, fu2, hRl2⟩ := hN1.cell hkn
        rw [hq1] at co
        have hq' : (q : Int) < ns := by omega
        have hq0 : (0 : Int) ≤ q := by omega
        have hqn : ¬ (q : Int) = -1 := by omega
        have H1 : Hid (Below w2.heap.size w2 ((wr.setCell ⟨w2.heap.size, k, none⟩ (.int .i64 (-1))).setCell ⟨w2.heap.size, k, none⟩ (.int .i64 (S k))) ∧ NumsAt ((wr.setCell ⟨w2.heap.size, k, none⟩ (.int .i64 (-1))).setCell ⟨w2.heap.size, k, none⟩ (.int .i64 (S k))) w2.heap.size n (k + 1) S) := ⟨hW1.setCell (Nat.le_refl _) _, hN1.set hkn rfl⟩
        clear ho1 ho2 ho2' hj hj' HALL HW hW1 hN1
        generalize S k = sk at *
        go_wp2_with fail
        go_roundw
        case rel => exact ⟨k + 1, by omega, by go_num, H1⟩
        case measure => simp [L.intOf] <;> omega
    · have hkn' : ¬ (k : Int) < n := by omega
      have : k = n := by omega
      subst this
      have hsz := HB2.out.size
      go_wp2_with fail
      go_ret
      exact ⟨_, rfl, hsz, HB2.out.trans (HW.out.1.mono hsz), HW.out.2⟩
/-- How many names a node's scope has. -/
def slotOf (s : Sc.Fs) (o : Int) : Int := if o = -1 then -1 else ((s.scopes[o.toNat]?.map (fun p => (p.names.length : Int))).getD 0)
theorem slots_any {w : World} {l : List Ps.Nd} {nv : Value} (hf : Fit l) (ht : Told w nv l) :
    Calls Try.prog 14 #[nv] w fun e w' => ∃ R, e = .returned (.slice (some ⟨R, 0, none⟩) l.length l.length) ∧ w.heap.size ≤ R ∧ Below w.heap.size w w' ∧ NumsAt w' R l.length l.length (fun j => slotOf (Sc.found l) ((Sc.found l).own.getD j 0)) := by
  have hfa := found_any hf ht
  have hfew := hf.few
  obtain ⟨g, cap, an, ak, cn, ck, rfl, hg, hc, hrest⟩ := ht.node 0 (by cases l with | nil => exact absurd rfl hf.ne | cons => simp)
  refine slots_core w g l.length cap hf.few hc _ (fun b w1 => ∃ gi go sv mb, FS w w1 b gi go sv mb l (.slice (some ⟨g, 0, none⟩) l.length cap) (2 * l.length) (Sc.found l)) (hfa.mono ?_) (fun b w1 hk => ?_)
  · rintro e w' ⟨b, gi, go, sv, mb, rfl, h⟩
    exact ⟨b, rfl, h.bel, gi, go, sv, mb, h⟩
  · obtain ⟨gi, go, sv, mb, h⟩ := hk
    have hcnt := h.cnt
    clear hfa hrest
    generalize Sc.found l = s at *
    have hos : ∀ j, j < l.length → -1 ≤ s.own.getD j 0 ∧ s.own.getD j 0 < s.scopes.length := fun j hj => h.ok.own _ (Sc.getD_mem (by rw [h.ok.lo]; exact hj))
    rcases h.row.own.2 with ⟨_, h0⟩ | ⟨gs, cs, cur, hv, _, _, hcs, _⟩
    · refine ⟨go, 0, 0, 0, fun j => s.own.getD j 0, by omega, by omega, fun W hW => ?_⟩
      have hf := h.below hW
      obtain ⟨c0, c1, c2, c3, fz, xb, xi, xo⟩ := hf.cells
      refine ⟨xb, xo, c3, fun j hj => ⟨(hf.ownAt j hj).1, fun e => by have e : s.own.getD j 0 = -1 := e; show slotOf s (s.own.getD j 0) = -1; rw [e]; rfl, fun e => ?_⟩⟩
      have := hos j hj
      exact absurd (show s.own.getD j 0 = -1 by omega) e
    · refine ⟨go, gs, s.scopes.length, cs, fun j => s.own.getD j 0, hcs, by omega, fun W hW => ?_⟩
      have hf := h.below hW
      obtain ⟨c0, c1, c2, c3, fz, xb, xi, xo⟩ := hf.cells
      refine ⟨xb, xo, c3, fun j hj => ⟨(hf.ownAt j hj).1, fun e => by have e : s.own.getD j 0 = -1 := e; show slotOf s (s.own.getD j 0) = -1; rw [e]; rfl, fun e => ?_⟩⟩
      have hb := hos j hj
      have hq : (s.own.getD j 0).toNat < s.scopes.length := by
        have e : s.own.getD j 0 ≠ -1 := e
        omega
      obtain ⟨g2, cap2, m, e1, _, _, hg2, _, _, _, _, _, _, d2, _⟩ := hf.row.at_ _ hq
      rw [hv] at e1
      simp only [Value.slice.injEq, Option.some.injEq, Addr.mk.injEq, and_true, true_and] at e1
      obtain ⟨rfl, rfl⟩ := e1
      refine ⟨(s.own.getD j 0).toNat, by have e : s.own.getD j 0 ≠ -1 := e; show s.own.getD j 0 = _; omega, hq, by rw [c1, hv], hg2, ?_⟩
      rw [d2]
      have e : s.own.getD j 0 ≠ -1 := e
      simp only [slotOf, if_neg e, List.getElem?_eq_getElem hq, Option.map_some, Option.getD_some]
end Go.Proofs.Ytkaacmghgobhmaa.Rd
end
section
namespace Go.Proofs.Ytkaacmghgobhmaa.Rd
open Go.RowKit
open L (tkA own_block own_below info_of)
set_option linter.unusedVariables false
/-- A row of spots, the first k of them as they are to be. -/
def SpotsAt (W : World) (R n k : Nat) (S : Nat → Int × Int) : Prop := ∃ M : Array Value, W.heap[R]? = some (.cells M 40 (0, 0)) ∧ M.size = n * 2 ∧ ∀ j, j < k → M[j * 2]? = some (.int .i64 (S j).1) ∧ M[j * 2 + 1]? = some (.int .i64 (S j).2)
theorem SpotsAt.lt {W : World} {g n k : Nat} {S : Nat → Int × Int} (h : SpotsAt W g n k S) : g < W.heap.size := by
  obtain ⟨M, h1, _⟩ := h; exact lt_of_some h1
theorem SpotsAt.cell {W : World} {g n k : Nat} {S : Nat → Int × Int} (h : SpotsAt W g n k S) {i : Nat} (hi : i < n * 2) : (∃ u, W.cell? ⟨g, i, none⟩ = some u) ∧ W.frozen? ⟨g, i, none⟩ = false := by
  obtain ⟨M, h1, h2, _⟩ := h
  refine ⟨⟨M[i], ?_⟩, by simp [World.frozen?, h1]⟩
  unfold World.cell?
  rw [h1]
  exact Array.getElem?_eq_getElem (by show i < M.size; omega)
theorem SpotsAt.set {W : World} {g n k : Nat} {S : Nat → Int × Int} (h : SpotsAt W g n k S) (hk : k < n) : SpotsAt ((W.setCell ⟨g, k * 2, none⟩ (.int .i64 (S k).1)).setCell ⟨g, k * 2 + 1, none⟩ (.int .i64 (S k).2)) g n (k + 1) S := by
  obtain ⟨M, h1, h2, h3⟩ := h
  refine ⟨(M.setIfInBounds (k * 2) (.int .i64 (S k).1)).setIfInBounds (k * 2 + 1) (.int .i64 (S k).2), by simp [World.setCell, Array.getElem?_modify, h1], by simpa using h2, fun j hj => ?_⟩
  by_cases e : j = k
  · subst e
    refine ⟨?_, Array.getElem?_setIfInBounds_self_of_lt (by simp; omega)⟩
    rw [Array.getElem?_setIfInBounds_ne (by omega)]
    exact Array.getElem?_setIfInBounds_self_of_lt (by omega)
  · obtain ⟨a, b⟩ := h3 j (by omega)
    refine ⟨?_, ?_⟩
    · rw [Array.getElem?_setIfInBounds_ne (by omega), Array.getElem?_setIfInBounds_ne (by omega)]; exact a
    · rw [Array.getElem?_setIfInBounds_ne (by omega), Array.getElem?_setIfInBounds_ne (by omega)]; exact b
theorem SpotsAt.below {W W' : World} {g n k : Nat} {S : Nat → Int × Int} (h : SpotsAt W g n k S) (hb : Below W.heap.size W W') : SpotsAt W' g n k S := by
  obtain ⟨M, h1, h2⟩ := h
  exact ⟨M, (hb.block _ (lt_of_some h1)).trans h1, h2⟩
theorem infoSpot1 : (Try.prog.info? 40).map (fun i => (i.zero, i.size, i.bytes)) = some (some (.agg #[.int .i64 0, .int .i64 0]), 2, 16) := by kernel_rfl
theorem make_spots (n : Nat) (hn : n ≤ 1000000) : ∃ M : Array Value, M.size = n * 2 ∧ ∀ W : World, (Instr.makeSlice 33 (.int .i64 (n : Int)) (.int .i64 (n : Int))).run Try.prog W = .ok (.slice (some ⟨W.heap.size, 0, none⟩) n n) (W.alloc (.cells M 40)) := by
  obtain ⟨i0, hi, hz0, hz1, hz2⟩ := info_of infoSpot1
  refine ⟨madeCells (Value.agg #[.int .i64 0, .int .i64 0]).cells (n * 2), by rw [size_madeCells], fun W => ?_⟩
  have := run_make (P := Try.prog) W 33 40 i0 _ Try.underlying33 hi hz0 .i64 .i64 n n (by omega) (Int.le_refl _) (by rw [hz2]; omega) (by omega)
  simp only [Int.toNat_natCast, hz1] at this
  exact this
set_option maxRecDepth 100000 in
set_option maxHeartbeats 4000000 in
theorem spots_core (w : World) (g n cap : Nat) (hn : n ≤ 1000000) (hcap : n ≤ cap) (S : Nat → Int × Int) (K : Nat → World → Prop)
    (HF : Hid (Calls Try.prog 24 #[.slice (some ⟨g, 0, none⟩) n cap] w fun e w' => ∃ b, e = .returned (.pointer (some ⟨b, 0, none⟩)) ∧ Below w.heap.size w w' ∧ K b w'))
    (HK : Hid (∀ b w1, K b w1 → ∀ W, Below w1.heap.size w1 W → ∀ k : Nat, k < n → Calls Try.prog 25 #[.pointer (some ⟨b, 0, none⟩), .int .i64 (k : Int)] W fun e w' => e = .returned (.agg #[.int .i64 (S k).1, .int .i64 (S k).2]) ∧ Below W.heap.size W w')) :
    Calls Try.prog 13 #[.slice (some ⟨g, 0, none⟩) n cap] w fun e w' => ∃ R, e = .returned (.slice (some ⟨R, 0, none⟩) n n) ∧ w.heap.size ≤ R ∧ Below w.heap.size w w' ∧ SpotsAt w' R n n S := by
  obtain ⟨M, hM, hmk⟩ := make_spots n hn
  go_enter Try.func13, Try.ntmps13
  go_wp2_with fail
  refine Calls.mono HF.out ?_
  rintro e w2 ⟨b, rfl, hb2, hk2⟩
  have HALL : Hid (_) := HK.out b w2 hk2
  have hA : Below w2.heap.size w2 (w2.alloc (.cells M 40)) := (Below.refl _ _).alloc (Nat.le_refl _) _
  have H0 : Hid (Below w2.heap.size w2 (w2.alloc (.cells M 40)) ∧ SpotsAt (w2.alloc (.cells M 40)) w2.heap.size n 0 S) := ⟨hA, M, (MapKept.heap_alloc w2 _).1, hM, fun j hj => by omega⟩
  have HB2 : Hid (Below w.heap.size w w2) := hb2
  clear hk2 HF HK hb2 hA
  go_wp2_with fail
  go_loopw [13] (fun i W => ∃ k : Nat, k ≤ n ∧ i = .int .i64 (k : Int) ∧ Hid (Below w2.heap.size w2 W ∧ SpotsAt W w2.heap.size n k S)) (fun i _ => n - (L.intOf i).toNat)
  case atStart => exact ⟨0, by omega, rfl, H0⟩
  case round =>
    obtain ⟨k, hk, rfl, HW⟩ := hrel
    clear H0
    by_cases hkn : k < n
    · have hkn' : (k : Int) < n := by omega
      have hk0 : (0 : Int) ≤ k := by omega
      have HSP : Hid (_) := HALL.out _ HW.out.1 k hkn
      go_wp2_with fail
      refine Calls.mono HSP.out ?_
      rintro e w3 ⟨rfl, hb3⟩
      have HW3 : Hid (Below w2.heap.size w2 w3 ∧ SpotsAt w3 w2.heap.size n k S) := ⟨HW.out.1.trans (hb3.mono HW.out.1.size), HW.out.2.below hb3⟩
      clear hb3 HSP HW HALL
      obtain ⟨⟨u, cu⟩, fu⟩ := HW3.out.2.cell (i := k * 2) (by omega)
      obtain ⟨⟨u1, cu1⟩, fu1⟩ := HW3.out.2.cell (i := k * 2 + 1) (by omega)
      have hRl := HW3.out.2.lt
      have H1 : Hid (Below w2.heap.size w2 ((w3.setCell ⟨w2.heap.size, k * 2, none⟩ (.int .i64 (S k).1)).setCell ⟨w2.heap.size, k * 2 + 1, none⟩ (.int .i64 (S k).2)) ∧ SpotsAt ((w3.setCell ⟨w2.heap.size, k * 2, none⟩ (.int .i64 (S k).1)).setCell ⟨w2.heap.size, k * 2 + 1, none⟩ (.int .i64 (S k).2)) w2.heap.size n (k + 1) S) := ⟨(HW3.out.1.setCell (Nat.le_refl _) _).setCell (Nat.le_refl _) _, HW3.out.2.set hkn⟩
      clear HW3
      generalize (S k).1 = s1 at *
      generalize (S k).2 = s2 at *
      go_wp2_with fail
      go_roundw
      case rel => exact ⟨k + 1, by omega, by go_num, H1⟩
      case measure => simp [L.intOf] <;> omega
    · have hkn' : ¬ (k : Int) < n := by omega
      have : k = n := by omega
      subst this
      have hsz := HB2.out.size
      go_wp2_with fail
      go_ret
      exact ⟨_, rfl, hsz, HB2.out.trans (HW.out.1.mono hsz), HW.out.2⟩
theorem spots_any {w : World} {l : List Ps.Nd} {nv : Value} (hf : Fit l) (ht : Told w nv l) :
    Calls Try.prog 13 #[nv] w fun e w' => ∃ R, e = .returned (.slice (some ⟨R, 0, none⟩) l.length l.length) ∧ w.heap.size ≤ R ∧ Below w.heap.size w w' ∧ SpotsAt w' R l.length l.length (Sc.spot l (Sc.found l)) := by
  have hfa := found_any hf ht
  obtain ⟨g, cap, an, ak, cn, ck, rfl, hg, hc, hrest⟩ := ht.node 0 (by cases l with | nil => exact absurd rfl hf.ne | cons => simp)
  refine spots_core w g l.length cap hf.few hc _ (fun b w1 => ∃ gi go sv mb, FS w w1 b gi go sv mb l (.slice (some ⟨g, 0, none⟩) l.length cap) (2 * l.length) (Sc.found l)) (hfa.mono ?_) (fun b w1 hk W hW k hkn => ?_)
  · rintro e w' ⟨b, gi, go, sv, mb, rfl, h⟩
    exact ⟨b, rfl, h.bel, gi, go, sv, mb, h⟩
  · obtain ⟨gi, go, sv, mb, h⟩ := hk
    exact spot_any (h.below hW) (by have := hf.few; omega) k hkn
end Go.Proofs.Ytkaacmghgobhmaa.Rd
end
section
namespace Go.Proofs.Ytkaacmghgobhmaa.Sc
set_option linter.unusedVariables false
/-- What the finder asks of a tree, by evaluation. -/
def fitB (l : List Ps.Nd) : Bool := !l.isEmpty && decide (l.length ≤ 1000000) && l.all fun x => decide (x.names.length ≤ 1000000) && decide (x.kids.length ≤ 1000000) && x.kids.all (fun k => decide (k ≤ 1000000)) && decide (x.k ≤ 1000000000) && decide (x.t.length ≤ 1000000) && x.names.all (fun y => decide (y.length ≤ 1000000))
/-- The spot of the last NName of a name among the first k nodes. -/
def lastOf (l : List Ps.Nd) (S : Nat → Int × Int) (nm : List UInt8) : Nat → Int × Int
  | 0 => (-5, 0)
  | k + 1 => match l[k]? with
    | none => lastOf l S nm k
    | some x => if x.k = 3 then if x.t = nm then S k else lastOf l S nm k else lastOf l S nm k
def okForm (src nm : List UInt8) (w : Int × Int) : Bool :=
  match Rp.rparse src with
  | (l, a, ok) => ok && decide (a = 0) && fitB l && decide (lastOf l (spot l (found l)) nm l.length = w)
def formT : List (List UInt8) := [[102, 117, 110, 99, 116, 105, 111, 110, 32, 102, 40, 112, 44, 32, 113, 41, 32, 123, 32, 108, 101, 116, 32, 114, 32, 61, 32, 49, 59, 32, 114, 101, 116, 117, 114, 110, 32, 114, 59, 32, 125], [116, 114, 121, 32, 123, 125, 32, 99, 97, 116, 99, 104, 32, 40, 101, 41, 32, 123, 32, 108, 101, 116, 32, 114, 32, 61, 32, 101, 59, 32, 114, 32, 125], [123, 32, 98, 32, 125, 32, 108, 101, 116, 32, 98, 32, 61, 32, 49], [108, 101, 116, 32, 102, 32, 61, 32, 102, 117, 110, 99, 116, 105, 111, 110, 32, 103, 40, 41, 32, 123, 32, 114, 101, 116, 117, 114, 110, 32, 103, 59, 32, 125], [123, 32, 102, 117, 110, 99, 116, 105, 111, 110, 32, 107, 40, 41, 32, 123, 125, 32, 107, 32, 125], [119, 104, 105, 108, 101, 32, 40, 97, 41, 32, 123, 32, 108, 101, 116, 32, 97, 32, 61, 32, 97, 32, 125], [108, 101, 116, 32, 97, 32, 61, 32, 49, 59, 32, 105, 102, 32, 40, 97, 41, 32, 123, 32, 97, 32, 125, 32, 101, 108, 115, 101, 32, 123, 32, 108, 101, 116, 32, 97, 32, 61, 32, 50, 59, 32, 97, 32, 125]]
def formN : List (List UInt8) := [[114], [114], [98], [103], [107], [97], [97]]
def formW : List (Int × Int) := [(0, 2), (0, 1), (0, 0), (-1, 0), (0, 0), (0, 0), (0, 0)]
set_option maxRecDepth 100000 in
theorem forms_ok : ((formT.zip formN).zip formW).all (fun p => okForm p.1.1 p.1.2 p.2) = true := by decide +kernel
end Go.Proofs.Ytkaacmghgobhmaa.Sc
end
