/- Texts: ScY RpTr. -/
import Derived.Test.YtkaacmghgobhmaaBn15
import Derived.Test.YtkaacmghgobhmaaBn06
section
namespace Go.Proofs.Ytkaacmghgobhmaa.Rd
open Go.RowKit
open L (tkA own_block own_below info_of)
set_option linter.unusedVariables false
theorem three (w : World) (o1 o2 o3 : Array Value) : ∀ {t1 t2 t3 : TypeId}, (((w.alloc (.cells o1 t1)).alloc (.cells o2 t2)).alloc (.cells o3 t3)).drew.heap[w.heap.size]? = some (.cells o1 t1 (0, 0)) ∧ (((w.alloc (.cells o1 t1)).alloc (.cells o2 t2)).alloc (.cells o3 t3)).drew.heap[w.heap.size + 1]? = some (.cells o2 t2 (0, 0)) ∧ (((w.alloc (.cells o1 t1)).alloc (.cells o2 t2)).alloc (.cells o3 t3)).drew.heap[w.heap.size + 1 + 1]? = some (.cells o3 t3 (0, 0)) ∧ Below w.heap.size w (((w.alloc (.cells o1 t1)).alloc (.cells o2 t2)).alloc (.cells o3 t3)).drew := fun {t1 t2 t3} => by
  have s1 := alloc_size' w (.cells o1 t1)
  have s2 := alloc_size' (w.alloc (.cells o1 t1)) (.cells o2 t2)
  have e1 := (MapKept.heap_alloc w (.cells o1 t1)).1
  have e2 := (MapKept.heap_alloc (w.alloc (.cells o1 t1)) (.cells o2 t2)).1
  have e3 := (MapKept.heap_alloc ((w.alloc (.cells o1 t1)).alloc (.cells o2 t2)) (.cells o3 t3)).1
  rw [s1] at e2
  rw [s2, s1] at e3
  have b1 : Below w.heap.size w (w.alloc (.cells o1 t1)) := (Below.refl _ _).alloc (Nat.le_refl _) _
  have b2 : Below (w.heap.size + 1) (w.alloc (.cells o1 t1)) ((w.alloc (.cells o1 t1)).alloc (.cells o2 t2)) := (Below.refl _ _).alloc (by omega) _
  have b3 : Below (w.heap.size + 1 + 1) ((w.alloc (.cells o1 t1)).alloc (.cells o2 t2)) (((w.alloc (.cells o1 t1)).alloc (.cells o2 t2)).alloc (.cells o3 t3)) := (Below.refl _ _).alloc (by omega) _
  exact ⟨(b3.block _ (by omega)).trans ((b2.block _ (by omega)).trans e1), (b3.block _ (by omega)).trans e2, e3, (b1.trans ((b2.mono (by omega)).trans (b3.mono (by omega)))).drew⟩
/-- A row of numbers whose first k are filled. -/
def FillAt (W : World) (g n k : Nat) : Prop := ∃ M : Array Value, W.heap[g]? = some (.cells M 3 (0, 0)) ∧ M.size = n ∧ ∀ j, j < k → M[j]? = some (.int .i64 (-1))
/-- The finder while his numbers are filled. -/
structure Fl (w : World) (b gi go g n cap : Nat) (W : World) (k : Nat) : Prop where
  bel : Below w.heap.size w W
  fin : W.heap[b]? = some (.cells #[.slice (some ⟨g, 0, none⟩) n cap, .slice none 0 0, .slice (some ⟨gi, 0, none⟩) n n, .slice (some ⟨go, 0, none⟩) n n] 68 (0, 0))
  inn : FillAt W gi n k
  own : FillAt W go n k
theorem FillAt.full {W : World} {g n : Nat} (h : FillAt W g n n) : W.heap[g]? = some (.cells (intsV (List.replicate n (-1))) 3 (0, 0)) := by
  obtain ⟨M, h1, h2, h3⟩ := h
  rw [h1]
  have : M = intsV (List.replicate n (-1)) := by
    apply Array.ext_getElem?
    intro i
    by_cases hi : i < n
    · rw [h3 i hi]; simp [hi]
    · rw [Array.getElem?_eq_none (by omega), Array.getElem?_eq_none (by simp; omega)]
  rw [this]
theorem FillAt.set {W : World} {g n k : Nat} (h : FillAt W g n k) (hk : k < n) : FillAt (W.setCell ⟨g, k, none⟩ (.int .i64 (-1))) g n (k + 1) := by
  obtain ⟨M, h1, h2, h3⟩ := h
  refine ⟨M.setIfInBounds k (.int .i64 (-1)), by simp [World.setCell, Array.getElem?_modify, h1], by simpa using h2, fun j hj => ?_⟩
  by_cases e : k = j
  · subst e; exact Array.getElem?_setIfInBounds_self_of_lt (by omega)
  · rw [Array.getElem?_setIfInBounds_ne e]; exact h3 j (by omega)
theorem FillAt.keep {W W' : World} {g n k : Nat} (h : FillAt W g n k) (hb : W'.heap[g]? = W.heap[g]?) : FillAt W' g n k := by
  obtain ⟨M, h1, h2⟩ := h
  exact ⟨M, hb.trans h1, h2⟩
theorem FillAt.cell {W : World} {g n k : Nat} (h : FillAt W g n k) (hk : k < n) : (∃ u, W.cell? ⟨g, k, none⟩ = some u) ∧ W.frozen? ⟨g, k, none⟩ = false ∧ g < W.heap.size := by
  obtain ⟨M, h1, h2, _⟩ := h
  refine ⟨⟨M[k], ?_⟩, by simp [World.frozen?, h1], lt_of_some h1⟩
  unfold World.cell?
  rw [h1]
  exact Array.getElem?_eq_getElem (by show k < M.size; omega)
theorem Fl.step {w W : World} {b gi go g n cap k : Nat} (h : Fl w b gi go g n cap W k) (hk : k < n) (hne : w.heap.size ≤ b ∧ w.heap.size ≤ gi ∧ w.heap.size ≤ go ∧ b ≠ gi ∧ b ≠ go ∧ gi ≠ go) :
    Fl w b gi go g n cap ((W.setCell ⟨gi, k, none⟩ (.int .i64 (-1))).setCell ⟨go, k, none⟩ (.int .i64 (-1))).drew (k + 1) ∧ Fl w b gi go g n cap ((W.setCell ⟨go, k, none⟩ (.int .i64 (-1))).setCell ⟨gi, k, none⟩ (.int .i64 (-1))).drew (k + 1) := by
  obtain ⟨n1, n2, n3, n4, n5, n6⟩ := hne
  refine ⟨⟨((h.bel.setCell n2 _).setCell n3 _).drew, ?_, ?_, ?_⟩, ⟨((h.bel.setCell n3 _).setCell n2 _).drew, ?_, ?_, ?_⟩⟩
  · exact (Below.heap_setCell _ _ _ _ n5).trans ((Below.heap_setCell _ _ _ _ n4).trans h.fin)
  · exact (h.inn.set hk).keep (Below.heap_setCell _ _ _ _ n6)
  · exact (h.own.keep (Below.heap_setCell _ _ _ _ (Ne.symm n6))).set hk
  · exact (Below.heap_setCell _ _ _ _ n4).trans ((Below.heap_setCell _ _ _ _ n5).trans h.fin)
  · exact (h.inn.keep (Below.heap_setCell _ _ _ _ n6)).set hk
  · exact (h.own.set hk).keep (Below.heap_setCell _ _ _ _ (Ne.symm n6))
set_option maxRecDepth 100000 in
set_option maxHeartbeats 4000000 in
theorem found_core (w : World) (g n cap : Nat) (hn : n ≤ 1000000) (hcap : n ≤ cap) (J : Nat → Nat → Nat → Nat → World → Prop)
    (HS : Hid (∀ b gi go W, Fl w b gi go g n cap W n → w.heap.size ≤ b ∧ w.heap.size ≤ gi ∧ w.heap.size ≤ go ∧ b ≠ gi ∧ b ≠ go ∧ gi ≠ go → J n b gi go W))
    (HJ : Hid (∀ k b gi go W, k < n → J (k + 1) b gi go W → Calls Try.prog 42 #[.pointer (some ⟨b, 0, none⟩), .int .i64 (k : Int)] W fun e w' => e = .returned (.tuple #[]) ∧ J k b gi go w')) :
    Calls Try.prog 24 #[.slice (some ⟨g, 0, none⟩) n cap] w fun e w' => ∃ b gi go, e = .returned (.pointer (some ⟨b, 0, none⟩)) ∧ J 0 b gi go w' := by
  obtain ⟨M, hM, _, hmk⟩ := make_ints n hn
  go_enter Try.func24, Try.ntmps24
  go_wp2_with fail
  go_region
  · obtain ⟨W0, HW0, hx0, hx1, hx2, hbw⟩ : ∃ W0, W0 = (((w.alloc (.cells M 3)).alloc (.cells M 3)).alloc (.cells #[.slice (some ⟨g, 0, none⟩) n cap, .slice none 0 0, .slice (some ⟨w.heap.size, 0, none⟩) n n, .slice (some ⟨w.heap.size + 1, 0, none⟩) n n] 68)).drew ∧ W0.heap[w.heap.size]? = some (.cells M 3 (0, 0)) ∧ W0.heap[w.heap.size + 1]? = some (.cells M 3 (0, 0)) ∧ W0.heap[w.heap.size + 1 + 1]? = some (.cells #[.slice (some ⟨g, 0, none⟩) n cap, .slice none 0 0, .slice (some ⟨w.heap.size, 0, none⟩) n n, .slice (some ⟨w.heap.size + 1, 0, none⟩) n n] 68 (0, 0)) ∧ Below w.heap.size w W0 := ⟨_, rfl, (three w _ _ _).1, (three w _ _ _).2.1, (three w _ _ _).2.2.1, (three w _ _ _).2.2.2⟩
    rw [← HW0]
    clear HW0
    have HT : Hid (Fl w (w.heap.size + 1 + 1) (w.heap.size) (w.heap.size + 1) g n cap W0 0) := (show Fl _ _ _ _ _ _ _ _ _ from ⟨hbw, hx2, ⟨M, hx0, hM, fun j hj => by omega⟩, ⟨M, hx1, hM, fun j hj => by omega⟩⟩)
    have HNE : Hid (w.heap.size ≤ w.heap.size + 1 + 1 ∧ w.heap.size ≤ w.heap.size ∧ w.heap.size ≤ w.heap.size + 1 ∧ w.heap.size + 1 + 1 ≠ w.heap.size ∧ w.heap.size + 1 + 1 ≠ w.heap.size + 1 ∧ w.heap.size ≠ w.heap.size + 1) := (show _ ∧ _ from by omega)
    clear hx0 hx1 hx2 hbw hmk
    generalize hbb : w.heap.size + 1 + 1 = b at *
    generalize hg1 : w.heap.size + 1 = g1 at *
    go_wp2_with fail
    go_loopw [17] (fun i W => ∃ k : Nat, k ≤ n ∧ i = .int .i64 (k : Int) ∧ Hid (Fl w b w.heap.size g1 g n cap W k)) (fun i _ => n - (L.intOf i).toNat)
    case atStart => exact ⟨0, by omega, rfl, HT⟩
    case round =>
      obtain ⟨k, hk, rfl, HK⟩ := hrel
      clear HT
      by_cases hkn : k < n
      · have hkn' : (k : Int) < n := by omega
        have hk0 : (0 : Int) ≤ k := by omega
        obtain ⟨⟨u1, ik⟩, fi, hil⟩ := HK.out.inn.cell hkn
        obtain ⟨⟨u2, ok⟩, fo, hol⟩ := HK.out.own.cell hkn
        have hfin := HK.out.fin
        have c2 : wr.cell? ⟨b, 2, none⟩ = some (.slice (some ⟨w.heap.size, 0, none⟩) n n) := by simp [World.cell?, hfin]
        have c3 : wr.cell? ⟨b, 3, none⟩ = some (.slice (some ⟨g1, 0, none⟩) n n) := by simp [World.cell?, hfin]
        have hbl := lt_of_some hfin
        have hne1 := HNE.out.2.2.2.2.2
        have hst := HK.out.step hkn HNE.out
        have HA : Hid (_) := hst.1
        have HB : Hid (_) := hst.2
        clear hfin hst HK hbb hg1
        go_wp2_with fail
        go_region
        all_goals go_wp2_with fail
        all_goals go_roundw
        all_goals first | exact ⟨k + 1, by omega, by go_num, HA⟩ | exact ⟨k + 1, by omega, by go_num, HB⟩ | (simp [L.intOf] <;> omega)
      · have hkn' : ¬ (k : Int) < n := by omega
        have : k = n := by omega
        subst this
        have HJ0 : Hid (J k b w.heap.size g1 wr) := HS.out _ _ _ _ HK.out HNE.out
        clear HK HNE HS hbb hg1
        go_wp2_with fail
        go_loopw [5] (fun i W => ∃ (j : Nat) (z : Int), j ≤ k ∧ i = .int .i64 z ∧ z = (j : Int) - 1 ∧ Hid (J j b w.heap.size g1 W)) (fun i _ => (L.intOf i + 1).toNat)
        case atStart => exact ⟨k, (k : Int) - 1, by omega, by go_num, rfl, HJ0⟩
        case round =>
          obtain ⟨j, z, hj, rfl, hz, HJj⟩ := hrel
          clear HJ0
          by_cases hj0 : j = 0
          · subst hj0
            have : z = -1 := by omega
            subst this
            clear hz
            go_wp2_with fail
            go_ret
            exact ⟨_, _, _, rfl, HJj.out⟩
          · obtain ⟨j, rfl⟩ : ∃ j', j = j' + 1 := ⟨j - 1, by omega⟩
            obtain rfl : z = (j : Int) := by omega
            clear hz
            have hz0 : (0 : Int) ≤ j := by omega
            go_wp2_with fail
            refine Calls.mono (HJ.out j _ _ _ _ (by omega) HJj.out) ?_
            rintro e w5 ⟨rfl, hq⟩
            have HQ : Hid (J j b w.heap.size g1 w5) := hq
            clear hq HJj
            go_wp2_with fail
            go_roundw
            case rel => exact ⟨j, (j : Int) - 1, by omega, by go_num, rfl, HQ⟩
            case measure => simp [L.intOf] <;> omega
  · obtain ⟨W0, HW0, hx0, hx1, hx2, hbw⟩ : ∃ W0, W0 = (((w.alloc (.cells M 3)).alloc (.cells M 3)).alloc (.cells #[.slice (some ⟨g, 0, none⟩) n cap, .slice none 0 0, .slice (some ⟨w.heap.size + 1, 0, none⟩) n n, .slice (some ⟨w.heap.size, 0, none⟩) n n] 68)).drew ∧ W0.heap[w.heap.size]? = some (.cells M 3 (0, 0)) ∧ W0.heap[w.heap.size + 1]? = some (.cells M 3 (0, 0)) ∧ W0.heap[w.heap.size + 1 + 1]? = some (.cells #[.slice (some ⟨g, 0, none⟩) n cap, .slice none 0 0, .slice (some ⟨w.heap.size + 1, 0, none⟩) n n, .slice (some ⟨w.heap.size, 0, none⟩) n n] 68 (0, 0)) ∧ Below w.heap.size w W0 := ⟨_, rfl, (three w _ _ _).1, (three w _ _ _).2.1, (three w _ _ _).2.2.1, (three w _ _ _).2.2.2⟩
    rw [← HW0]
    clear HW0
    have HT : Hid (Fl w (w.heap.size + 1 + 1) (w.heap.size + 1) (w.heap.size) g n cap W0 0) := (show Fl _ _ _ _ _ _ _ _ _ from ⟨hbw, hx2, ⟨M, hx1, hM, fun j hj => by omega⟩, ⟨M, hx0, hM, fun j hj => by omega⟩⟩)
    have HNE : Hid (w.heap.size ≤ w.heap.size + 1 + 1 ∧ w.heap.size ≤ w.heap.size + 1 ∧ w.heap.size ≤ w.heap.size ∧ w.heap.size + 1 + 1 ≠ w.heap.size + 1 ∧ w.heap.size + 1 + 1 ≠ w.heap.size ∧ w.heap.size + 1 ≠ w.heap.size) := (show _ ∧ _ from by omega)
    clear hx0 hx1 hx2 hbw hmk
    generalize hbb : w.heap.size + 1 + 1 = b at *
    generalize hg1 : w.heap.size + 1 = g1 at *
    go_wp2_with fail
    go_loopw [17] (fun i W => ∃ k : Nat, k ≤ n ∧ i = .int .i64 (k : Int) ∧ Hid (Fl w b g1 w.heap.size g n cap W k)) (fun i _ => n - (L.intOf i).toNat)
    case atStart => exact ⟨0, by omega, rfl, HT⟩
    case round =>
      obtain ⟨k, hk, rfl, HK⟩ := hrel
      clear HT
      by_cases hkn : k < n
      · have hkn' : (k : Int) < n := by omega
        have hk0 : (0 : Int) ≤ k := by omega
        obtain ⟨⟨u1, ik⟩, fi, hil⟩ := HK.out.inn.cell hkn
        obtain ⟨⟨u2, ok⟩, fo, hol⟩ := HK.out.own.cell hkn
        have hfin := HK.out.fin
        have c2 : wr.cell? ⟨b, 2, none⟩ = some (.slice (some ⟨g1, 0, none⟩) n n) := by simp [World.cell?, hfin]
        have c3 : wr.cell? ⟨b, 3, none⟩ = some (.slice (some ⟨w.heap.size, 0, none⟩) n n) := by simp [World.cell?, hfin]
        have hbl := lt_of_some hfin
        have hne1 := HNE.out.2.2.2.2.2
        have hst := HK.out.step hkn HNE.out
        have HA : Hid (_) := hst.1
        have HB : Hid (_) := hst.2
        clear hfin hst HK hbb hg1
        go_wp2_with fail
        go_region
        all_goals go_wp2_with fail
        all_goals go_roundw
        all_goals first | exact ⟨k + 1, by omega, by go_num, HA⟩ | exact ⟨k + 1, by omega, by go_num, HB⟩ | (simp [L.intOf] <;> omega)
      · have hkn' : ¬ (k : Int) < n := by omega
        have : k = n := by omega
        subst this
        have HJ0 : Hid (J k b g1 w.heap.size wr) := HS.out _ _ _ _ HK.out HNE.out
        clear HK HNE HS hbb hg1
        go_wp2_with fail
        go_loopw [5] (fun i W => ∃ (j : Nat) (z : Int), j ≤ k ∧ i = .int .i64 z ∧ z = (j : Int) - 1 ∧ Hid (J j b g1 w.heap.size W)) (fun i _ => (L.intOf i + 1).toNat)
        case atStart => exact ⟨k, (k : Int) - 1, by omega, by go_num, rfl, HJ0⟩
        case round =>
          obtain ⟨j, z, hj, rfl, hz, HJj⟩ := hrel
          clear HJ0
          by_cases hj0 : j = 0
          · subst hj0
            have : z = -1 := by omega
            subst this
            clear hz
            go_wp2_with fail
            go_ret
            exact ⟨_, _, _, rfl, HJj.out⟩
          · obtain ⟨j, rfl⟩ : ∃ j', j = j' + 1 := ⟨j - 1, by omega⟩
            obtain rfl : z = (j : Int) := by omega
            clear hz
            have hz0 : (0 : Int) ≤ j := by omega
            go_wp2_with fail
            refine Calls.mono (HJ.out j _ _ _ _ (by omega) HJj.out) ?_
            rintro e w5 ⟨rfl, hq⟩
            have HQ : Hid (J j b g1 w.heap.size w5) := hq
            clear hq HJj
            go_wp2_with fail
            go_roundw
            case rel => exact ⟨j, (j : Int) - 1, by omega, by go_num, rfl, HQ⟩
            case measure => simp [L.intOf] <;> omega
/-- What found finds. -/
theorem found_any {w : World} {l : List Ps.Nd} {nv : Value} (hf : Fit l) (ht : Told w nv l) :
    Calls Try.prog 24 #[nv] w fun e w' => ∃ b gi go sv mb, e = .returned (.pointer (some ⟨b, 0, none⟩)) ∧ FS w w' b gi go sv mb l nv (2 * l.length) (Sc.found l) := by
  obtain ⟨g, cap, an, ak, cn, ck, rfl, hg, hc, _⟩ := ht.node 0 (by cases l with | nil => exact absurd rfl hf.ne | cons => simp)
  refine (found_core w g l.length cap hf.few hc (fun k b gi go W => ∃ sv mb s, FS w W b gi go sv mb l (.slice (some ⟨g, 0, none⟩) l.length cap) (2 * (l.length - k)) s ∧ Sc.down l k s = Sc.found l)
    (fun b gi go W hfl hne => ?_) (fun k b gi go W hk hj => ?_)).mono ?_
  · refine ⟨.slice none 0 0, [], ⟨[], List.replicate l.length (-1), List.replicate l.length (-1)⟩, ?_, rfl⟩
    exact (FS.start hf ht hfl.bel hfl.fin hfl.inn.full hfl.own.full ⟨hne.1, hne.2.1, hne.2.2.1⟩ hne.2.2.2).mono (by omega)
  · obtain ⟨sv, mb, s, hs, hd⟩ := hj
    have hfew := hf.few
    refine (enter_any hs (by omega) k hk).mono ?_
    rintro e w' ⟨rfl, sv', mb', hs'⟩
    exact ⟨rfl, sv', mb', _, hs'.mono (by omega), hd⟩
  · rintro e w' ⟨b, gi, go, rfl, sv, mb, s, hs, hd⟩
    have hd : s = Sc.found l := hd
    subst hd
    exact ⟨b, gi, go, sv, mb, rfl, hs.mono (by omega)⟩
end Go.Proofs.Ytkaacmghgobhmaa.Rd
end
section
namespace Go.Proofs.Ytkaacmghgobhmaa.Rp
open Lx Ps
set_option linter.unusedVariables false
/-- Kinds of e's; of statements; of statements that make no names. -/
def eK (k : Nat) : Bool := decide (1 ≤ k) && decide (k ≤ 20)
def sK (k : Nat) : Bool := decide (21 ≤ k) && decide (k ≤ 32)
def tK (k : Nat) : Bool := decide (24 ≤ k) && decide (k ≤ 32)
/-- May a node have kids of these kinds? -/
def okB (n : Nd) (ks : List Nat) : Bool :=
  if n.k = 8 then ks.all eK && decide (ks.length = n.names.length)
  else if n.k = 9 then ks.all eK
  else if n.k = 10 ∨ n.k = 25 ∨ n.k = 33 then ks.all sK
  else if n.k = 11 ∨ n.k = 14 ∨ n.k = 20 ∨ n.k = 21 ∨ n.k = 22 ∨ n.k = 24 ∨ n.k = 31 then ks.all eK && decide (ks.length = 1)
  else if n.k = 12 ∨ n.k = 15 ∨ n.k = 16 ∨ n.k = 17 ∨ n.k = 19 then ks.all eK && decide (ks.length = 2)
  else if n.k = 13 then ks.all eK && decide (1 ≤ ks.length)
  else if n.k = 18 then ks.all eK && decide (ks.length = 3)
  else if n.k = 23 then decide (ks = [10])
  else if n.k = 26 then (match ks with | [a, b] => eK a && tK b | [a, b, c] => eK a && tK b && tK c | _ => false)
  else if n.k = 27 then (match ks with | [a, b] => eK a && tK b | _ => false)
  else if n.k = 30 then ks.all eK && decide (ks.length ≤ 1)
  else if n.k = 32 then decide (ks = [25, 25])
  else decide (n.k ≤ 33) && decide (ks = [])
/-- The nodes, one by one, over those that are free: of each its number and its kind. -/
def scan : Nat → List Nd → List (Nat × Nat) → Option (List (Nat × Nat))
  | _, [], st => some st
  | b, n :: l, st =>
    if n.kids.length ≤ st.length ∧ (st.drop (st.length - n.kids.length)).map (·.1) = n.kids ∧ okB n ((st.drop (st.length - n.kids.length)).map (·.2)) = true
    then scan (b + 1) l (st.take (st.length - n.kids.length) ++ [(b, n.k)]) else none
theorem scan_app : ∀ (s t : List Nd) (b : Nat) (st : List (Nat × Nat)), scan b (s ++ t) st = (scan b s st).bind (scan (b + s.length) t)
  | [], t, b, st => by simp [scan]
  | n :: s, t, b, st => by
    rw [List.cons_append, scan, scan]
    split
    · rw [scan_app s t, List.length_cons, show b + 1 + s.length = b + (s.length + 1) by omega]
    · rfl
/-- Some nodes leave these free, over whatever was free ahead. -/
def Run (b : Nat) (seg : List Nd) (K : List (Nat × Nat)) : Prop := ∀ st, scan b seg st = some (st ++ K)
theorem Run.nil (b : Nat) : Run b [] [] := fun st => by simp [scan]
theorem Run.put {b : Nat} {seg : List Nd} {K kids : List (Nat × Nat)} {n : Nd} (h : Run b seg (K ++ kids)) (hk : n.kids = kids.map (·.1)) (ho : okB n (kids.map (·.2)) = true) : Run b (seg ++ [n]) (K ++ [(b + seg.length, n.k)]) := fun st => by
  have hl : n.kids.length = kids.length := by rw [hk, List.length_map]
  have e1 : (st ++ (K ++ kids)).length - n.kids.length = (st ++ K).length := by rw [hl]; simp; omega
  have e2 : st ++ (K ++ kids) = (st ++ K) ++ kids := by simp
  rw [scan_app, h st, Option.bind_some, scan, e1, e2, List.drop_left, List.take_left, if_pos ⟨by rw [hl]; simp; omega, hk.symm, ho⟩]
  simp [scan]
/-- From r0 on, while nothing is bad, these are free. -/
def Tr (r0 : Rt) (K : List (Nat × Nat)) (r : Rt) : Prop := r.bad = false → r0.bad = false ∧ ∃ seg, r.nodes = r0.nodes ++ seg ∧ Run r0.nodes.length seg K
/-- The nodes stay, and what is bad stays so. -/
def Nn (x y : Rt) : Prop := y.nodes = x.nodes ∧ (y.bad = false → x.bad = false)
theorem Nn.refl (x : Rt) : Nn x x := ⟨rfl, id⟩
theorem Nn.trans {x y z : Rt} (h : Nn x y) (k : Nn y z) : Nn x z := ⟨k.1.trans h.1, fun e => h.2 (k.2 e)⟩
theorem Tr.refl (r : Rt) : Tr r [] r := fun h => ⟨h, [], by simp, Run.nil _⟩
theorem Tr.bad {r0 r : Rt} {K : List (Nat × Nat)} (h : r.bad = true) : Tr r0 K r := fun e => by rw [h] at e; cases e
theorem Tr.nn {r0 x y : Rt} {K : List (Nat × Nat)} (h : Tr r0 K x) (k : Nn x y) : Tr r0 K y := fun e => by
  obtain ⟨h1, seg, h2, h3⟩ := h (k.2 e)
  exact ⟨h1, seg, k.1.trans h2, h3⟩
theorem Tr.put {r0 r : Rt} {K kids : List (Nat × Nat)} {n : Nd} (h : Tr r0 (K ++ kids) r) (hk : n.kids = kids.map (·.1)) (ho : r.bad = false → okB n (kids.map (·.2)) = true) : Tr r0 (K ++ [((Rp.put n r).1, n.k)]) (Rp.put n r).2 := fun e => by
  have e : r.bad = false := e
  obtain ⟨h1, seg, h2, h3⟩ := h e
  refine ⟨h1, seg ++ [n], by show r.nodes ++ [n] = _; rw [h2, List.append_assoc], ?_⟩
  have := h3.put hk (ho e)
  show Run _ _ (K ++ [(r.nodes.length, n.k)])
  rw [h2, List.length_append]
  exact this
theorem nn_move (x : Rt) : Nn x (move x) := by unfold move; split <;> exact ⟨rfl, id⟩
theorem nn_spoil (x : Rt) : Nn x (spoil x) := ⟨rfl, fun e => by cases e⟩
theorem nn_has {m : List UInt8} {x y : Rt} {b : Bool} (h : has m x = (b, y)) : Nn x y := by
  unfold has at h
  split at h
  · cases h; exact Nn.refl x
  · cases h; exact nn_move x
theorem nn_hs (m : List UInt8) (x : Rt) : Nn x (has m x).2 := nn_has (b := (has m x).1) rfl
theorem nn_must (m : List UInt8) (x : Rt) : Nn x (must m x) := by
  unfold must
  split
  · rename_i e; exact nn_has e
  · rename_i e; exact (nn_has e).trans (nn_spoil _)
theorem nn_rname (x : Rt) : Nn x (rname x).2 := by
  unfold rname
  split
  · exact nn_spoil x
  · exact nn_move x
theorem nn_ende (x : Rt) : Nn x (ende x) := by
  unfold ende
  split
  · rename_i e; exact nn_has e
  · rename_i e
    split
    · exact nn_has e
    · split
      · exact (nn_has e).trans (nn_spoil _)
      · exact nn_has e
/-- A function that leaves one more free, of such a kind. -/
def FnP (P : Nat → Bool) (f : Q Nat) : Prop := ∀ r0 K r, Tr r0 K r → ∃ kd, ((f r).2.bad = false → P kd = true) ∧ Tr r0 (K ++ [((f r).1, kd)]) (f r).2
theorem FnP.st {P : Nat → Bool} {f : Q Nat} (h : FnP P f) {r : Rt} (e : (f r).2.bad = false) : r.bad = false := by
  obtain ⟨kd, _, h2⟩ := h r [] r (Tr.refl r)
  exact (h2 e).1
theorem FnP.weak {P P' : Nat → Bool} {f : Q Nat} (h : FnP P f) (k : ∀ x, P x = true → P' x = true) : FnP P' f := fun r0 K r hr => by
  obtain ⟨kd, h1, h2⟩ := h r0 K r hr
  exact ⟨kd, fun e => k _ (h1 e), h2⟩
/-- A function that leaves some more free, of such kinds. -/
def FnL (P : Nat → Bool) (f : Q (List Nat)) : Prop := ∀ r0 K r, Tr r0 K r → ∃ ks : List (Nat × Nat), ks.map (·.1) = (f r).1 ∧ ((f r).2.bad = false → (ks.map (·.2)).all P = true) ∧ Tr r0 (K ++ ks) (f r).2
theorem FnL.st {P : Nat → Bool} {f : Q (List Nat)} (h : FnL P f) {r : Rt} (e : (f r).2.bad = false) : r.bad = false := by
  obtain ⟨ks, _, _, h2⟩ := h r [] r (Tr.refl r)
  exact (h2 e).1
/-- What is known of a level. -/
structure TrL (L : Lr) : Prop where
  e : FnP eK L.e
  u : FnP eK L.u
  p : FnP eK L.p
  s : FnP sK L.s
  t : ∀ r0 K r, Tr r0 K r → isS [108, 101, 116] r = false → isS [99, 111, 110, 115, 116] r = false → isS [102, 117, 110, 99, 116, 105, 111, 110] r = false → ∃ kd, ((L.s r).2.bad = false → tK kd = true) ∧ Tr r0 (K ++ [((L.s r).1, kd)]) (L.s r).2
section
variable {L : Lr}
theorem tr_listLoop (h : TrL L) (last : Bool) : ∀ (f : Nat) (l : List Nat) (r r0 : Rt) (K ks : List (Nat × Nat)), ks.map (·.1) = l → (r.bad = false → (ks.map (·.2)).all sK = true) → Tr r0 (K ++ ks) r →
    ∃ ks' : List (Nat × Nat), ks'.map (·.1) = (listLoop L last f l r).1 ∧ ((listLoop L last f l r).2.bad = false → (ks'.map (·.2)).all sK = true) ∧ Tr r0 (K ++ ks') (listLoop L last f l r).2
  | 0, l, r, r0, K, ks, h1, h2, h3 => ⟨ks, h1, h2, h3⟩
  | f + 1, l, r, r0, K, ks, h1, h2, h3 => by
    unfold listLoop
    split
    · exact ⟨ks, h1, h2, h3⟩
    · split
      · exact ⟨ks, h1, h2, h3⟩
      · obtain ⟨kd, h4, h5⟩ := h.s _ _ _ h3
        refine tr_listLoop h last f _ _ r0 K (ks ++ [((L.s r).1, kd)]) (by rw [List.map_append, h1]; rfl) (fun e => ?_) (by rw [← List.append_assoc]; exact h5)
        rw [List.map_append, List.all_append, h2 (h.s.st e)]
        simpa using h4 e
theorem tr_list (h : TrL L) (last : Bool) : FnL sK (list L last) := fun r0 K r hr => tr_listLoop h last _ [] r r0 K [] rfl (fun _ => rfl) (by rw [List.append_nil]; exact hr)
theorem tr_body (h : TrL L) : FnL sK (body L) := fun r0 K r hr => by
  obtain ⟨ks, h1, h2, h3⟩ := tr_list h false r0 K _ (hr.nn (nn_must [123] r))
  exact ⟨ks, h1, fun e => h2 ((nn_must [125] _).2 e), h3.nn (nn_must [125] _)⟩
theorem tr_block (h : TrL L) : ∀ r0 K r, Tr r0 K r → Tr r0 (K ++ [((block L r).1, 25)]) (block L r).2 := fun r0 K r hr => by
  obtain ⟨ks, h1, h2, h3⟩ := tr_body h r0 K r hr
  exact h3.put (n := { k := 25, a := (nx r).a, kids := (body L r).1 }) h1.symm (fun e => by unfold okB; simpa using h2 e)
theorem st_block (h : TrL L) {r : Rt} (e : (block L r).2.bad = false) : r.bad = false := (tr_block h r [] r (Tr.refl r) e).1
theorem tr_inner (h : TrL L) : FnP tK (inner L) := fun r0 K r hr => by
  unfold inner
  by_cases c : (isS [108, 101, 116] r || isS [99, 111, 110, 115, 116] r || isS [102, 117, 110, 99, 116, 105, 111, 110] r) = true
  · simp only [if_pos c]
    rw [if_pos (show (spoil r).bad = true from rfl)]
    exact ⟨24, fun e => (nomatch e), Tr.bad rfl⟩
  · simp only [if_neg c]
    split
    · rename_i b
      refine ⟨24, fun (e : r.bad = false) => ?_, Tr.bad b⟩
      rw [b] at e; cases e
    · simp only [Bool.or_eq_true, not_or, Bool.not_eq_true] at c
      exact h.t r0 K r hr c.1.1 c.1.2 c.2
theorem nn_namesLoop : ∀ (f : Nat) (l : List (List UInt8)) (r : Rt), Nn r (namesLoop f l r).2
  | 0, l, r => Nn.refl r
  | f + 1, l, r => by
    unfold namesLoop
    split
    · rename_i e; exact nn_has e
    · rename_i e; exact (nn_has e).trans ((nn_rname _).trans (nn_namesLoop f _ _))
theorem tr_func (h : TrL L) (named : Bool) : ∀ r0 K r, Tr r0 K r → Tr r0 (K ++ [((func L named r).1, 10)]) (func L named r).2 := fun r0 K r hr => by
  unfold func
  simp only
  have g := hr.nn (nn_must [102, 117, 110, 99, 116, 105, 111, 110] r)
  have g1 := g.nn (nn_hs [42] (must [102, 117, 110, 99, 116, 105, 111, 110] r))
  generalize has [42] (must [102, 117, 110, 99, 116, 105, 111, 110] r) = G at *
  have g2 : Tr r0 K (if (named || decide ((nx G.2).k = 3)) = true then rname G.2 else ([], G.2)).2 := by
    split
    · exact g1.nn (nn_rname _)
    · exact g1
  generalize (if (named || decide ((nx G.2).k = 3)) = true then rname G.2 else ([], G.2)) = N at *
  have g3 := g2.nn (nn_must [40] N.2)
  generalize must [40] N.2 = M at *
  have g4 : Tr r0 K (if isS [41] M = true then ([], M) else namesLoop (rname M).2.toks.length [(rname M).1] (rname M).2).2 := by
    split
    · exact g3
    · exact (g3.nn (nn_rname _)).nn (nn_namesLoop _ _ _)
  generalize (if isS [41] M = true then ([], M) else namesLoop (rname M).2.toks.length [(rname M).1] (rname M).2) = P at *
  obtain ⟨ks, h1, h2, h3⟩ := tr_body h r0 K _ (g4.nn (nn_must [41] P.2))
  exact h3.put (n := { k := 10, n := if G.1 = true then 1 else 0, t := N.1, names := P.1, kids := (body L (must [41] P.2)).1, a := (nx r).a }) h1.symm (fun e => by unfold okB; simpa using h2 e)
theorem tr_commasLoop (h : TrL L) : ∀ (f : Nat) (l : List Nat) (r r0 : Rt) (K ks : List (Nat × Nat)), ks.map (·.1) = l → (r.bad = false → (ks.map (·.2)).all eK = true) → Tr r0 (K ++ ks) r →
    ∃ ks' : List (Nat × Nat), ks'.map (·.1) = (commasLoop L f l r).1 ∧ ((commasLoop L f l r).2.bad = false → (ks'.map (·.2)).all eK = true) ∧ Tr r0 (K ++ ks') (commasLoop L f l r).2
  | 0, l, r, r0, K, ks, h1, h2, h3 => ⟨ks, h1, h2, h3⟩
  | f + 1, l, r, r0, K, ks, h1, h2, h3 => by
    unfold commasLoop
    split
    · rename_i e; exact ⟨ks, h1, fun b => h2 ((nn_has e).2 b), h3.nn (nn_has e)⟩
    · rename_i q e
      obtain ⟨kd, h4, h5⟩ := h.e _ _ _ (h3.nn (nn_has e))
      refine tr_commasLoop h f _ _ r0 K (ks ++ [((L.e q).1, kd)]) (by rw [List.map_append, h1]; rfl) (fun b => ?_) (by rw [← List.append_assoc]; exact h5)
      rw [List.map_append, List.all_append, h2 ((nn_has e).2 (h.e.st b))]
      simpa using h4 b
theorem tr_commas (h : TrL L) (m : List UInt8) : FnL eK (commas L m) := fun r0 K r hr => by
  unfold commas
  split
  · rename_i e; exact ⟨[], rfl, fun _ => rfl, by rw [List.append_nil]; exact hr.nn (nn_has e)⟩
  · rename_i q e
    obtain ⟨kd, h4, h5⟩ := h.e _ _ _ (hr.nn (nn_has e))
    obtain ⟨ks, h6, h7, h8⟩ := tr_commasLoop h (L.e q).2.toks.length [(L.e q).1] (L.e q).2 r0 K [((L.e q).1, kd)] rfl (fun b => by simpa using h4 b) h5
    exact ⟨ks, h6, fun b => h7 ((nn_must m _).2 b), h8.nn (nn_must m _)⟩
theorem sig_k (s : List UInt8) : (sigNode s).k = 15 ∨ (sigNode s).k = 16 ∨ (sigNode s).k = 17 := by
  unfold sigNode; split
  · exact .inr (.inr rfl)
  · split
    · exact .inr (.inl rfl)
    · exact .inl rfl
theorem okB_two {n : Nd} {a b : Nat} (hn : n.k = 15 ∨ n.k = 16 ∨ n.k = 17) (ha : eK a = true) (hb : eK b = true) : okB n [a, b] = true := by
  unfold okB
  rcases hn with e | e | e <;> simp [e, ha, hb]
theorem eK_two {k : Nat} (hn : k = 15 ∨ k = 16 ∨ k = 17) : eK k = true := by rcases hn with e | e | e <;> subst e <;> rfl
theorem tr_binLoop (row : List (List UInt8)) {sub : Q Nat} (hs : FnP eK sub) : ∀ (f k : Nat) (r r0 : Rt) (K : List (Nat × Nat)) (kd : Nat), (r.bad = false → eK kd = true) → Tr r0 (K ++ [(k, kd)]) r →
    ∃ kd', ((binLoop row sub f k r).2.bad = false → eK kd' = true) ∧ Tr r0 (K ++ [((binLoop row sub f k r).1, kd')]) (binLoop row sub f k r).2
  | 0, k, r, r0, K, kd, h1, h2 => ⟨kd, h1, h2⟩
  | f + 1, k, r, r0, K, kd, h1, h2 => by
    unfold binLoop
    split
    · obtain ⟨kb, h3, h4⟩ := hs _ _ _ (h2.nn (nn_move r))
      have hk := sig_k (nx r).t
      have h5 := Tr.put (K := K) (kids := [(k, kd), ((sub (move r)).1, kb)]) (n := { sigNode (nx r).t with kids := [k, (sub (move r)).1], a := ((sub (move r)).2.nodes.getD k {}).a }) (by simpa using h4) rfl (fun e => okB_two hk (h1 ((nn_move r).2 (hs.st e))) (h3 e))
      exact tr_binLoop row hs f _ _ r0 K _ (fun _ => eK_two hk) h5
    · exact ⟨kd, h1, h2⟩
theorem tr_bin (h : TrL L) : ∀ row, FnP eK (bin L row)
  | [] => h.u
  | row :: rest => fun r0 K r hr => by
    have ih := tr_bin h rest
    obtain ⟨kd, h1, h2⟩ := ih r0 K r hr
    exact tr_binLoop row ih _ _ _ r0 K kd h1 h2
theorem tr_cond (h : TrL L) : FnP eK (cond L) := fun r0 K r hr => by
  obtain ⟨kd, h1, h2⟩ := tr_bin h rrows r0 K r hr
  have hst := (tr_bin h rrows).st (r := r)
  unfold cond
  simp only
  generalize bin L rrows r = X at *
  split
  · exact ⟨kd, h1, h2⟩
  · split
    · rename_i e; exact ⟨kd, fun b => h1 ((nn_has e).2 b), h2.nn (nn_has e)⟩
    · rename_i q e
      obtain ⟨ka, h3, h4⟩ := h.e _ _ _ (h2.nn (nn_has e))
      have hsa := h.e.st (r := q)
      generalize L.e q = A at *
      have h5 := h4.nn (nn_must [58] A.2)
      have hm := (nn_must [58] A.2).2
      generalize must [58] A.2 = M at *
      split
      · rename_i b; exact ⟨1, fun _ => rfl, Tr.bad b⟩
      · obtain ⟨kb, h6, h7⟩ := h.e _ _ _ h5
        have hsb := h.e.st (r := M)
        generalize L.e M = B at *
        refine ⟨18, fun _ => rfl, Tr.put (kids := [(X.1, kd), (A.1, ka), (B.1, kb)]) (by simpa using h7) rfl (fun e2 => ?_)⟩
        have b1 := hsb e2
        have b2 := hm b1
        have b3 := (nn_has e).2 (hsa b2)
        simp [okB, h1 b3, h3 b2, h6 e2]
theorem tr_assign (h : TrL L) : FnP eK (assign L) := fun r0 K r hr => by
  unfold assign
  simp only
  split
  · rename_i q e
    obtain ⟨kd, h1, h2⟩ := h.e _ _ _ (hr.nn (nn_has e))
    exact ⟨20, fun _ => rfl, Tr.put (kids := [((L.e q).1, kd)]) h2 rfl (fun b => by simp [okB, h1 b])⟩
  · obtain ⟨kd, h1, h2⟩ := tr_cond h r0 K _ (hr.nn (nn_has (by assumption)))
    rename_i q e
    generalize cond L q = X at *
    split
    · rename_i b; exact ⟨1, fun _ => rfl, Tr.bad b⟩
    · split
      · split
        · rename_i e2; exact ⟨kd, fun b => h1 ((nn_has e2).2 b), h2.nn (nn_has e2)⟩
        · rename_i q2 e2
          obtain ⟨kv, h3, h4⟩ := h.e _ _ _ (h2.nn (nn_has e2))
          have hsv := h.e.st (r := q2)
          generalize L.e q2 = V at *
          exact ⟨19, fun _ => rfl, Tr.put (kids := [(X.1, kd), (V.1, kv)]) (by simpa using h4) rfl (fun b => by simp [okB, h3 b, h1 ((nn_has e2).2 (hsv b))])⟩
      · exact ⟨kd, h1, h2⟩
theorem tr_unary (h : TrL L) : FnP eK (unary L) := fun r0 K r hr => by
  unfold unary
  split
  · obtain ⟨kd, h1, h2⟩ := h.u _ _ _ (hr.nn (nn_move r))
    exact ⟨14, fun _ => rfl, Tr.put (kids := [((L.u (move r)).1, kd)]) h2 rfl (fun b => by simp [okB, h1 b])⟩
  · exact h.p r0 K r hr
theorem tr_objLoop (h : TrL L) : ∀ (f : Nat) (N : List (List UInt8)) (l : List Nat) (r r0 : Rt) (K ks : List (Nat × Nat)), ks.map (·.1) = l → N.length = l.length → (r.bad = false → (ks.map (·.2)).all eK = true) → Tr r0 (K ++ ks) r →
    ((objLoop L f N l r).2.bad = false → r.bad = false) ∧ match objLoop L f N l r with
    | (none, r') => r'.bad = true
    | (some (N', l'), r') => ∃ ks' : List (Nat × Nat), ks'.map (·.1) = l' ∧ N'.length = l'.length ∧ (r'.bad = false → (ks'.map (·.2)).all eK = true) ∧ Tr r0 (K ++ ks') r'
  | 0, N, l, r, r0, K, ks, h1, h0, h2, h3 => ⟨id, ks, h1, h0, h2, h3⟩
  | f + 1, N, l, r, r0, K, ks, h1, h0, h2, h3 => by
    unfold objLoop
    split
    · simp only
      have hq : Nn r (if (nx r).k = 3 ∨ (nx r).k = 4 ∨ (nx r).k = 2 then r else spoil r) := by
        split
        · exact Nn.refl r
        · exact nn_spoil r
      generalize (if (nx r).k = 3 ∨ (nx r).k = 4 ∨ (nx r).k = 2 then r else spoil r) = q at *
      by_cases hb : q.bad = true
      · rw [if_pos hb]; exact ⟨hq.2, hb⟩
      · rw [if_neg hb]
        have hm : Nn r (must [58] (move q)) := hq.trans ((nn_move q).trans (nn_must _ _))
        obtain ⟨kd, h4, h5⟩ := h.e _ _ _ (h3.nn hm)
        have hse := h.e.st (r := must [58] (move q))
        generalize L.e (must [58] (move q)) = X at *
        have hall : X.2.bad = false → ((ks ++ [(X.1, kd)]).map (·.2)).all eK = true := fun b => by
          rw [List.map_append, List.all_append, h2 (hm.2 (hse b))]; simpa using h4 b
        have hl : (N ++ [(nx r).t]).length = (l ++ [X.1]).length := by simp [h0]
        split
        · rename_i q2 e2
          exact ⟨fun b => hm.2 (hse ((nn_has e2).2 b)), ks ++ [(X.1, kd)], by rw [List.map_append, h1]; rfl, hl, fun b => hall ((nn_has e2).2 b), by rw [← List.append_assoc]; exact h5.nn (nn_has e2)⟩
        · rename_i q2 e2
          have ih := tr_objLoop h f (N ++ [(nx r).t]) (l ++ [X.1]) q2 r0 K (ks ++ [(X.1, kd)]) (by rw [List.map_append, h1]; rfl) hl (fun b => hall ((nn_has e2).2 b)) (by rw [← List.append_assoc]; exact h5.nn (nn_has e2))
          exact ⟨fun b => hm.2 (hse ((nn_has e2).2 (ih.1 b))), ih.2⟩
    · exact ⟨id, ks, h1, h0, h2, h3⟩
theorem tr_object (h : TrL L) (a : Nat) : FnP eK (object L a) := fun r0 K r hr => by
  have ho := (tr_objLoop h (r.toks.length + 1) [] [] r r0 K [] rfl rfl (fun _ => rfl) (by rw [List.append_nil]; exact hr)).2
  unfold object
  split
  · rename_i q e
    rw [e] at ho
    exact ⟨1, fun _ => rfl, Tr.bad ho⟩
  · rename_i N l q e
    rw [e] at ho
    obtain ⟨ks, h1, h0, h2, h3⟩ := ho
    refine ⟨8, fun _ => rfl, Tr.put (kids := ks) (h3.nn (nn_must [125] q)) h1.symm (fun b => ?_)⟩
    have hl : (ks.map (·.2)).length = N.length := by rw [h0, ← h1]; simp
    simp only [okB, if_true, Bool.and_eq_true, decide_eq_true_eq]
    exact ⟨h2 ((nn_must [125] q).2 b), hl⟩
theorem simple_k (s : List UInt8) (h : 0 < (simple s).k) : (simple s).k = 4 ∨ (simple s).k = 5 ∨ (simple s).k = 6 ∨ (simple s).k = 7 := by
  unfold simple at h ⊢
  split
  · exact .inl rfl
  · split
    · exact .inl rfl
    · split
      · exact .inr (.inl rfl)
      · split
        · exact .inr (.inr (.inl rfl))
        · split
          · exact .inr (.inr (.inr rfl))
          · rename_i a b c d e; simp [a, b, c, d, e] at h
theorem simple_kids (s : List UInt8) : (simple s).kids = [] := by unfold simple; (repeat' split) <;> rfl
theorem tr_leaf {r0 r : Rt} {K : List (Nat × Nat)} {n : Nd} (h : Tr r0 K r) (hk : n.kids = []) (ho : okB n [] = true) (he : eK n.k = true) : ∃ kd, ((put n r).2.bad = false → eK kd = true) ∧ Tr r0 (K ++ [((put n r).1, kd)]) (put n r).2 :=
  ⟨n.k, fun _ => he, Tr.put (kids := []) (by rw [List.append_nil]; exact h) hk (fun _ => ho)⟩
theorem tr_first (h : TrL L) : FnP eK (first L) := fun r0 K r hr => by
  unfold first
  simp only
  split
  · exact tr_leaf (hr.nn (nn_move r)) rfl rfl rfl
  · split
    · exact tr_leaf (hr.nn (nn_move r)) rfl rfl rfl
    · split
      · exact tr_leaf (hr.nn (nn_move r)) rfl rfl rfl
      · split
        · rename_i hs
          have hk := simple_k _ hs.2
          refine tr_leaf (n := { simple (nx r).t with a := (nx r).a }) (hr.nn (nn_move r)) (simple_kids _) ?_ ?_
          · unfold okB
            rcases hk with e | e | e | e <;> simp [e]
          · show eK (simple (nx r).t).k = true
            rcases hk with e | e | e | e <;> rw [e] <;> rfl
        · split
          · exact ⟨10, fun _ => rfl, tr_func h false r0 K r hr⟩
          · split
            · rename_i q e
              obtain ⟨kd, h1, h2⟩ := h.e _ _ _ (hr.nn (nn_has e))
              exact ⟨kd, fun b => h1 ((nn_must [41] _).2 b), h2.nn (nn_must [41] _)⟩
            · rename_i q e
              have h0 := hr.nn (nn_has e)
              split
              · rename_i q2 e2
                obtain ⟨ks, h1, h2, h3⟩ := tr_commas h [93] r0 K _ (h0.nn (nn_has e2))
                exact ⟨9, fun _ => rfl, Tr.put (kids := ks) h3 h1.symm (fun b => by simpa [okB] using h2 b)⟩
              · rename_i q2 e2
                have h00 := h0.nn (nn_has e2)
                split
                · rename_i q3 e3
                  exact tr_object h _ r0 K _ (h00.nn (nn_has e3))
                · exact ⟨1, fun _ => rfl, Tr.bad rfl⟩
theorem tr_postLoop (h : TrL L) : ∀ (f k : Nat) (r r0 : Rt) (K : List (Nat × Nat)) (kd : Nat), (r.bad = false → eK kd = true) → Tr r0 (K ++ [(k, kd)]) r →
    ∃ kd', ((postLoop L f k r).2.bad = false → eK kd' = true) ∧ Tr r0 (K ++ [((postLoop L f k r).1, kd')]) (postLoop L f k r).2
  | 0, k, r, r0, K, kd, h1, h2 => ⟨kd, h1, h2⟩
  | f + 1, k, r, r0, K, kd, h1, h2 => by
    unfold postLoop
    split
    · exact ⟨kd, h1, h2⟩
    · simp only
      split
      · rename_i q e
        split
        · exact ⟨1, fun _ => rfl, Tr.bad rfl⟩
        · exact tr_postLoop h f _ _ r0 K 11 (fun _ => rfl) (Tr.put (n := { k := 11, t := (nx q).t, kids := [k], a := (r.nodes.getD k {}).a }) (kids := [(k, kd)]) ((h2.nn (nn_has e)).nn (nn_move q)) rfl (fun b => by simp [okB, h1 ((nn_has e).2 ((nn_move q).2 b))]))
      · rename_i q e
        have h3 := h2.nn (nn_has e)
        have hb := (nn_has e).2
        split
        · rename_i q2 e2
          obtain ⟨kb, h4, h5⟩ := h.e _ _ _ (h3.nn (nn_has e2))
          have hse := h.e.st (r := q2)
          generalize L.e q2 = B at *
          exact tr_postLoop h f _ _ r0 K 12 (fun _ => rfl) (Tr.put (n := { k := 12, kids := [k, B.1], a := (r.nodes.getD k {}).a }) (kids := [(k, kd), (B.1, kb)]) (by simpa using h5.nn (nn_must [93] B.2)) rfl (fun b => by
            have b1 := (nn_must [93] B.2).2 b
            simp [okB, h4 b1, h1 (hb ((nn_has e2).2 (hse b1)))]))
        · rename_i q2 e2
          have h4 := h3.nn (nn_has e2)
          have hb2 := (nn_has e2).2
          split
          · rename_i q3 e3
            obtain ⟨ks, h5, h6, h7⟩ := tr_commas h [41] r0 (K ++ [(k, kd)]) _ (h4.nn (nn_has e3))
            have hsc := (tr_commas h [41]).st (r := q3)
            generalize commas L [41] q3 = C at *
            refine tr_postLoop h f _ _ r0 K 13 (fun _ => rfl) (Tr.put (n := { k := 13, kids := k :: C.1, a := (r.nodes.getD k {}).a }) (kids := (k, kd) :: ks) (by simpa using h7) (by rw [List.map_cons, h5]) (fun b => ?_))
            have := h1 (hb (hb2 ((nn_has e3).2 (hsc b))))
            have h8 := h6 b
            simp only [okB, List.map_cons, List.all_cons, this, h8, List.length_cons]
            simp
          · rename_i q3 e3
            exact ⟨kd, fun b => h1 (hb (hb2 ((nn_has e3).2 b))), h4.nn (nn_has e3)⟩
theorem tr_post (h : TrL L) : FnP eK (post L) := fun r0 K r hr => by
  obtain ⟨kd, h1, h2⟩ := tr_first h r0 K r hr
  exact tr_postLoop h _ _ _ r0 K kd h1 h2
theorem okB_if2 {n : Nd} {a b : Nat} (hn : n.k = 26 ∨ n.k = 27) (ha : eK a = true) (hb : tK b = true) : okB n [a, b] = true := by
  unfold okB
  rcases hn with e | e <;> simp [e, ha, hb]
theorem okB_if3 {n : Nd} {a b c : Nat} (hn : n.k = 26) (ha : eK a = true) (hb : tK b = true) (hc : tK c = true) : okB n [a, b, c] = true := by
  unfold okB
  simp [hn, ha, hb, hc]
/-- What a statement is. -/
def Sk (r : Rt) (kd : Nat) : Prop := sK kd = true ∧ (isS [108, 101, 116] r = false → isS [99, 111, 110, 115, 116] r = false → isS [102, 117, 110, 99, 116, 105, 111, 110] r = false → tK kd = true)
theorem sk_of {r : Rt} {kd : Nat} (h : tK kd = true) : Sk r kd := ⟨by unfold tK at h; unfold sK; simp at h ⊢; omega, fun _ _ _ => h⟩
theorem tr_one (h : TrL L) (r0 : Rt) (K : List (Nat × Nat)) (r : Rt) (hr : Tr r0 K r) : ∃ kd, ((one L r).2.bad = false → Sk r kd) ∧ Tr r0 (K ++ [((one L r).1, kd)]) (one L r).2 := by
  unfold one
  simp only
  split
  · exact ⟨25, fun _ => sk_of rfl, tr_block h r0 K r hr⟩
  · split
    · rename_i hf
      refine ⟨23, fun _ => ⟨rfl, fun _ _ e => by rw [hf] at e; cases e⟩, Tr.put (kids := [((func L true r).1, 10)]) (tr_func h true r0 K r hr) rfl (fun _ => by simp [okB])⟩
    · rename_i hf
      split
      · rename_i q e
        obtain ⟨kc, h1, h2⟩ := h.e _ _ _ ((hr.nn (nn_has e)).nn (nn_must [40] q))
        have hs1 := h.e.st (r := must [40] q)
        generalize L.e (must [40] q) = C at *
        obtain ⟨ky, h3, h4⟩ := tr_inner h _ _ _ (h2.nn (nn_must [41] C.2))
        have hs2 := (tr_inner h).st (r := must [41] C.2)
        have hm := (nn_must [41] C.2).2
        generalize inner L (must [41] C.2) = Y at *
        split
        · rename_i q2 e2
          obtain ⟨kz, h5, h6⟩ := tr_inner h _ _ _ (h4.nn (nn_has e2))
          have hs3 := (tr_inner h).st (r := q2)
          generalize inner L q2 = Z at *
          exact ⟨26, fun _ => sk_of rfl, Tr.put (kids := [(C.1, kc), (Y.1, ky), (Z.1, kz)]) (by simpa using h6) rfl (fun b => okB_if3 rfl (h1 (hm (hs2 ((nn_has e2).2 (hs3 b))))) (h3 ((nn_has e2).2 (hs3 b))) (h5 b))⟩
        · rename_i q2 e2
          exact ⟨26, fun _ => sk_of rfl, Tr.put (kids := [(C.1, kc), (Y.1, ky)]) (by simpa using h4.nn (nn_has e2)) rfl (fun b => okB_if2 (.inl rfl) (h1 (hm (hs2 ((nn_has e2).2 b)))) (h3 ((nn_has e2).2 b)))⟩
      · rename_i q e
        cases has_no e
        split
        · rename_i q e
          obtain ⟨kc, h1, h2⟩ := h.e _ _ _ ((hr.nn (nn_has e)).nn (nn_must [40] q))
          generalize L.e (must [40] q) = C at *
          obtain ⟨ky, h3, h4⟩ := tr_inner h _ _ _ (h2.nn (nn_must [41] C.2))
          have hs2 := (tr_inner h).st (r := must [41] C.2)
          have hm := (nn_must [41] C.2).2
          generalize inner L (must [41] C.2) = Y at *
          exact ⟨27, fun _ => sk_of rfl, Tr.put (kids := [(C.1, kc), (Y.1, ky)]) (by simpa using h4) rfl (fun b => okB_if2 (.inr rfl) (h1 (hm (hs2 b))) (h3 b))⟩
        · rename_i q e
          cases has_no e
          split
          · rename_i q e
            exact ⟨28, fun _ => sk_of rfl, Tr.put (kids := []) (by rw [List.append_nil]; exact (hr.nn (nn_has e)).nn (nn_ende q)) rfl (fun _ => by simp [okB])⟩
          · rename_i q e
            cases has_no e
            split
            · rename_i q e
              exact ⟨29, fun _ => sk_of rfl, Tr.put (kids := []) (by rw [List.append_nil]; exact (hr.nn (nn_has e)).nn (nn_ende q)) rfl (fun _ => by simp [okB])⟩
            · rename_i q e
              cases has_no e
              split
              · rename_i q e
                split
                · obtain ⟨kc, h1, h2⟩ := h.e _ _ _ (hr.nn (nn_has e))
                  generalize L.e q = C at *
                  exact ⟨30, fun _ => sk_of rfl, Tr.put (kids := [(C.1, kc)]) (h2.nn (nn_ende C.2)) rfl (fun b => by simp [okB, h1 ((nn_ende C.2).2 b)])⟩
                · exact ⟨30, fun _ => sk_of rfl, Tr.put (kids := []) (by rw [List.append_nil]; exact (hr.nn (nn_has e)).nn (nn_ende q)) rfl (fun _ => by simp [okB])⟩
              · rename_i q e
                cases has_no e
                split
                · rename_i q e
                  have h0 := hr.nn (nn_has e)
                  have h01 : Tr r0 K (if (nx q).ln = true then spoil q else q) := by
                    split
                    · exact h0.nn (nn_spoil q)
                    · exact h0
                  generalize (if (nx q).ln = true then spoil q else q) = Z at *
                  obtain ⟨kc, h1, h2⟩ := h.e _ _ _ h01
                  generalize L.e Z = C at *
                  exact ⟨31, fun _ => sk_of rfl, Tr.put (kids := [(C.1, kc)]) (h2.nn (nn_ende C.2)) rfl (fun b => by simp [okB, h1 ((nn_ende C.2).2 b)])⟩
                · rename_i q e
                  cases has_no e
                  split
                  · rename_i q e
                    have h1 := tr_block h _ _ _ (hr.nn (nn_has e))
                    generalize block L q = F at *
                    have h2 := ((h1.nn (nn_must [99, 97, 116, 99, 104] F.2)).nn (nn_must [40] _)).nn (nn_rname _)
                    generalize rname (must [40] (must [99, 97, 116, 99, 104] F.2)) = M at *
                    have h3 := tr_block h _ _ _ (h2.nn (nn_must [41] M.2))
                    generalize block L (must [41] M.2) = G at *
                    exact ⟨32, fun _ => sk_of rfl, Tr.put (kids := [(F.1, 25), (G.1, 25)]) (by simpa using h3) rfl (fun _ => by simp [okB])⟩
                  · rename_i q e
                    cases has_no e
                    split
                    · rename_i hl
                      have h0 := (hr.nn (nn_move r)).nn (nn_rname (move r))
                      generalize rname (move r) = M at *
                      obtain ⟨kc, h1, h2⟩ := h.e _ _ _ (h0.nn (nn_must [61] M.2))
                      generalize L.e (must [61] M.2) = C at *
                      have hk : (if isS [99, 111, 110, 115, 116] r = true then 22 else 21) = 21 ∨ (if isS [99, 111, 110, 115, 116] r = true then 22 else 21) = 22 := by split; exact .inr rfl; exact .inl rfl
                      generalize (if isS [99, 111, 110, 115, 116] r = true then 22 else 21) = kd at *
                      refine ⟨kd, fun _ => ⟨by rcases hk with e | e <;> subst e <;> rfl, fun a b _ => by simp [a, b] at hl⟩, Tr.put (n := { k := kd, t := M.1, kids := [C.1], a := (nx r).a }) (kids := [(C.1, kc)]) (h2.nn (nn_ende C.2)) rfl (fun b => ?_)⟩
                      have := h1 ((nn_ende C.2).2 b)
                      rcases hk with e | e <;> subst e <;> simp [okB, this]
                    · obtain ⟨kc, h1, h2⟩ := h.e _ _ _ hr
                      generalize L.e r = C at *
                      have h3 := h2.nn (nn_ende C.2)
                      have hn := (nn_ende C.2).2
                      generalize ende C.2 = E at *
                      split
                      · rename_i b
                        refine ⟨24, fun (e : E.bad = false) => ?_, Tr.bad b⟩
                        rw [b] at e; cases e
                      · exact ⟨24, fun _ => sk_of rfl, Tr.put (kids := [(C.1, kc)]) h3 rfl (fun b => by simp [okB, h1 (hn b)])⟩
theorem tr_deeper {P : Nat → Bool} {f : Q Nat} (h : FnP P f) (hP : ∃ k, P k = true) : FnP P (deeper f) := fun r0 K r hr => by
  unfold deeper
  split
  · rename_i b
    refine ⟨0, fun (e : r.bad = false) => ?_, Tr.bad b⟩
    rw [b] at e; cases e
  · exact h r0 K r hr
theorem tr_spoil (P : Nat → Bool) : FnP P (fun r => (0, spoil r)) := fun r0 K r hr => ⟨0, fun e => (nomatch e), Tr.bad rfl⟩
end
theorem tr_rl : ∀ d, TrL (rl d)
  | 0 => ⟨tr_spoil _, tr_spoil _, tr_spoil _, tr_spoil _, fun r0 K r _ _ _ _ => ⟨0, fun e => (nomatch e), Tr.bad rfl⟩⟩
  | d + 1 => by
    have h := tr_rl d
    refine ⟨tr_deeper (tr_assign h) ⟨1, rfl⟩, tr_deeper (tr_unary h) ⟨1, rfl⟩, tr_deeper (tr_post h) ⟨1, rfl⟩, tr_deeper (fun r0 K r hr => ?_) ⟨24, rfl⟩, fun r0 K r hr h1 h2 h3 => ?_⟩
    · obtain ⟨kd, h4, h5⟩ := tr_one h r0 K r hr
      exact ⟨kd, fun e => (h4 e).1, h5⟩
    · show ∃ kd, ((deeper (one (rl d)) r).2.bad = false → tK kd = true) ∧ Tr r0 (K ++ [((deeper (one (rl d)) r).1, kd)]) (deeper (one (rl d)) r).2
      unfold deeper
      split
      · rename_i b
        refine ⟨0, fun (e : r.bad = false) => ?_, Tr.bad b⟩
        rw [b] at e; cases e
      · obtain ⟨kd, h4, h5⟩ := tr_one h r0 K r hr
        exact ⟨kd, fun e => (h4 e).2 h1 h2 h3, h5⟩
/-- The nodes of a program, one by one, leave the last one free, which is the NAll. -/
theorem rparse_scan (src : List UInt8) (h : (rparse src).2.2 = true) : (rparse src).1 ≠ [] ∧ scan 0 (rparse src).1 [] = some [((rparse src).1.length - 1, 33)] := by
  unfold rparse at h ⊢
  split
  · rename_i c; rw [if_pos c] at h; cases h
  · rename_i c
    rw [if_neg c] at h
    simp only at h ⊢
    obtain ⟨ks, h1, h2, h3⟩ := tr_list (tr_rl 40) true ⟨Lx.all src, [], false⟩ [] _ (Tr.refl _)
    generalize list (rl 40) true ⟨Lx.all src, [], false⟩ = X at *
    split
    · rename_i b; rw [if_pos b] at h; cases h
    · rename_i b
      rw [Bool.not_eq_true] at b
      have h4 := Tr.put (r0 := ⟨Lx.all src, [], false⟩) (K := []) (kids := ks) (n := { k := 33, kids := X.1 }) h3 h1.symm (fun _ => by simpa [okB] using h2 b)
      obtain ⟨_, seg, h5, h6⟩ := h4 b
      have h7 := h6 []
      have h8 : (put { k := 33, kids := X.1 } X.2).2.nodes = seg := by rw [h5]; rfl
      rw [h8]
      have h9 : seg = X.2.nodes ++ [{ k := 33, kids := X.1 }] := h8.symm
      refine ⟨by rw [h9]; simp, ?_⟩
      have h10 : seg.length - 1 = X.2.nodes.length := by rw [h9]; simp
      rw [h10]
      exact h7
end Go.Proofs.Ytkaacmghgobhmaa.Rp
end
