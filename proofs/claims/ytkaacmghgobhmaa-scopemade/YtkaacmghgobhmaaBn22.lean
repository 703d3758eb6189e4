/- Texts: SfG ScEv ScKt. -/
import Derived.Test.YtkaacmghgobhmaaBn21
import Derived.Test.YtkaacmghgobhmaaBn00
import Derived.Test.YtkaacmghgobhmaaBn03
import Derived.Test.YtkaacmghgobhmaaBn19
section
namespace Go.Proofs.Ytkaacmghgobhmaa.Sr
open Ps (Nd)
theorem climb_up {l : List Nd} {U : List Int} {nm : List UInt8} {f k d : Nat} (h : names l U k = none) : climb l U nm (f + 1) (k : Int) d = climb l U nm f (U.getD k 0) d := by
  rw [climb, if_neg (by omega), Int.toNat_natCast, h]
theorem climb_at {l : List Nd} {U : List Int} {nm : List UInt8} {f k d : Nat} {N : List (List UInt8)} (h : names l U k = some N) : climb l U nm (f + 1) (k : Int) d = match N.idxOf? nm with | some p => ((d : Int), (p : Int)) | none => climb l U nm f (U.getD k 0) (d + 1) := by
  rw [climb, if_neg (by omega), Int.toNat_natCast, h]
  rfl
end Go.Proofs.Ytkaacmghgobhmaa.Sr
namespace Go.Proofs.Ytkaacmghgobhmaa.Rd
open Go.RowKit
open L (tkA own_block own_below info_of wpList_append_run)
open Rp (Wf kindAt kidsAt)
set_option linter.unusedVariables false
/-- The first j spots. -/
def spotsTo (l : List Ps.Nd) (j : Nat) : List Value := ((List.range j).map fun i => [Value.int .i64 (Sr.spot l i).1, Value.int .i64 (Sr.spot l i).2]).flatten
theorem spotsTo_succ (l : List Ps.Nd) (j : Nat) : spotsTo l (j + 1) = spotsTo l j ++ #[Value.int .i64 (Sr.spot l j).1, .int .i64 (Sr.spot l j).2].toList := by unfold spotsTo; rw [List.range_succ, List.map_append, List.flatten_append]; rfl
theorem set2b {W : World} {b : Nat} {t : TypeId} {a c x y : Value} (h : W.heap[b]? = some (.cells #[a, c] t (0, 0))) : ((W.setCell ⟨b, 0, none⟩ x).setCell ⟨b, 1, none⟩ y).heap[b]? = some (.cells #[x, y] t (0, 0)) := by
  simp [World.setCell, Array.getElem?_modify, h]
def clM (n : Nat) (k : Int) : Nat := if k < 0 then 0 else n - k.toNat
theorem clM_lt {n q : Nat} {u : Int} (h : u = -1 ∨ (q : Int) + 1 ≤ u) (hn : u < n) (hq : q < n) : clM n u < clM n (q : Int) := by
  unfold clM
  rw [if_neg (by omega : ¬ (q : Int) < 0)]
  rcases h with h | h
  · rw [if_pos (by omega)]; omega
  · rw [if_neg (by omega)]; omega
theorem OwnR.setBox {e : TypeId} {z n : Nat} {w0 W : World} {v : Value} {xs : List Value} (h : OwnR e z w0 W v n xs) {bx i : Nat} {u : Value} (hne : ∀ q, v.ownBlock = some q → q ≠ bx) (hb : w0.heap.size ≤ bx) : OwnR e z w0 (W.setCell ⟨bx, i, none⟩ u) v n xs :=
  ⟨own_keep h.own fun k hk => Below.heap_setCell _ _ _ _ (hne k hk), h.bel.setCell hb _⟩
/-- On the way outward: what is found, or is to be found yet. -/
def Cl (l : List Ps.Nd) (U : List Int) (nm : List UInt8) (T : Int × Int) (k : Int) (d : Nat) (b0 b1 : Int) : Prop :=
  (b0 = -1 ∧ b1 = 0 ∧ ∃ f : Nat, ((l.length : Int) < k + f ∨ k < 0 ∧ 0 < f) ∧ Sr.climb l U nm f k d = T) ∨ (0 ≤ b0 ∧ (b0, b1) = T)
set_option maxRecDepth 100000 in
set_option maxHeartbeats 4000000 in
theorem rspots_core {w : World} {g cap n : Nat} {l : List Ps.Nd} (hn : l.length = n) (hfew : n ≤ 1000000) (hcap : n ≤ cap) (hg : g < w.heap.size) (HWF : Hid (Wf l)) (HKD : Hid (∀ j, j < n → kindAt l j ≤ 33)) (K : World → Nat → Prop)
    (HA : Hid (Calls Try.prog 26 #[.slice (some ⟨g, 0, none⟩) n cap] w fun e w' => ∃ R, e = .returned (.slice (some ⟨R, 0, none⟩) n n) ∧ Hid (Below w.heap.size w w') ∧ Hid (K w' R)))
    (HM : Hid (∀ w1 R W k, K w1 R → Below w1.heap.size w1 W → k < n → Calls Try.prog 27 #[.slice (some ⟨g, 0, none⟩) n cap, .slice (some ⟨R, 0, none⟩) n n, .int .i64 (k : Int)] W fun e w' => NmP W w' (Sr.names l (Sr.around l) k) e))
    (HE : Hid (∀ w1 R W k, K w1 R → Below w1.heap.size w1 W → k < n → Calls Try.prog 29 #[.slice (some ⟨g, 0, none⟩) n cap, .int .i64 (k : Int)] W fun e w' => e = .returned (.string ⟨(Sr.nameOf l k).toArray⟩) ∧ w' = W))
    (HP : Hid (∀ W a m c s N, NamesIn W (.slice a m c) N → N.length ≤ 100000000 → Calls Try.prog 28 #[.slice a m c, .string ⟨s.toArray⟩] W fun e w' => e = .returned (.int .i64 (Sr.place N s)) ∧ w' = W))
    (HC : Hid (∀ w1 R W k, K w1 R → Below w1.heap.size w1 W → k < n → W.cell? ⟨g, k * 6, none⟩ = some (.int .i64 (kindAt l k : Int)) ∧ W.cell? ⟨g, k * 6 + 2, none⟩ = some (.string ⟨(l.getD k {}).t.toArray⟩) ∧ g < W.heap.size ∧ R < W.heap.size ∧ W.cell? ⟨R, k, none⟩ = some (.int .i64 ((Sr.around l).getD k 0))))
    (HL : Hid (∀ k N, k < n → Sr.names l (Sr.around l) k = some N → N.length ≤ 100000000)) :
    Calls Try.prog 16 #[.slice (some ⟨g, 0, none⟩) n cap] w fun e w' => ∃ v, e = .returned v ∧ Below w.heap.size w w' ∧ ∃ w1, OwnR 40 2 w1 w' v n (spotsTo l n) := by
  obtain ⟨i0, hi, hz0, hz1, hz2⟩ := info_of infoSpot1
  have HMORE : Hid (∀ {w0 W : World} {v : Value} {m : Nat} {xs : List Value} (h : OwnR 40 2 w0 W v m xs) (y z : Int), m + 1 ≤ 10000000 → ∃ a' cap' w3, (Builtin.append_ #[33, 33] 33 #[v, .slice (some ⟨W.heap.size, 0, none⟩) 1 1]).run Try.prog (W.alloc (.cells #[.int .i64 y, .int .i64 z] 40)) = .ok (.slice a' (m + 1) cap') w3 ∧ OwnR 40 2 w0 w3 (.slice a' (m + 1) cap') (m + 1) (xs ++ #[Value.int .i64 y, .int .i64 z].toList)) := fun h y z hm =>
    OwnR.more Try.underlying33 hi hz0 hz1 hz2 rfl (by decide) (by omega) h #[.int .i64 y, .int .i64 z] rfl (by intro u hu; simp at hu; rcases hu with rfl | rfl <;> rfl) hm
  have HNN : Hid (l.length = n) := hn
  clear hn
  go_enter Try.func16, Try.ntmps16
  go_wp2_with fail
  refine Calls.mono HA.out ?_
  rintro e w1 ⟨R, rfl, hb1, hk1⟩
  have HNM : Hid (∀ W k, Below w1.heap.size w1 W → k < n → Calls Try.prog 27 #[.slice (some ⟨g, 0, none⟩) n cap, .slice (some ⟨R, 0, none⟩) n n, .int .i64 (k : Int)] W fun e w' => NmP W w' (Sr.names l (Sr.around l) k) e) := fun W k hW hk => HM.out w1 R W k hk1.out hW hk
  have HNE : Hid (∀ W k, Below w1.heap.size w1 W → k < n → Calls Try.prog 29 #[.slice (some ⟨g, 0, none⟩) n cap, .int .i64 (k : Int)] W fun e w' => e = .returned (.string ⟨(Sr.nameOf l k).toArray⟩) ∧ w' = W) := fun W k hW hk => HE.out w1 R W k hk1.out hW hk
  have HCC : Hid (∀ W k, Below w1.heap.size w1 W → k < n → W.cell? ⟨g, k * 6, none⟩ = some (.int .i64 (kindAt l k : Int)) ∧ W.cell? ⟨g, k * 6 + 2, none⟩ = some (.string ⟨(l.getD k {}).t.toArray⟩) ∧ g < W.heap.size ∧ R < W.heap.size ∧ W.cell? ⟨R, k, none⟩ = some (.int .i64 ((Sr.around l).getD k 0))) := fun W k hW hk => HC.out w1 R W k hk1.out hW hk
  have H0 : Hid (OwnR 40 2 w1 w1 (.slice none 0 0) 0 (spotsTo l 0)) := OwnR.nil (Below.refl _ _)
  have HB01 : Hid (_) := hb1.out
  clear HA HM HE HC hk1 hb1
  go_wp2_with fail
  go_loopw [4, 5] (fun v i W => ∃ (j : Nat) (ad : Option Addr) (cp : Nat), j ≤ n ∧ i = .int .i64 (j : Int) ∧ v = .slice ad j cp ∧ Hid (OwnR 40 2 w1 W (.slice ad j cp) j (spotsTo l j))) (fun _ i _ => n - (L.intOf i).toNat)
  case atStart => exact ⟨0, none, 0, by omega, rfl, rfl, H0⟩
  case round =>
    obtain ⟨j, ad, cp, hj, rfl, rfl, HO⟩ := hrel
    clear H0
    by_cases hjn : j < n
    · have hjn' : (j : Int) < n := by omega
      have hj0 : (0 : Int) ≤ j := by omega
      have es := spotsTo_succ l j
      have hkd := HKD.out j hjn
      have HB1 : Hid (Below w1.heap.size w1 (wr.alloc (.cells #[.int .i64 (-1), .int .i64 0] 40))) := HO.out.bel.alloc HO.out.bel.size _
      obtain ⟨d0, d2, hg1, hR1, cu⟩ := HCC.out _ j HB1.out hjn
      have hX := (MapKept.heap_alloc wr (.cells #[.int .i64 (-1), .int .i64 0] 40)).1
      have HOA : Hid (OwnR 40 2 w1 (wr.alloc (.cells #[.int .i64 (-1), .int .i64 0] 40)) (.slice ad j cp) j (spotsTo l j)) := HO.out.below ((Below.refl _ _).alloc (Nat.le_refl _) _)
      have x0 : (wr.alloc (.cells #[.int .i64 (-1), .int .i64 0] 40)).cell? ⟨wr.heap.size, 0, none⟩ = some (.int .i64 (-1)) := by unfold World.cell?; rw [hX]; rfl
      have x1 : (wr.alloc (.cells #[.int .i64 (-1), .int .i64 0] 40)).cell? ⟨wr.heap.size, 1, none⟩ = some (.int .i64 0) := by unfold World.cell?; rw [hX]; rfl
      have hxl : wr.heap.size < (wr.alloc (.cells #[.int .i64 (-1), .int .i64 0] 40)).heap.size := lt_of_some hX
      have HX : Hid (_) := hX
      have hbs : w1.heap.size ≤ wr.heap.size := HO.out.bel.size
      have HAP : Hid (∀ q, (Value.slice ad j cp).ownBlock = some q → q ≠ wr.heap.size) := (show ∀ q, (Value.slice ad j cp).ownBlock = some q → q ≠ wr.heap.size from fun q hq => by have := (own_block HO.out.own q hq).2; omega)
      clear HO hX
      go_upto_region 7 with fail
      generalize wr.alloc (.cells #[.int .i64 (-1), .int .i64 0] 40) = w2 at *
      generalize wr.heap.size = bx at *
      clear wr
      by_cases hD : Sr.isD (kindAt l j) = true
      · obtain ⟨p, hp, hpk, hpm, hpl, hup⟩ : ∃ p : Nat, p < n ∧ kindAt l j = kindAt l j ∧ True ∧ True ∧ (Sr.around l).getD j 0 = (p : Int) := by
          rcases Sr.up_cases HWF.out (x := j) (by rw [HNN.out]; exact hjn) with ⟨p, hp, _, _, e⟩ | ⟨e1, e⟩
          · exact ⟨p, by rw [← HNN.out]; exact hp, rfl, trivial, trivial, e⟩
          · exfalso
            have := HWF.out.last.2
            rw [show l.length - 1 = j by omega] at this
            rw [this] at hD; simp [Sr.isD] at hD
        have hp' : (p : Int) < n := by omega
        have hp0 : (0 : Int) ≤ p := by omega
        rw [hup] at cu
        have hsp : Sr.spot l j = (0, Sr.place ((Sr.names l (Sr.around l) p).getD []) (Sr.nameOf l j)) := by unfold Sr.spot; rw [if_pos hD, hup, Int.toNat_natCast]
        have HNJ : Hid (∀ e w', NmP w2 w' (Sr.names l (Sr.around l) p) e → ∃ a m c b, e = .returned (.tuple #[.slice a m c, .bool b]) ∧ Hid (Below w2.heap.size w2 w') ∧ Hid (NamesIn w' (.slice a m c) ((Sr.names l (Sr.around l) p).getD []))) := fun e w' h => by
          cases hX : Sr.names l (Sr.around l) p with
          | none => rw [hX] at h; exact ⟨none, 0, 0, false, h.1, h.2, ⟨none, 0, rfl, Nat.le_refl _, .inl rfl⟩⟩
          | some N => rw [hX] at h; obtain ⟨a, c, e1, ho⟩ := h; exact ⟨a, _, c, true, e1, ho.bel, ho.namesIn⟩
        have HLL : Hid (((Sr.names l (Sr.around l) p).getD []).length ≤ 100000000) := (show _ ≤ _ from by
          cases hX : Sr.names l (Sr.around l) p with
          | none => simp
          | some N => exact HL.out p N hp hX)
        have HNC : Hid (_) := HNM.out w2 p HB1.out hp
        have hkk : kindAt l j = 21 ∨ kindAt l j = 22 ∨ kindAt l j = 23 := by simpa [Sr.isD, or_assoc] using hD
        clear hD hpk hpm hpl hup HNM HCC HL HWF HKD d2
        generalize kindAt l j = kd at *
        generalize (Sr.names l (Sr.around l) p).getD [] = N at *
        generalize Sr.names l (Sr.around l) p = rN at *
        rcases hkk with rfl | rfl | rfl
        · go_wp2_with fail
          refine Calls.mono HNC.out ?_
          intro e w5 hnm
          obtain ⟨a, m, c, b, rfl, hb5, hni⟩ := HNJ.out e w5 hnm
          clear hnm HNC HNJ
          have HNI : Hid (_) := hni.out
          have HB5 : Hid (Below w1.heap.size w1 w5) := HB1.out.trans (hb5.out.mono HB1.out.size)
          have HO5 : Hid (_) := HOA.out.below hb5.out
          have HX5 : Hid (w5.heap[bx]? = some (.cells #[.int .i64 (-1), .int .i64 0] 40 (0, 0))) := (hb5.out.block _ hxl).trans HX.out
          have HE5 : Hid (_) := HNE.out w5 j HB5.out hjn
          have HP5 : Hid (_) := HP.out w5 a m c (Sr.nameOf l j) N HNI.out HLL.out
          have x0 : w5.cell? ⟨bx, 0, none⟩ = some (.int .i64 (-1)) := by unfold World.cell?; rw [HX5.out]; rfl
          have x1 : w5.cell? ⟨bx, 1, none⟩ = some (.int .i64 0) := by unfold World.cell?; rw [HX5.out]; rfl
          have f0 : w5.frozen? ⟨bx, 0, none⟩ = false := by unfold World.frozen?; rw [HX5.out]; rfl
          have f1 : w5.frozen? ⟨bx, 1, none⟩ = false := by unfold World.frozen?; rw [HX5.out]; rfl
          have hxl5 : bx < w5.heap.size := lt_of_some HX5.out
          have hgg5 := Nat.lt_of_lt_of_le hg1 hb5.out.size
          have HO6 : Hid (OwnR 40 2 w1 ((w5.setCell ⟨bx, 0, none⟩ (.int .i64 0)).setCell ⟨bx, 1, none⟩ (.int .i64 (Sr.place N (Sr.nameOf l j)))) (.slice ad j cp) j (spotsTo l j)) := (HO5.out.setBox HAP.out hbs).setBox HAP.out hbs
          have HX6 : Hid (((w5.setCell ⟨bx, 0, none⟩ (.int .i64 0)).setCell ⟨bx, 1, none⟩ (.int .i64 (Sr.place N (Sr.nameOf l j)))).heap[bx]? = some (.cells #[.int .i64 0, .int .i64 (Sr.place N (Sr.nameOf l j))] 40 (0, 0))) := set2b HX5.out
          clear hb5 hni HX HOA HB1 HNE HP HO5 d0 cu hg1 hR1
          go_wp2_with (first | (go_at_call 29; refine Calls.mono HE5.out ?_; rintro e wm ⟨rfl, hwm⟩; have hwm := hwm.symm; subst hwm))
          refine Calls.mono HP5.out ?_
          rintro e wm ⟨rfl, hwm⟩
          have hwm := hwm.symm
          subst hwm
          clear HE5 HP5 HNI HLL HX5 HB5
          generalize Sr.place N (Sr.nameOf l j) = pl at *
          go_upto_region 24 with fail
          generalize (w5.setCell ⟨bx, 0, none⟩ (.int .i64 0)).setCell ⟨bx, 1, none⟩ (.int .i64 pl) = w6 at *
          clear x0 x1 f0 f1 hxl5 hgg5
          clear w5
          have x0 : w6.cell? ⟨bx, 0, none⟩ = some (.int .i64 0) := by unfold World.cell?; rw [HX6.out]; rfl
          have x1 : w6.cell? ⟨bx, 1, none⟩ = some (.int .i64 pl) := by unfold World.cell?; rw [HX6.out]; rfl
          have hxl6 : bx < w6.heap.size := lt_of_some HX6.out
          obtain ⟨a3, cap3, w3, hap, ho3⟩ := HMORE.out HO6.out 0 pl (by omega)
          have HRn : Hid (_) := hap
          have HO3 : Hid (OwnR 40 2 w1 w3 (.slice a3 (j + 1) cap3) (j + 1) (spotsTo l (j + 1))) := (show OwnR _ _ _ _ _ _ _ from by rw [es, hsp]; exact ho3)
          clear hap ho3 es hsp HMORE HO6 HX6 HAP
          go_wp2_with (at_builtin; refine wpList_append_run _ _ 33 rfl rfl _ _ _ _ rfl rfl HRn.out ?_)
          go_roundw
          case rel => exact ⟨j + 1, a3, cap3, by omega, by go_num, rfl, HO3⟩
          case measure => simp [L.intOf] <;> omega
        · go_wp2_with fail
          refine Calls.mono HNC.out ?_
          intro e w5 hnm
          obtain ⟨a, m, c, b, rfl, hb5, hni⟩ := HNJ.out e w5 hnm
          clear hnm HNC HNJ
          have HNI : Hid (_) := hni.out
          have HB5 : Hid (Below w1.heap.size w1 w5) := HB1.out.trans (hb5.out.mono HB1.out.size)
          have HO5 : Hid (_) := HOA.out.below hb5.out
          have HX5 : Hid (w5.heap[bx]? = some (.cells #[.int .i64 (-1), .int .i64 0] 40 (0, 0))) := (hb5.out.block _ hxl).trans HX.out
          have HE5 : Hid (_) := HNE.out w5 j HB5.out hjn
          have HP5 : Hid (_) := HP.out w5 a m c (Sr.nameOf l j) N HNI.out HLL.out
          have x0 : w5.cell? ⟨bx, 0, none⟩ = some (.int .i64 (-1)) := by unfold World.cell?; rw [HX5.out]; rfl
          have x1 : w5.cell? ⟨bx, 1, none⟩ = some (.int .i64 0) := by unfold World.cell?; rw [HX5.out]; rfl
          have f0 : w5.frozen? ⟨bx, 0, none⟩ = false := by unfold World.frozen?; rw [HX5.out]; rfl
          have f1 : w5.frozen? ⟨bx, 1, none⟩ = false := by unfold World.frozen?; rw [HX5.out]; rfl
          have hxl5 : bx < w5.heap.size := lt_of_some HX5.out
          have hgg5 := Nat.lt_of_lt_of_le hg1 hb5.out.size
          have HO6 : Hid (OwnR 40 2 w1 ((w5.setCell ⟨bx, 0, none⟩ (.int .i64 0)).setCell ⟨bx, 1, none⟩ (.int .i64 (Sr.place N (Sr.nameOf l j)))) (.slice ad j cp) j (spotsTo l j)) := (HO5.out.setBox HAP.out hbs).setBox HAP.out hbs
          have HX6 : Hid (((w5.setCell ⟨bx, 0, none⟩ (.int .i64 0)).setCell ⟨bx, 1, none⟩ (.int .i64 (Sr.place N (Sr.nameOf l j)))).heap[bx]? = some (.cells #[.int .i64 0, .int .i64 (Sr.place N (Sr.nameOf l j))] 40 (0, 0))) := set2b HX5.out
          clear hb5 hni HX HOA HB1 HNE HP HO5 d0 cu hg1 hR1
          go_wp2_with (first | (go_at_call 29; refine Calls.mono HE5.out ?_; rintro e wm ⟨rfl, hwm⟩; have hwm := hwm.symm; subst hwm))
          refine Calls.mono HP5.out ?_
          rintro e wm ⟨rfl, hwm⟩
          have hwm := hwm.symm
          subst hwm
          clear HE5 HP5 HNI HLL HX5 HB5
          generalize Sr.place N (Sr.nameOf l j) = pl at *
          go_upto_region 24 with fail
          generalize (w5.setCell ⟨bx, 0, none⟩ (.int .i64 0)).setCell ⟨bx, 1, none⟩ (.int .i64 pl) = w6 at *
          clear x0 x1 f0 f1 hxl5 hgg5
          clear w5
          have x0 : w6.cell? ⟨bx, 0, none⟩ = some (.int .i64 0) := by unfold World.cell?; rw [HX6.out]; rfl
          have x1 : w6.cell? ⟨bx, 1, none⟩ = some (.int .i64 pl) := by unfold World.cell?; rw [HX6.out]; rfl
          have hxl6 : bx < w6.heap.size := lt_of_some HX6.out
          obtain ⟨a3, cap3, w3, hap, ho3⟩ := HMORE.out HO6.out 0 pl (by omega)
          have HRn : Hid (_) := hap
          have HO3 : Hid (OwnR 40 2 w1 w3 (.slice a3 (j + 1) cap3) (j + 1) (spotsTo l (j + 1))) := (show OwnR _ _ _ _ _ _ _ from by rw [es, hsp]; exact ho3)
          clear hap ho3 es hsp HMORE HO6 HX6 HAP
          go_wp2_with (at_builtin; refine wpList_append_run _ _ 33 rfl rfl _ _ _ _ rfl rfl HRn.out ?_)
          go_roundw
          case rel => exact ⟨j + 1, a3, cap3, by omega, by go_num, rfl, HO3⟩
          case measure => simp [L.intOf] <;> omega
        · go_wp2_with fail
          refine Calls.mono HNC.out ?_
          intro e w5 hnm
          obtain ⟨a, m, c, b, rfl, hb5, hni⟩ := HNJ.out e w5 hnm
          clear hnm HNC HNJ
          have HNI : Hid (_) := hni.out
          have HB5 : Hid (Below w1.heap.size w1 w5) := HB1.out.trans (hb5.out.mono HB1.out.size)
          have HO5 : Hid (_) := HOA.out.below hb5.out
          have HX5 : Hid (w5.heap[bx]? = some (.cells #[.int .i64 (-1), .int .i64 0] 40 (0, 0))) := (hb5.out.block _ hxl).trans HX.out
          have HE5 : Hid (_) := HNE.out w5 j HB5.out hjn
          have HP5 : Hid (_) := HP.out w5 a m c (Sr.nameOf l j) N HNI.out HLL.out
          have x0 : w5.cell? ⟨bx, 0, none⟩ = some (.int .i64 (-1)) := by unfold World.cell?; rw [HX5.out]; rfl
          have x1 : w5.cell? ⟨bx, 1, none⟩ = some (.int .i64 0) := by unfold World.cell?; rw [HX5.out]; rfl
          have f0 : w5.frozen? ⟨bx, 0, none⟩ = false := by unfold World.frozen?; rw [HX5.out]; rfl
          have f1 : w5.frozen? ⟨bx, 1, none⟩ = false := by unfold World.frozen?; rw [HX5.out]; rfl
          have hxl5 : bx < w5.heap.size := lt_of_some HX5.out
          have hgg5 := Nat.lt_of_lt_of_le hg1 hb5.out.size
          have HO6 : Hid (OwnR 40 2 w1 ((w5.setCell ⟨bx, 0, none⟩ (.int .i64 0)).setCell ⟨bx, 1, none⟩ (.int .i64 (Sr.place N (Sr.nameOf l j)))) (.slice ad j cp) j (spotsTo l j)) := (HO5.out.setBox HAP.out hbs).setBox HAP.out hbs
          have HX6 : Hid (((w5.setCell ⟨bx, 0, none⟩ (.int .i64 0)).setCell ⟨bx, 1, none⟩ (.int .i64 (Sr.place N (Sr.nameOf l j)))).heap[bx]? = some (.cells #[.int .i64 0, .int .i64 (Sr.place N (Sr.nameOf l j))] 40 (0, 0))) := set2b HX5.out
          clear hb5 hni HX HOA HB1 HNE HP HO5 d0 cu hg1 hR1
          go_wp2_with (first | (go_at_call 29; refine Calls.mono HE5.out ?_; rintro e wm ⟨rfl, hwm⟩; have hwm := hwm.symm; subst hwm))
          refine Calls.mono HP5.out ?_
          rintro e wm ⟨rfl, hwm⟩
          have hwm := hwm.symm
          subst hwm
          clear HE5 HP5 HNI HLL HX5 HB5
          generalize Sr.place N (Sr.nameOf l j) = pl at *
          go_upto_region 24 with fail
          generalize (w5.setCell ⟨bx, 0, none⟩ (.int .i64 0)).setCell ⟨bx, 1, none⟩ (.int .i64 pl) = w6 at *
          clear x0 x1 f0 f1 hxl5 hgg5
          clear w5
          have x0 : w6.cell? ⟨bx, 0, none⟩ = some (.int .i64 0) := by unfold World.cell?; rw [HX6.out]; rfl
          have x1 : w6.cell? ⟨bx, 1, none⟩ = some (.int .i64 pl) := by unfold World.cell?; rw [HX6.out]; rfl
          have hxl6 : bx < w6.heap.size := lt_of_some HX6.out
          obtain ⟨a3, cap3, w3, hap, ho3⟩ := HMORE.out HO6.out 0 pl (by omega)
          have HRn : Hid (_) := hap
          have HO3 : Hid (OwnR 40 2 w1 w3 (.slice a3 (j + 1) cap3) (j + 1) (spotsTo l (j + 1))) := (show OwnR _ _ _ _ _ _ _ from by rw [es, hsp]; exact ho3)
          clear hap ho3 es hsp HMORE HO6 HX6 HAP
          go_wp2_with (at_builtin; refine wpList_append_run _ _ 33 rfl rfl _ _ _ _ rfl rfl HRn.out ?_)
          go_roundw
          case rel => exact ⟨j + 1, a3, cap3, by omega, by go_num, rfl, HO3⟩
          case measure => simp [L.intOf] <;> omega
      · by_cases h3 : kindAt l j = 3
        · have HT : Hid (Sr.spot l j = Sr.climb l (Sr.around l) (l.getD j {}).t (n + 1) ((Sr.around l).getD j 0) 0) := (show _ = _ from by unfold Sr.spot; rw [if_neg hD, if_pos h3, HNN.out])
          have huj := Sr.up_ge HWF.out (a := j) (by rw [HNN.out]; exact hjn)
          have hujn : (Sr.around l).getD j 0 < n := by
            rcases Sr.up_cases HWF.out (x := j) (by rw [HNN.out]; exact hjn) with ⟨p, hp, _, _, e⟩ | ⟨_, e⟩
            · rw [e]; rw [HNN.out] at hp; omega
            · rw [e]; omega
          rw [h3] at d0
          have HTX : Hid (∀ W, Below w1.heap.size w1 W → W.cell? ⟨g, j * 6 + 2, none⟩ = some (.string ⟨(l.getD j {}).t.toArray⟩)) := fun W hW => (HCC.out W j hW hjn).2.1
          have H2 : Hid (Below w1.heap.size w1 w2 ∧ w2.heap[bx]? = some (.cells #[.int .i64 (-1), .int .i64 0] 40 (0, 0)) ∧ Cl l (Sr.around l) (l.getD j {}).t (Sr.climb l (Sr.around l) (l.getD j {}).t (n + 1) ((Sr.around l).getD j 0) 0) ((Sr.around l).getD j 0) 0 (-1) 0 ∧ OwnR 40 2 w1 w2 (.slice ad j cp) j (spotsTo l j)) := ⟨HB1.out, HX.out, .inl ⟨rfl, rfl, n + 1, by rw [HNN.out]; rcases huj with e | e; exact .inr ⟨by rw [show (Sr.around l).getD j 0 = -1 from e]; decide, by omega⟩; exact .inl (by have e : (j : Int) + 1 ≤ (Sr.around l).getD j 0 := e; omega), rfl⟩, HOA.out⟩
          have hu1 : (-1 : Int) ≤ (Sr.around l).getD j 0 := by rcases huj with e | e; have e : (Sr.around l).getD j 0 = -1 := e; omega; have e : (j : Int) + 1 ≤ (Sr.around l).getD j 0 := e; omega
          clear hD h3 HX HOA HB1 d2 huj hkd
          generalize Sr.climb l (Sr.around l) (l.getD j {}).t (n + 1) ((Sr.around l).getD j 0) 0 = TT at *
          generalize (Sr.around l).getD j 0 = uj at *
          generalize (l.getD j {}).t = nm at *
          go_wp2_with fail
          go_loopw [9, 10] (fun ds ks W => ∃ (d : Nat) (k b0 b1 : Int), ds = .int .i64 (d : Int) ∧ ks = .int .i64 k ∧ -1 ≤ k ∧ k < n ∧ d ≤ n ∧ (k < 0 ∨ (d : Int) ≤ k) ∧ Hid (Below w1.heap.size w1 W ∧ W.heap[bx]? = some (.cells #[.int .i64 b0, .int .i64 b1] 40 (0, 0)) ∧ Cl l (Sr.around l) nm TT k d b0 b1 ∧ OwnR 40 2 w1 W (.slice ad j cp) j (spotsTo l j))) (fun _ ks _ => clM n (L.intOf ks))
          case atStart => exact ⟨0, uj, -1, 0, rfl, rfl, hu1, hujn, by omega, by omega, H2⟩
          case round =>
            obtain ⟨d, k, b0, b1, rfl, rfl, hk1, hkn, hdn, hdk, HK⟩ := hrel
            clear H2 d0 cu x0 x1 hxl hg1 hR1
            have HBK : Hid (_) := HK.out.1
            have HXK : Hid (_) := HK.out.2.1
            have HCL : Hid (_) := HK.out.2.2.1
            have HOK : Hid (_) := HK.out.2.2.2
            obtain ⟨_, _, hgk, hRk, _⟩ := HCC.out wr j HBK.out hjn
            have x0 : wr.cell? ⟨bx, 0, none⟩ = some (.int .i64 b0) := by unfold World.cell?; rw [HXK.out]; rfl
            have x1 : wr.cell? ⟨bx, 1, none⟩ = some (.int .i64 b1) := by unfold World.cell?; rw [HXK.out]; rfl
            have hxl : bx < wr.heap.size := lt_of_some HXK.out
            clear HK
            by_cases hk0 : k < 0
            · have hk0' : ¬ (0 : Int) ≤ k := by omega
              have hT : Sr.spot l j = (b0, b1) := by
                rw [HT.out]
                rcases HCL.out with ⟨e0, e1, f, hf, hc⟩ | ⟨_, e⟩
                · obtain ⟨f, rfl⟩ : ∃ f', f = f' + 1 := ⟨f - 1, by rw [HNN.out] at hf; omega⟩
                  rw [Sr.climb, if_pos hk0] at hc
                  rw [← hc, e0, e1]
                · exact e.symm
              obtain ⟨a3, cap3, w3, hap, ho3⟩ := HMORE.out HOK.out b0 b1 (by omega)
              have HRn : Hid (_) := hap
              have HO3 : Hid (OwnR 40 2 w1 w3 (.slice a3 (j + 1) cap3) (j + 1) (spotsTo l (j + 1))) := (show OwnR _ _ _ _ _ _ _ from by rw [es, hT]; exact ho3)
              clear hap ho3 es hT HMORE HOK HXK HCL HT HAP HNM HCC HP HL HWF HKD HNE
              go_wp2_with (at_builtin; refine wpList_append_run _ _ 33 rfl rfl _ _ _ _ rfl rfl HRn.out ?_)
              go_roundw
              case rel => exact ⟨j + 1, a3, cap3, by omega, by go_num, rfl, HO3⟩
              case measure => simp [L.intOf] <;> omega
            · have hk0' : (0 : Int) ≤ k := by omega
              by_cases hb0 : 0 ≤ b0
              · have hb0' : ¬ b0 < 0 := by omega
                have hT : Sr.spot l j = (b0, b1) := by
                  rw [HT.out]
                  rcases HCL.out with ⟨e0, _⟩ | ⟨_, e⟩
                  · omega
                  · exact e.symm
                obtain ⟨a3, cap3, w3, hap, ho3⟩ := HMORE.out HOK.out b0 b1 (by omega)
                have HRn : Hid (_) := hap
                have HO3 : Hid (OwnR 40 2 w1 w3 (.slice a3 (j + 1) cap3) (j + 1) (spotsTo l (j + 1))) := (show OwnR _ _ _ _ _ _ _ from by rw [es, hT]; exact ho3)
                clear hap ho3 es hT HMORE HOK HXK HCL HT HAP HNM HCC HP HL HWF HKD HNE
                go_wp2_with (at_builtin; refine wpList_append_run _ _ 33 rfl rfl _ _ _ _ rfl rfl HRn.out ?_)
                go_roundw
                case rel => exact ⟨j + 1, a3, cap3, by omega, by go_num, rfl, HO3⟩
                case measure => simp [L.intOf] <;> omega
              · obtain ⟨q, rfl⟩ : ∃ q : Nat, k = (q : Int) := ⟨k.toNat, by omega⟩
                have hq : q < n := by omega
                have hb0' : b0 < 0 := by omega
                obtain ⟨rfl, rfl, f, hf, hcl⟩ := HCL.out.resolve_right (fun e => hb0 e.1)
                obtain ⟨f, rfl⟩ : ∃ f', f = f' + 1 := ⟨f - 1, by rw [HNN.out] at hf; omega⟩
                have huq := Sr.up_ge HWF.out (a := q) (by rw [HNN.out]; exact hq)
                have huqn : (Sr.around l).getD q 0 < n := by
                  rcases Sr.up_cases HWF.out (x := q) (by rw [HNN.out]; exact hq) with ⟨p, hp, _, _, e⟩ | ⟨_, e⟩
                  · rw [e]; rw [HNN.out] at hp; omega
                  · rw [e]; omega
                have huq2 : (Sr.around l).getD q 0 = -1 ∨ (q : Int) + 1 ≤ (Sr.around l).getD q 0 := huq
                have hf2 : ((l.length : Int) < (Sr.around l).getD q 0 + f ∨ (Sr.around l).getD q 0 < 0 ∧ 0 < f) := by
                  rw [HNN.out] at hf ⊢
                  rcases huq2 with e | e
                  · exact .inr ⟨by omega, by omega⟩
                  · exact .inl (by omega)
                have HF2 : Hid (_) := hf2
                have HNQ : Hid (_) := HNM.out wr q HBK.out hq
                have hq' : (q : Int) < n := by omega
                have hdb : (d : Int) ≤ q := by omega
                clear hf hf2 huq HCL hb0 hb0'
                go_wp2_with fail
                refine Calls.mono HNQ.out ?_
                intro e w5 hnm
                clear HNQ
                cases hX : Sr.names l (Sr.around l) q with
                | none =>
                  rw [hX] at hnm
                  obtain ⟨rfl, hb5⟩ := hnm
                  rw [Sr.climb_up hX] at hcl
                  have HB5 : Hid (Below w1.heap.size w1 w5) := HBK.out.trans (hb5.mono HBK.out.size)
                  obtain ⟨_, _, hg5, hR5, cu5⟩ := HCC.out w5 q HB5.out hq
                  have HN : Hid (Below w1.heap.size w1 w5 ∧ w5.heap[bx]? = some (.cells #[.int .i64 (-1), .int .i64 0] 40 (0, 0)) ∧ Cl l (Sr.around l) nm TT ((Sr.around l).getD q 0) d (-1) 0 ∧ OwnR 40 2 w1 w5 (.slice ad j cp) j (spotsTo l j)) := ⟨HB5.out, (hb5.block _ hxl).trans HXK.out, .inl ⟨rfl, rfl, f, HF2.out, hcl⟩, HOK.out.below hb5⟩
                  clear hX hcl hb5 HB5 HOK HXK HBK HF2 x0 x1 hxl
                  generalize (Sr.around l).getD q 0 = uq at *
                  go_wp2_with fail
                  go_roundw
                  case rel => exact ⟨d, uq, -1, 0, rfl, rfl, by omega, huqn, hdn, by omega, HN⟩
                  case measure => simp [L.intOf]; exact clM_lt huq2 huqn hq
                | some N =>
                  rw [hX] at hnm
                  obtain ⟨a, c, rfl, ho⟩ := hnm
                  rw [Sr.climb_at hX] at hcl
                  have hNl := HL.out q N hq hX
                  have HB5 : Hid (Below w1.heap.size w1 w5) := HBK.out.trans (ho.bel.mono HBK.out.size)
                  obtain ⟨_, _, hg5, hR5, cu5⟩ := HCC.out w5 q HB5.out hq
                  have t5 := HTX.out w5 HB5.out
                  have HP5 : Hid (_) := HP.out w5 a N.length c nm N ho.namesIn hNl
                  have HX5 : Hid (w5.heap[bx]? = some (.cells #[.int .i64 (-1), .int .i64 0] 40 (0, 0))) := (ho.bel.block _ hxl).trans HXK.out
                  have HO5 : Hid (_) := HOK.out.below ho.bel
                  have hxl5 : bx < w5.heap.size := lt_of_some HX5.out
                  clear hX ho HOK HXK HBK x0 x1 hxl
                  cases hI : N.idxOf? nm with
                  | some pl =>
                    rw [hI] at hcl
                    simp only at hcl
                    have hpl : Sr.place N nm = (pl : Int) := by unfold Sr.place; rw [hI]
                    rw [hpl] at HP5
                    have y0 : w5.cell? ⟨bx, 0, none⟩ = some (.int .i64 (-1)) := by unfold World.cell?; rw [HX5.out]; rfl
                    have y1 : w5.cell? ⟨bx, 1, none⟩ = some (.int .i64 0) := by unfold World.cell?; rw [HX5.out]; rfl
                    have f0 : w5.frozen? ⟨bx, 0, none⟩ = false := by unfold World.frozen?; rw [HX5.out]; rfl
                    have f1 : w5.frozen? ⟨bx, 1, none⟩ = false := by unfold World.frozen?; rw [HX5.out]; rfl
                    have HN : Hid (Below w1.heap.size w1 ((w5.setCell ⟨bx, 0, none⟩ (.int .i64 (d : Int))).setCell ⟨bx, 1, none⟩ (.int .i64 (pl : Int))) ∧ ((w5.setCell ⟨bx, 0, none⟩ (.int .i64 (d : Int))).setCell ⟨bx, 1, none⟩ (.int .i64 (pl : Int))).heap[bx]? = some (.cells #[.int .i64 (d : Int), .int .i64 (pl : Int)] 40 (0, 0)) ∧ Cl l (Sr.around l) nm TT ((Sr.around l).getD q 0) (d + 1) (d : Int) (pl : Int) ∧ OwnR 40 2 w1 ((w5.setCell ⟨bx, 0, none⟩ (.int .i64 (d : Int))).setCell ⟨bx, 1, none⟩ (.int .i64 (pl : Int))) (.slice ad j cp) j (spotsTo l j)) := ⟨(HB5.out.setCell hbs _).setCell hbs _, set2b HX5.out, .inr ⟨by omega, hcl⟩, (HO5.out.setBox HAP.out hbs).setBox HAP.out hbs⟩
                    have hRb : ¬ R = bx := fun e => by have := (HCC.out w1 q (Below.refl _ _) hq).2.2.2.1; omega
                    have hRb' : ¬ bx = R := fun e => hRb e.symm
                    clear hcl hpl hI HX5 HO5 HF2 HB5
                    generalize (Sr.around l).getD q 0 = uq at *
                    go_wp2_with (go_at_call 28; refine Calls.mono HP5.out ?_; rintro e wm ⟨rfl, hwm⟩; have hwm := hwm.symm; subst hwm)
                    go_roundw
                    case rel => exact ⟨d + 1, uq, (d : Int), (pl : Int), by go_num, rfl, by omega, huqn, by omega, by omega, HN⟩
                    case measure => simp [L.intOf]; exact clM_lt huq2 huqn hq
                  | none =>
                    rw [hI] at hcl
                    simp only at hcl
                    have hpl : Sr.place N nm = -1 := by unfold Sr.place; rw [hI]
                    rw [hpl] at HP5
                    have HN : Hid (Below w1.heap.size w1 w5 ∧ w5.heap[bx]? = some (.cells #[.int .i64 (-1), .int .i64 0] 40 (0, 0)) ∧ Cl l (Sr.around l) nm TT ((Sr.around l).getD q 0) (d + 1) (-1) 0 ∧ OwnR 40 2 w1 w5 (.slice ad j cp) j (spotsTo l j)) := ⟨HB5.out, HX5.out, .inl ⟨rfl, rfl, f, HF2.out, hcl⟩, HO5.out⟩
                    clear hcl hpl hI HX5 HO5 HF2 HB5
                    generalize (Sr.around l).getD q 0 = uq at *
                    go_wp2_with (go_at_call 28; refine Calls.mono HP5.out ?_; rintro e wm ⟨rfl, hwm⟩; have hwm := hwm.symm; subst hwm)
                    go_roundw
                    case rel => exact ⟨d + 1, uq, -1, 0, by go_num, rfl, by omega, huqn, by omega, by omega, HN⟩
                    case measure => simp [L.intOf]; exact clM_lt huq2 huqn hq
        · have hsp : Sr.spot l j = (-1, 0) := by unfold Sr.spot; rw [if_neg hD, if_neg h3]
          obtain ⟨a3, cap3, w3, hap, ho3⟩ := HMORE.out HOA.out (-1) 0 (by omega)
          have HRn : Hid (_) := hap
          have HO3 : Hid (OwnR 40 2 w1 w3 (.slice a3 (j + 1) cap3) (j + 1) (spotsTo l (j + 1))) := (show OwnR _ _ _ _ _ _ _ from by rw [es, hsp]; exact ho3)
          have hkk : kindAt l j ≠ 21 ∧ kindAt l j ≠ 22 ∧ kindAt l j ≠ 23 := by
            refine ⟨fun e => hD ?_, fun e => hD ?_, fun e => hD ?_⟩ <;> rw [e] <;> rfl
          have m21 : ((kindAt l j : Int) == 21) = false := by rw [beq_eq_false_iff_ne]; omega
          have m22 : ((kindAt l j : Int) == 22) = false := by rw [beq_eq_false_iff_ne]; omega
          have m23 : ((kindAt l j : Int) == 23) = false := by rw [beq_eq_false_iff_ne]; omega
          have m3 : ((kindAt l j : Int) == 3) = false := by rw [beq_eq_false_iff_ne]; omega
          have q21 : ¬ (kindAt l j : Int) = 21 := by omega
          have q22 : ¬ (kindAt l j : Int) = 22 := by omega
          have q23 : ¬ (kindAt l j : Int) = 23 := by omega
          have q3 : ¬ (kindAt l j : Int) = 3 := by omega
          clear hap ho3 es hsp hD h3 hkk HNM HNE HCC HP HL HWF HKD HMORE HOA HB1 cu d2 HAP HX
          generalize kindAt l j = kd at *
          go_wp2_with (at_builtin; refine wpList_append_run _ _ 33 rfl rfl _ _ _ _ rfl rfl HRn.out ?_)
          go_roundw
          case rel => exact ⟨j + 1, a3, cap3, by omega, by go_num, rfl, HO3⟩
          case measure => simp [L.intOf] <;> omega
    · have hjn' : ¬ (j : Int) < n := by omega
      have : j = n := by omega
      subst this
      have HBW : Hid (Below w.heap.size w wr) := HB01.out.trans (HO.out.bel.mono HB01.out.size)
      clear HNM HNE HCC HP HL HMORE
      go_wp2_with fail
      go_ret
      exact ⟨_, rfl, HBW.out, w1, HO.out⟩
theorem names_few {l : List Ps.Nd} {w : World} {g cap : Nat} (h : TreeIn w g cap l) {k : Nat} (hk : k < l.length) {N : List (List UInt8)} (hN : Sr.names l (Sr.around l) k = some N) : N.length ≤ 100000000 := by
  have hs := h.small hk
  have hd := Nat.le_trans (Sr.decls_len l (kidsAt l k)) hs.1
  have h2 := hs.2.1
  unfold Sr.names at hN
  simp only at hN
  split at hN
  · cases hN; rw [List.length_map]; omega
  · split at hN
    · cases hN; rw [List.length_append, List.length_map]; omega
    · split at hN
      · cases hN; rw [List.length_cons, List.length_map]; omega
      · split at hN
        · cases hN; rw [List.length_map]; omega
        · cases hN
theorem rspots_any {w : World} {nv : Value} {l : List Ps.Nd} (hf : Fit l) (hw : Wf l) (ht : Told w nv l) :
    Calls Try.prog 16 #[nv] w fun e w' => ∃ v, e = .returned v ∧ Below w.heap.size w w' ∧ ∃ w1, OwnR 40 2 w1 w' v l.length (spotsTo l l.length) := by
  have har := around_any hf hw ht
  obtain ⟨g, cap, rfl, h⟩ := ht.treeIn hf hw
  refine rspots_core rfl hf.few h.cap h.lt hw (show ∀ j, j < l.length → kindAt l j ≤ 33 from fun j hj => (h.small hj).2.2) (fun w1 R => TreeIn w1 g cap l ∧ IntsAt w1 R (Sr.around l)) (har.mono ?_) (fun w1 R W k hK hW hk => names_any (hK.1.below hW) (hK.2.below hW) hk) (fun w1 R W k hK hW hk => name_any (hK.1.below hW) hk) (fun W a m c s N hN hl => place_any W a m c s N hN hl) (fun w1 R W k hK hW hk => ?_) (show ∀ k N, k < l.length → Sr.names l (Sr.around l) k = some N → N.length ≤ 100000000 from fun k N hk hN => names_few h hk hN)
  · rintro e w' ⟨R, rfl, h1, h2, h3⟩
    exact ⟨R, rfl, h2, h.below h2, h3⟩
  · have h1 := hK.1.below hW
    have h2 := hK.2.below hW
    obtain ⟨_, _, _, _, d0, d2, _⟩ := h1.nd k hk
    exact ⟨d0, d2, h1.lt, h2.lt, (h2.cell (by rw [around_len]; exact hk)).1⟩
end Go.Proofs.Ytkaacmghgobhmaa.Rd
end
section
namespace Go.Proofs.Ytkaacmghgobhmaa.Sc
set_option linter.unusedVariables false
/-- What the finder asks of a tree, by evaluation. -/
def fitB (l : List Ps.Nd) : Bool := !l.isEmpty && decide (l.length ≤ 1000000) && l.all fun x => decide (x.names.length ≤ 1000000) && decide (x.kids.length ≤ 1000000) && x.kids.all (fun k => decide (k ≤ 1000000)) && decide (x.k ≤ 1000000000) && decide (x.t.length ≤ 1000000) && x.names.all (fun y => decide (y.length ≤ 1000000))
/-- The spot of the last NName of a name among the first k nodes. -/
def lastOf (l : List Ps.Nd) (S : Nat → Int × Int) (nm : List UInt8) : Nat → Int × Int
  | 0 => (-5, 0)
  | k + 1 => match l[k]? with
    | none => lastOf l S nm k
    | some x => if x.k = 3 then if x.t = nm then S k else lastOf l S nm k else lastOf l S nm k
def okForm (src nm : List UInt8) (w : Int × Int) : Bool :=
  match Rp.rparse src with
  | (l, a, ok) => ok && decide (a = 0) && fitB l && decide (lastOf l (spot l (found l)) nm l.length = w)
def formT : List (List UInt8) := [[102, 117, 110, 99, 116, 105, 111, 110, 32, 102, 40, 112, 44, 32, 113, 41, 32, 123, 32, 108, 101, 116, 32, 114, 32, 61, 32, 49, 59, 32, 114, 101, 116, 117, 114, 110, 32, 114, 59, 32, 125], [116, 114, 121, 32, 123, 125, 32, 99, 97, 116, 99, 104, 32, 40, 101, 41, 32, 123, 32, 108, 101, 116, 32, 114, 32, 61, 32, 101, 59, 32, 114, 32, 125], [123, 32, 98, 32, 125, 32, 108, 101, 116, 32, 98, 32, 61, 32, 49], [108, 101, 116, 32, 102, 32, 61, 32, 102, 117, 110, 99, 116, 105, 111, 110, 32, 103, 40, 41, 32, 123, 32, 114, 101, 116, 117, 114, 110, 32, 103, 59, 32, 125], [123, 32, 102, 117, 110, 99, 116, 105, 111, 110, 32, 107, 40, 41, 32, 123, 125, 32, 107, 32, 125], [119, 104, 105, 108, 101, 32, 40, 97, 41, 32, 123, 32, 108, 101, 116, 32, 97, 32, 61, 32, 97, 32, 125], [108, 101, 116, 32, 97, 32, 61, 32, 49, 59, 32, 105, 102, 32, 40, 97, 41, 32, 123, 32, 97, 32, 125, 32, 101, 108, 115, 101, 32, 123, 32, 108, 101, 116, 32, 97, 32, 61, 32, 50, 59, 32, 97, 32, 125]]
def formN : List (List UInt8) := [[114], [114], [98], [103], [107], [97], [97]]
def formW : List (Int × Int) := [(0, 2), (0, 1), (0, 0), (-1, 0), (0, 0), (0, 0), (0, 0)]
set_option maxRecDepth 100000 in
theorem forms_ok : ((formT.zip formN).zip formW).all (fun p => okForm p.1.1 p.1.2 p.2) = true := by decide +kernel
end Go.Proofs.Ytkaacmghgobhmaa.Sc
end
section
namespace Go.Proofs.Ytkaacmghgobhmaa.Rd
open Go.RowKit
open L (tkA own_block own_below info_of)
set_option linter.unusedVariables false
theorem fit_of {l : List Ps.Nd} (h : Sc.fitB l = true) : Fit l := by
  unfold Sc.fitB at h
  simp only [Bool.and_eq_true, List.all_eq_true, decide_eq_true_eq, Bool.not_eq_true', List.isEmpty_eq_false_iff] at h
  obtain ⟨⟨h1, h2⟩, h3⟩ := h
  exact ⟨h1, h2, fun x hx => ⟨(h3 x hx).1.1.1.1.1, (h3 x hx).1.1.1.1.2, (h3 x hx).1.1.1.2⟩, fun x hx => (h3 x hx).1.1.2, fun x hx => ⟨(h3 x hx).1.2, (h3 x hx).2⟩⟩
/-- What is read of a tree, as it lies. -/
def NodesAt (W : World) (g : Nat) (l : List Ps.Nd) : Prop := g < W.heap.size ∧ ∀ j (h : j < l.length), W.cell? ⟨g, j * 6, none⟩ = some (.int .i64 (l[j].k : Int)) ∧ W.cell? ⟨g, j * 6 + 2, none⟩ = some (.string ⟨l[j].t.toArray⟩)
theorem NodesAt.below {W W' : World} {g : Nat} {l : List Ps.Nd} (h : NodesAt W g l) (hb : Below W.heap.size W W') : NodesAt W' g l :=
  ⟨Nat.lt_of_lt_of_le h.1 hb.size, fun j hj => ⟨(hb.cell (p := ⟨g, j * 6, none⟩) h.1).trans (h.2 j hj).1, (hb.cell (p := ⟨g, j * 6 + 2, none⟩) h.1).trans (h.2 j hj).2⟩⟩
theorem Told.nodesAt {W : World} {v : Value} {l : List Ps.Nd} (h : Told W v l) (hl : l ≠ []) : ∃ g cap, v = .slice (some ⟨g, 0, none⟩) l.length cap ∧ l.length ≤ cap ∧ NodesAt W g l := by
  obtain ⟨ad, cap, rfl⟩ := h.slice
  obtain ⟨g, rfl, _, hg, hc, H⟩ := h.both hl
  refine ⟨g, cap, rfl, hc, hg, fun j hj => ?_⟩
  obtain ⟨an, ak, cn, ck, h1, _⟩ := H j hj
  exact ⟨h1 0 (by omega), h1 2 (by omega)⟩
/-- A text whose tree is known. -/
def Reads (U : List UInt8) (l : List Ps.Nd) : Prop := ∀ W, Calls Try.prog 12 #[.string ⟨U.toArray⟩] W fun e w' => ∃ g cap, e = .returned (.agg #[.slice (some ⟨g, 0, none⟩) l.length cap, .int .i64 0, .bool true]) ∧ l.length ≤ cap ∧ Hid (NodesAt w' g l) ∧ Hid (Told w' (.slice (some ⟨g, 0, none⟩) l.length cap) l) ∧ Hid (Below W.heap.size W w')
theorem reads_of {U : List UInt8} {l : List Ps.Nd} (hU : U.length ≤ 4096) (h : Rp.rparse U = (l, 0, true)) (hl : l ≠ []) : Reads U l := fun W => by
  refine (rParse_any U W (fun h => Nat.le_trans (Rp.fews U h) (by omega))).mono ?_
  rintro e w' ⟨v, rfl, ht, hb⟩
  rw [h] at ht ⊢
  obtain ⟨g, cap, rfl, hc, hN⟩ := ht.nodesAt hl
  exact ⟨g, cap, rfl, hc, hN, ht, hb⟩
theorem SpotsAt.cells {W : World} {g n : Nat} {S : Nat → Int × Int} (h : SpotsAt W g n n S) {j : Nat} (hj : j < n) : W.cell? ⟨g, j * 2, none⟩ = some (.int .i64 (S j).1) ∧ W.cell? ⟨g, j * 2 + 1, none⟩ = some (.int .i64 (S j).2) := by
  obtain ⟨M, h1, _, h3⟩ := h
  unfold World.cell?
  rw [h1]
  exact h3 j hj
theorem NumsAt.cells {W : World} {g n : Nat} {S : Nat → Int} (h : NumsAt W g n n S) {j : Nat} (hj : j < n) : W.cell? ⟨g, j, none⟩ = some (.int .i64 (S j)) := by
  obtain ⟨M, h1, _, h3⟩ := h
  unfold World.cell?
  rw [h1]
  exact h3 j hj
theorem NumsAt.lt {W : World} {g n k : Nat} {S : Nat → Int} (h : NumsAt W g n k S) : g < W.heap.size := by
  obtain ⟨M, h1, _⟩ := h; exact lt_of_some h1
theorem NumsAt.below {W W' : World} {g n k : Nat} {S : Nat → Int} (h : NumsAt W g n k S) (hb : Below W.heap.size W W') : NumsAt W' g n k S := by
  obtain ⟨M, h1, h2⟩ := h
  exact ⟨M, (hb.block _ (lt_of_some h1)).trans h1, h2⟩
/-- Spots of a tree that lies anywhere. -/
def Spots (l : List Ps.Nd) (S : Nat → Int × Int) : Prop := ∀ W v, Told W v l → Calls Try.prog 13 #[v] W fun e w' => ∃ R, e = .returned (.slice (some ⟨R, 0, none⟩) l.length l.length) ∧ W.heap.size ≤ R ∧ Hid (Below W.heap.size W w') ∧ Hid (SpotsAt w' R l.length l.length S)
theorem spots_of {l : List Ps.Nd} (h : Sc.fitB l = true) : Spots l (Sc.spot l (Sc.found l)) := fun W v ht => by
  refine (spots_any (fit_of h) ht).mono ?_
  rintro e w' ⟨R, rfl, h1, h2, h3⟩
  exact ⟨R, rfl, h1, h2, h3⟩
def Slots (l : List Ps.Nd) (S : Nat → Int) : Prop := ∀ W v, Told W v l → Calls Try.prog 14 #[v] W fun e w' => ∃ R, e = .returned (.slice (some ⟨R, 0, none⟩) l.length l.length) ∧ W.heap.size ≤ R ∧ Hid (Below W.heap.size W w') ∧ Hid (NumsAt w' R l.length l.length S)
theorem slots_of {l : List Ps.Nd} (h : Sc.fitB l = true) : Slots l (fun j => slotOf (Sc.found l) ((Sc.found l).own.getD j 0)) := fun W v ht => by
  refine (slots_any (fit_of h) ht).mono ?_
  rintro e w' ⟨R, rfl, h1, h2, h3⟩
  exact ⟨R, rfl, h1, h2, h3⟩
/-! ## The document's example, and a name -/
def t0 : List Ps.Nd := (Rp.rparse []).1
def t1 : List Ps.Nd := (Rp.rparse [108, 101, 116, 32, 97, 32, 61, 32, 49, 59, 32, 97]).1
theorem t0_ok : Rp.rparse [] = (t0, 0, true) ∧ t0.length = 1 ∧ Sc.fitB t0 = true ∧ slotOf (Sc.found t0) ((Sc.found t0).own.getD 0 0) = 0 := by decide +kernel
theorem t1_ok : Rp.rparse [108, 101, 116, 32, 97, 32, 61, 32, 49, 59, 32, 97] = (t1, 0, true) ∧ t1.length = 5 ∧ Sc.fitB t1 = true ∧ Sc.spot t1 (Sc.found t1) 2 = (0, 0) := by decide +kernel
theorem run_fieldT10 (u : Value) (a : Int) (b : Bool) (W : World) : (Instr.field 31 (.agg #[u, .int .i64 a, .bool b]) 0).run Try.prog W = .ok u W := by
  simp [Instr.field, go_sem, asAgg]
set_option maxRecDepth 100000 in
set_option maxHeartbeats 1000000 in
theorem awake_core (l0 l1 : List Ps.Nd) (n0 n1 : Nat) (hn0 : l0.length = n0) (hn1 : l1.length = n1) (h0 : n0 = 1) (h1 : n1 = 5) (S0 : Nat → Int) (S1 : Nat → Int × Int) (hS0 : S0 0 = 0) (hS1 : S1 2 = (0, 0)) (w : World)
    (HP0 : Hid (Reads [] l0)) (HP1 : Hid (Reads [108, 101, 116, 32, 97, 32, 61, 32, 49, 59, 32, 97] l1)) (HSL : Hid (Slots l0 S0)) (HSP : Hid (Spots l1 S1)) :
    Calls Try.prog 9 #[] w fun e w' => e = .returned (.bool true) ∧ Below w.heap.size w w' := by
  have HQ0 : Hid (∀ W, Calls Try.prog 12 #[.string ⟨#[]⟩] W fun e w' => ∃ g cap, e = .returned (.agg #[.slice (some ⟨g, 0, none⟩) l0.length cap, .int .i64 0, .bool true]) ∧ l0.length ≤ cap ∧ Hid (NodesAt w' g l0) ∧ Hid (Told w' (.slice (some ⟨g, 0, none⟩) l0.length cap) l0) ∧ Hid (Below W.heap.size W w')) := HP0.out
  have HQ1 : Hid (∀ W, Calls Try.prog 12 #[.string ⟨#[108, 101, 116, 32, 97, 32, 61, 32, 49, 59, 32, 97]⟩] W fun e w' => ∃ g cap, e = .returned (.agg #[.slice (some ⟨g, 0, none⟩) l1.length cap, .int .i64 0, .bool true]) ∧ l1.length ≤ cap ∧ Hid (NodesAt w' g l1) ∧ Hid (Told w' (.slice (some ⟨g, 0, none⟩) l1.length cap) l1) ∧ Hid (Below W.heap.size W w')) := HP1.out
  clear HP0 HP1
  have hfld := run_fieldT10
  go_enter Try.func9, Try.ntmps9
  go_wp2_with fail
  refine Calls.mono (HQ0.out _) ?_
  rintro e w1 ⟨g, cap, rfl, hc, hN, hT, hB⟩
  clear hN HQ0
  go_wp2_with fail
  have hTT := hT.out
  rw [show l0.length = 1 by omega] at hTT
  have hSL := HSL.out _ _ hTT
  refine Calls.mono hSL ?_
  rintro e w2 ⟨R, rfl, hR, hB2, hS2⟩
  clear hT HSL hSL hTT
  have HB2 : Hid (Below w.heap.size w w2) := hB.out.trans (hB2.out.mono hB.out.size)
  have HS2 : Hid (NumsAt w2 R n0 n0 S0) := by rw [← hn0]; exact hS2.out
  clear hB hB2 hS2 hR
  go_wp2_with fail
  refine Calls.mono (HQ1.out _) ?_
  rintro e w3 ⟨g1, cap1, rfl, hc1, hN1, hT1, hB3⟩
  clear hN1 HQ1
  go_wp2_with fail
  have hTT1 := hT1.out
  rw [show l1.length = 5 by omega] at hTT1
  have hSP := HSP.out _ _ hTT1
  refine Calls.mono hSP ?_
  rintro e w4 ⟨R1, rfl, hR1, hB4, hS4⟩
  have hB24 := hB3.out.trans (hB4.out.mono hB3.out.size)
  have hS24 := HS2.out.below hB24
  have cs := hS24.cells (j := 0) (by omega)
  have hRl := hS24.lt
  have hS4' : SpotsAt w4 R1 n1 n1 S1 := by rw [← hn1]; exact hS4.out
  have ⟨cp, cq⟩ := hS4'.cells (j := 2) (by omega)
  have hRl1 := hS4'.lt
  rw [hS0] at cs
  rw [hS1] at cp cq
  have HB5 : Hid (Below w.heap.size w w4) := HB2.out.trans (hB24.mono HB2.out.size)
  have hl0 : l0.length = 1 := by omega
  have hl1 : l1.length = 5 := by omega
  simp only [hl1]
  clear hT1 HSP hSP hTT1 HB2 HS2 hB3 hB4 hS4 hS24 hS4' hB24 hR1
  go_wp2_with fail
  go_ret
  exact ⟨rfl, HB5.out⟩
theorem awake_any (w : World) : Calls Try.prog 9 #[] w fun e w' => e = .returned (.bool true) ∧ Below w.heap.size w w' :=
  awake_core t0 t1 1 5 t0_ok.2.1 t1_ok.2.1 rfl rfl (fun j => slotOf (Sc.found t0) ((Sc.found t0).own.getD j 0)) _ t0_ok.2.2.2 t1_ok.2.2.2 w (reads_of (by simp) t0_ok.1 (by intro h; have := t0_ok.2.1; rw [h] at this; simp at this)) (reads_of (by simp) t1_ok.1 (by intro h; have := t1_ok.2.1; rw [h] at this; simp at this)) (slots_of t0_ok.2.2.1) (spots_of t1_ok.2.2.1)
end Go.Proofs.Ytkaacmghgobhmaa.Rd
end
