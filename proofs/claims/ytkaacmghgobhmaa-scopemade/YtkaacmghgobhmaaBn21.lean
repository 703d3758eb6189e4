/- Texts: SfE SfF ScZ ScSp. -/
import Derived.Test.YtkaacmghgobhmaaBn20
import Derived.Test.YtkaacmghgobhmaaBn16
section
namespace Go.Proofs.Ytkaacmghgobhmaa.Rd
open Go.RowKit
open L (tkA own_block own_below info_of wpList_append_run)
open Rp (Wf kindAt kidsAt)
set_option linter.unusedVariables false
theorem TreeIn.nmn {W : World} {g cap : Nat} {l : List Ps.Nd} (h : TreeIn W g cap l) {k : Nat} (hk : k < l.length) {kd : Nat} (hkd : kindAt l k = kd) : NmN g k kd (kidsAt l k) (l.getD k {}).names W := by
  obtain ⟨an, ak, cn, ck, d0, d2, d3, d4, dn, dck, dk⟩ := h.nd k hk
  rw [hkd] at d0
  exact ⟨an, ak, cn, ck, h.lt, d0, d3, d4, dn, kids_in dck dk⟩
theorem names_any {w : World} {g cap R : Nat} {l : List Ps.Nd} (h : TreeIn w g cap l) (hu : IntsAt w R (Sr.around l)) {k : Nat} (hk : k < l.length) :
    Calls Try.prog 27 #[.slice (some ⟨g, 0, none⟩) l.length cap, .slice (some ⟨R, 0, none⟩) l.length l.length, .int .i64 (k : Int)] w fun e w' => NmP w w' (Sr.names l (Sr.around l) k) e := by
  have hs := h.small hk
  have hdl : (Sr.decls l (kidsAt l k)).length ≤ 1000000 := Nat.le_trans (Sr.decls_len _ _) hs.1
  have HDL : Hid (∀ d ∈ Sr.decls l (kidsAt l k), d < l.length) := (show ∀ d ∈ Sr.decls l (kidsAt l k), d < l.length from fun d hd => by
    have := h.wf.kid k hk d (List.mem_filter.1 hd).1; omega)
  have HD : Hid (∀ W ak ck, Below w.heap.size w W → KidsIn W (.slice ak (kidsAt l k).length ck) (kidsAt l k) → Calls Try.prog 46 #[.slice (some ⟨g, 0, none⟩) l.length cap, .slice ak (kidsAt l k).length ck] W fun e w' => ∃ a cp, e = .returned (.slice a (Sr.decls l (kidsAt l k)).length cp) ∧ Hid (KidsIn w' (.slice a (Sr.decls l (kidsAt l k)).length cp) (Sr.decls l (kidsAt l k))) ∧ Hid (∀ gd, a = some ⟨gd, 0, none⟩ → W.heap.size ≤ gd) ∧ Hid (Below W.heap.size W w')) := fun W ak ck hW hK => by
    refine (decls_any (h.below hW) ak _ ck (kidsAt l k) hK (fun d hd => by have := h.wf.kid k hk d hd; omega) hs.1).mono ?_
    rintro e w' ⟨v, rfl, ho⟩
    have hki := ho.kidsIn
    obtain ⟨a, cp, rfl, _⟩ := id hki
    exact ⟨a, cp, rfl, hki, (show ∀ gd, a = some ⟨gd, 0, none⟩ → W.heap.size ≤ gd from fun gd e => (own_block ho.own gd (by rw [e]; rfl)).1), ho.bel⟩
  have HM : Hid (∀ W d, Below w.heap.size w W → d < l.length → Calls Try.prog 29 #[.slice (some ⟨g, 0, none⟩) l.length cap, .int .i64 (d : Int)] W fun e w' => e = .returned (.string ⟨(Sr.nameOf l d).toArray⟩) ∧ w' = W) := fun W d hW hd => name_any (h.below hW) hd
  have HC : ∀ r, Sr.catches l (Sr.around l) k = r → Hid (∀ W, Below w.heap.size w W → Calls Try.prog 45 #[.slice (some ⟨g, 0, none⟩) l.length cap, .slice (some ⟨R, 0, none⟩) l.length l.length, .int .i64 (k : Int)] W fun e w' => e = .returned (.bool r) ∧ w' = W) := fun r hr W hW => by
    have := catches_any (h.below hW) (hu.below (hW.mono (Nat.le_refl _))) hk
    rw [hr] at this
    exact this
  unfold Sr.names
  simp only
  by_cases h33 : kindAt l k = 33
  · rw [if_pos h33]
    exact names33 h.cap h.fit.few hk hdl hs.2.1 HDL (fun W hW => (h.below hW).nmn hk h33) HD HM _ rfl
  rw [if_neg h33]
  by_cases h10 : kindAt l k = 10
  · rw [if_pos h10]
    exact names10 h.cap h.fit.few hk hdl hs.2.1 HDL (fun W hW => (h.below hW).nmn hk h10) HD HM _ rfl
  rw [if_neg h10]
  by_cases h25 : kindAt l k = 25
  · by_cases hc : Sr.catches l (Sr.around l) k = true
    · rw [if_pos ⟨h25, hc⟩]
      have hup : ∃ p : Nat, p < l.length ∧ (Sr.around l).getD k 0 = (p : Int) := by
        have := (Sr.catches_of hc).1
        rcases Sr.up_cases h.wf hk with ⟨p, hp, _, _, e⟩ | ⟨_, e⟩
        · exact ⟨p, hp, e⟩
        · rw [show Sr.up l k = -1 from e] at this; omega
      obtain ⟨p, hp, ep⟩ := hup
      obtain ⟨cu, _⟩ := hu.cell (k := k) (by rw [around_len]; exact hk)
      rw [ep] at cu
      rw [ep, Int.toNat_natCast]
      obtain ⟨_, _, _, _, _, f2, _⟩ := h.nd p hp
      exact namesCat h.cap h.fit.few hk hdl hs.2.1 HDL (fun W hW => (h.below hW).nmn hk h25) HD HM p _ hp hu.lt cu f2 (HC true hc) _ rfl
    · rw [if_neg (fun e => hc e.2)]
      have hc : Sr.catches l (Sr.around l) k = false := by simpa using hc
      by_cases hd : Sr.decls l (kidsAt l k) = []
      · rw [if_neg (fun e => e.2 hd)]
        exact namesNo25 h.cap h.fit.few hk hdl hs.2.1 HDL (fun W hW => (h.below hW).nmn hk h25) HD HM (by rw [hd]; rfl) (HC false hc)
      · rw [if_pos ⟨h25, hd⟩]
        exact names25 h.cap h.fit.few hk hdl hs.2.1 HDL (fun W hW => (h.below hW).nmn hk h25) HD HM (List.length_pos_iff.2 hd) (HC false hc) _ rfl
  · rw [if_neg (fun e => h25 e.1), if_neg (fun e => h25 e.1)]
    exact namesNo h.cap h.fit.few hk hdl hs.2.1 HDL (fun W hW => (h.below hW).nmn hk rfl) HD HM h33 h10 h25
end Go.Proofs.Ytkaacmghgobhmaa.Rd
end
section
namespace Go.Proofs.Ytkaacmghgobhmaa.Rd
open Go.RowKit
open L (tkA own_block own_below info_of wpList_append_run)
open Rp (Wf kindAt kidsAt)
set_option linter.unusedVariables false
/-- A row of one's own, whatever is in it: n elements of so many cells. -/
structure OwnR (e : TypeId) (z : Nat) (w0 W : World) (v : Value) (n : Nat) (xs : List Value) : Prop where
  own : W.ownsRow w0.heap.size e z v n xs
  bel : Below w0.heap.size w0 W
theorem OwnR.nil {e : TypeId} {z : Nat} {w0 W : World} (h : Below w0.heap.size w0 W) : OwnR e z w0 W (.slice none 0 0) 0 [] := ⟨⟨by simp, .inl ⟨rfl, rfl⟩⟩, h⟩
theorem OwnR.below {e : TypeId} {z : Nat} {w0 W W' : World} {v : Value} {n : Nat} {xs : List Value} (h : OwnR e z w0 W v n xs) (hb : Below W.heap.size W W') : OwnR e z w0 W' v n xs := ⟨own_below h.own hb, h.bel.trans (hb.mono h.bel.size)⟩
theorem OwnR.more {ts te : TypeId} {i0 : TypeInfo} {zv : Value} {sz by_ : Nat} (hu : Try.prog.underlying ts = some (.slice te)) (hi : Try.prog.info? te = some i0) (hz0 : i0.zero = some zv) (hz1 : i0.size = sz) (hz2 : i0.bytes = by_) (hzs : zv.cells.size = sz) (hsz : 0 < sz) (hby : by_ ≤ 1000)
    {w0 W : World} {v : Value} {n : Nat} {xs : List Value} (h : OwnR te sz w0 W v n xs) (news : Array Value) (hl : news.size = sz) (h1 : ∀ u ∈ news.toList, u.oneCell' = true) (hn : n + 1 ≤ 10000000) :
    ∃ a' cap' w3, (Builtin.append_ #[ts, ts] ts #[v, .slice (some ⟨W.heap.size, 0, none⟩) 1 1]).run Try.prog (W.alloc (.cells news te)) = .ok (.slice a' (n + 1) cap') w3 ∧ OwnR te sz w0 w3 (.slice a' (n + 1) cap') (n + 1) (xs ++ news.toList) := by
  have hW : Below W.heap.size W (W.alloc (.cells news te)) := (Below.refl _ _).alloc (Nat.le_refl _) _
  have ho1 := own_below h.own hW
  have nl := own_block h.own
  have hA := (MapKept.heap_alloc W (.cells news te)).1
  have hnews : ∀ j u, news.toList[j]? = some u → (W.alloc (.cells news te)).cell? ((⟨W.heap.size, 0, none⟩ : Addr).add j) = some u := fun j u hj => by
    have e2 : (⟨W.heap.size, 0, none⟩ : Addr).add j = ⟨W.heap.size, j, none⟩ := by
      simp only [Addr.add]
      by_cases e0 : j = 0
      · subst e0; rfl
      · simp [e0]
    rw [e2]
    unfold World.cell?
    rw [hA]
    simpa using hj
  have hmul : (n + 1) * by_ ≤ 140737488355328 := Nat.le_trans (Nat.mul_le_mul hn hby) (by omega)
  obtain ⟨v', w3, hr, ho, hg, _, hat⟩ := run_append_own_at (P := Try.prog) (W.alloc (.cells news te)) w0.heap.size ts ts te i0 zv sz by_ hu hi hz0 hz1 hz2 hzs hsz v n xs ho1 ⟨W.heap.size, 0, none⟩ 1 1 news.toList (by simp [hl]) hnews h1 (by unfold maxLen; omega) hmul (Nat.le_trans h.bel.size hW.size)
  obtain ⟨a, cap, rfl⟩ : ∃ a cap, v' = .slice a (n + 1) cap := by
    rcases ho.2 with ⟨_, e⟩ | ⟨g, cap, cur, e, _⟩
    · omega
    · exact ⟨_, _, e⟩
  refine ⟨a, cap, w3, hr, ho, ?_⟩
  refine ⟨hg.os.trans (hW.os.trans h.bel.os), hg.tape.trans (hW.tape.trans h.bel.tape), hg.output.trans (hW.output.trans h.bel.output), Nat.le_trans h.bel.size (Nat.le_trans hW.size hg.size), fun k hk => ?_⟩
  have hks := Nat.lt_of_lt_of_le hk h.bel.size
  refine ((hg.block k (Nat.lt_of_lt_of_le hks hW.size) (fun e => ?_)).trans (hW.block k hks)).trans (h.bel.block k hk)
  have := (nl k e.symm).1
  omega
theorem OwnR.cells {e : TypeId} {z n : Nat} {w0 W : World} {v : Value} {xs : List Value} (h : OwnR e z w0 W v n xs) : ∃ ad cap, v = .slice ad n cap ∧ n ≤ cap ∧ (n = 0 ∨ ∃ g, ad = some ⟨g, 0, none⟩ ∧ w0.heap.size ≤ g ∧ g < W.heap.size ∧ ∀ j, j < n * z → W.cell? ⟨g, j, none⟩ = xs[j]?) := by
  have nl := own_block h.own
  rcases h.own.2 with ⟨rfl, rfl⟩ | ⟨g, cap, cur, rfl, h1, h2, h3, h4, h5, h6⟩
  · exact ⟨none, 0, rfl, Nat.le_refl _, .inl rfl⟩
  · refine ⟨_, cap, rfl, h3, .inr ⟨g, rfl, h1, (nl g rfl).2, fun j hj => ?_⟩⟩
    have hxl := h.own.1
    rw [← h6, List.getElem?_take, if_pos (by omega)]
    simp [World.cell?, h2]
/-- The first j numbers of names. -/
def slotsTo (l : List Ps.Nd) (j : Nat) : List Value := (List.range j).map fun i => Value.int .i64 (Sr.slot l i)
theorem slotsTo_succ (l : List Ps.Nd) (j : Nat) : slotsTo l (j + 1) = slotsTo l j ++ #[Value.int .i64 (Sr.slot l j)].toList := by unfold slotsTo; rw [List.range_succ, List.map_append]; rfl
set_option maxRecDepth 100000 in
set_option maxHeartbeats 4000000 in
theorem rslots_core {w : World} {g cap n : Nat} {l : List Ps.Nd} (hfew : n ≤ 1000000) (hcap : n ≤ cap) (hg : g < w.heap.size) (N : Nat → Option (List (List UInt8))) (hN : ∀ j, Sr.slot l j = match N j with | some X => (X.length : Int) | none => -1) (K : World → Nat → Prop)
    (HA : Hid (Calls Try.prog 26 #[.slice (some ⟨g, 0, none⟩) n cap] w fun e w' => ∃ R, e = .returned (.slice (some ⟨R, 0, none⟩) n n) ∧ Hid (Below w.heap.size w w') ∧ Hid (K w' R)))
    (HM : Hid (∀ w1 R W k, K w1 R → Below w1.heap.size w1 W → k < n → Calls Try.prog 27 #[.slice (some ⟨g, 0, none⟩) n cap, .slice (some ⟨R, 0, none⟩) n n, .int .i64 (k : Int)] W fun e w' => NmP W w' (N k) e)) :
    Calls Try.prog 18 #[.slice (some ⟨g, 0, none⟩) n cap] w fun e w' => ∃ v, e = .returned v ∧ Below w.heap.size w w' ∧ ∃ w1, OwnR 3 1 w1 w' v n (slotsTo l n) := by
  obtain ⟨i0, hi, hz0, hz1, hz2⟩ := info_of infoInt1
  have HMORE : Hid (∀ {w0 W : World} {v : Value} {m : Nat} {xs : List Value} (h : OwnR 3 1 w0 W v m xs) (z : Int), m + 1 ≤ 10000000 → ∃ a' cap' w3, (Builtin.append_ #[36, 36] 36 #[v, .slice (some ⟨W.heap.size, 0, none⟩) 1 1]).run Try.prog (W.alloc (.cells #[.int .i64 z] 3)) = .ok (.slice a' (m + 1) cap') w3 ∧ OwnR 3 1 w0 w3 (.slice a' (m + 1) cap') (m + 1) (xs ++ #[Value.int .i64 z].toList)) := fun h z hm =>
    OwnR.more Try.underlying36 hi hz0 hz1 hz2 rfl (by decide) (by omega) h #[.int .i64 z] rfl (by intro u hu; simp at hu; subst hu; rfl) hm
  go_enter Try.func18, Try.ntmps18
  go_wp2_with fail
  refine Calls.mono HA.out ?_
  rintro e w1 ⟨R, rfl, hb1, hk1⟩
  have HNM : Hid (∀ W k, Below w1.heap.size w1 W → k < n → Calls Try.prog 27 #[.slice (some ⟨g, 0, none⟩) n cap, .slice (some ⟨R, 0, none⟩) n n, .int .i64 (k : Int)] W fun e w' => NmP W w' (N k) e) := fun W k hW hk => HM.out w1 R W k hk1.out hW hk
  have H0 : Hid (OwnR 3 1 w1 w1 (.slice none 0 0) 0 (slotsTo l 0)) := OwnR.nil (Below.refl _ _)
  clear HA HM hk1
  go_wp2_with fail
  go_loopw [4, 5] (fun v i W => ∃ (j : Nat) (ad : Option Addr) (cp : Nat), j ≤ n ∧ i = .int .i64 (j : Int) ∧ v = .slice ad j cp ∧ Hid (OwnR 3 1 w1 W (.slice ad j cp) j (slotsTo l j))) (fun _ i _ => n - (L.intOf i).toNat)
  case atStart => exact ⟨0, none, 0, by omega, rfl, rfl, H0⟩
  case round =>
    obtain ⟨j, ad, cp, hj, rfl, rfl, HO⟩ := hrel
    clear H0
    by_cases hjn : j < n
    · have hjn' : (j : Int) < n := by omega
      have hj0 : (0 : Int) ≤ j := by omega
      have HNJ : Hid (_) := HNM.out wr j HO.out.bel hjn
      have es := slotsTo_succ l j
      have hNj := hN j
      go_wp2_with fail
      refine Calls.mono HNJ.out ?_
      intro e w2 hp
      clear HNJ
      cases hX : N j with
      | some X =>
        rw [hX] at hp hNj
        obtain ⟨a, c, rfl, ho⟩ := hp
        simp only at hNj
        obtain ⟨a3, cap3, w3, hap, ho3⟩ := HMORE.out (HO.out.below ho.bel) (X.length : Int) (by omega)
        have HRn : Hid (_) := hap
        have HO3 : Hid (OwnR 3 1 w1 w3 (.slice a3 (j + 1) cap3) (j + 1) (slotsTo l (j + 1))) := (show OwnR _ _ _ _ _ _ _ from by rw [es, hNj]; exact ho3)
        clear HO ho hap ho3 es hNj hX
        generalize X.length = m at *
        go_wp2_with (at_builtin; refine wpList_append_run _ _ 36 rfl rfl _ _ _ _ rfl rfl HRn.out ?_)
        go_roundw
        case rel => exact ⟨j + 1, a3, cap3, by omega, by go_num, rfl, HO3⟩
        case measure => simp [L.intOf] <;> omega
      | none =>
        rw [hX] at hp hNj
        obtain ⟨rfl, hb2⟩ := hp
        simp only at hNj
        obtain ⟨a3, cap3, w3, hap, ho3⟩ := HMORE.out (HO.out.below hb2) (-1) (by omega)
        have HRn : Hid (_) := hap
        have HO3 : Hid (OwnR 3 1 w1 w3 (.slice a3 (j + 1) cap3) (j + 1) (slotsTo l (j + 1))) := (show OwnR _ _ _ _ _ _ _ from by rw [es, hNj]; exact ho3)
        clear HO hb2 hap ho3 es hNj hX
        go_wp2_with (at_builtin; refine wpList_append_run _ _ 36 rfl rfl _ _ _ _ rfl rfl HRn.out ?_)
        go_roundw
        case rel => exact ⟨j + 1, a3, cap3, by omega, by go_num, rfl, HO3⟩
        case measure => simp [L.intOf] <;> omega
    · have hjn' : ¬ (j : Int) < n := by omega
      have : j = n := by omega
      subst this
      have HBW : Hid (Below w.heap.size w wr) := hb1.out.trans (HO.out.bel.mono hb1.out.size)
      clear HNM HMORE hb1
      go_wp2_with fail
      go_ret
      exact ⟨_, rfl, HBW.out, w1, HO.out⟩
theorem rslots_any {w : World} {nv : Value} {l : List Ps.Nd} (hf : Fit l) (hw : Wf l) (ht : Told w nv l) :
    Calls Try.prog 18 #[nv] w fun e w' => ∃ v, e = .returned v ∧ Below w.heap.size w w' ∧ ∃ w1, OwnR 3 1 w1 w' v l.length (slotsTo l l.length) := by
  have har := around_any hf hw ht
  obtain ⟨g, cap, rfl, h⟩ := ht.treeIn hf hw
  refine rslots_core hf.few h.cap h.lt (fun k => Sr.names l (Sr.around l) k) (fun j => by unfold Sr.slot; rfl) (fun w1 R => TreeIn w1 g cap l ∧ IntsAt w1 R (Sr.around l)) (har.mono ?_) (fun w1 R W k hK hW hk => names_any (hK.1.below hW) (hK.2.below hW) hk)
  rintro e w' ⟨R, rfl, h1, h2, h3⟩
  exact ⟨R, rfl, h2, h.below h2, h3⟩
end Go.Proofs.Ytkaacmghgobhmaa.Rd
end
section
namespace Go.Proofs.Ytkaacmghgobhmaa.Rd
open Go.RowKit
open L (tkA own_block own_below info_of)
set_option linter.unusedVariables false
/-- A row of numbers, the first k of them as they are to be. -/
def NumsAt (W : World) (R n k : Nat) (S : Nat → Int) : Prop := ∃ M : Array Value, W.heap[R]? = some (.cells M 3 (0, 0)) ∧ M.size = n ∧ ∀ j, j < k → M[j]? = some (.int .i64 (S j))
theorem NumsAt.cell {W : World} {g n k : Nat} {S : Nat → Int} (h : NumsAt W g n k S) (hk : k < n) : (∃ u, W.cell? ⟨g, k, none⟩ = some u) ∧ W.frozen? ⟨g, k, none⟩ = false ∧ g < W.heap.size := by
  obtain ⟨M, h1, h2, _⟩ := h
  refine ⟨⟨M[k], ?_⟩, by simp [World.frozen?, h1], lt_of_some h1⟩
  unfold World.cell?
  rw [h1]
  exact Array.getElem?_eq_getElem (by show k < M.size; omega)
theorem NumsAt.set {W : World} {g n k : Nat} {S : Nat → Int} (h : NumsAt W g n k S) (hk : k < n) {v : Int} (hv : v = S k) : NumsAt (W.setCell ⟨g, k, none⟩ (.int .i64 v)) g n (k + 1) S := by
  obtain ⟨M, h1, h2, h3⟩ := h
  refine ⟨M.setIfInBounds k (.int .i64 v), by simp [World.setCell, Array.getElem?_modify, h1], by simpa using h2, fun j hj => ?_⟩
  by_cases e : k = j
  · subst e; rw [← hv]; exact Array.getElem?_setIfInBounds_self_of_lt (by omega)
  · rw [Array.getElem?_setIfInBounds_ne e]; exact h3 j (by omega)
theorem NumsAt.less {W : World} {g n k : Nat} {S : Nat → Int} {v : Value} (h : NumsAt W g n k S) : NumsAt (W.setCell ⟨g, k, none⟩ v) g n k S := by
  obtain ⟨M, h1, h2, h3⟩ := h
  refine ⟨M.setIfInBounds k v, by simp [World.setCell, Array.getElem?_modify, h1], by simpa using h2, fun j hj => ?_⟩
  rw [Array.getElem?_setIfInBounds_ne (by omega)]; exact h3 j hj
set_option maxRecDepth 100000 in
set_option maxHeartbeats 4000000 in
theorem slots_core (w : World) (g n cap : Nat) (hn : n ≤ 1000000) (hcap : n ≤ cap) (S : Nat → Int) (K : Nat → World → Prop)
    (HF : Hid (Calls Try.prog 24 #[.slice (some ⟨g, 0, none⟩) n cap] w fun e w' => ∃ b, e = .returned (.pointer (some ⟨b, 0, none⟩)) ∧ Below w.heap.size w w' ∧ K b w'))
    (HK : Hid (∀ b w1, K b w1 → ∃ (go gs ns cs : Nat) (O : Nat → Int), ns ≤ cs ∧ ns ≤ 10000000 ∧ ∀ W, Below w1.heap.size w1 W → b < W.heap.size ∧ go < W.heap.size ∧ W.cell? ⟨b, 3, none⟩ = some (.slice (some ⟨go, 0, none⟩) n n) ∧ ∀ j, j < n → W.cell? ⟨go, j, none⟩ = some (.int .i64 (O j)) ∧ (O j = -1 → S j = -1) ∧ (O j ≠ -1 → ∃ q : Nat, O j = (q : Int) ∧ q < ns ∧ W.cell? ⟨b, 1, none⟩ = some (.slice (some ⟨gs, 0, none⟩) ns cs) ∧ gs < W.heap.size ∧ W.cell? ⟨gs, q * 3 + 2, none⟩ = some (.int .i64 (S j))))) :
    Calls Try.prog 14 #[.slice (some ⟨g, 0, none⟩) n cap] w fun e w' => ∃ R, e = .returned (.slice (some ⟨R, 0, none⟩) n n) ∧ w.heap.size ≤ R ∧ Below w.heap.size w w' ∧ NumsAt w' R n n S := by
  obtain ⟨M, hM, _, hmk⟩ := make_ints n hn
  go_enter Try.func14, Try.ntmps14
  go_wp2_with fail
  refine Calls.mono HF.out ?_
  rintro e w2 ⟨b, rfl, hb2, hk2⟩
  obtain ⟨go, gs, ns, cs, O, hcs, hns, hall⟩ := HK.out b w2 hk2
  have hA : Below w2.heap.size w2 (w2.alloc (.cells M 3)) := (Below.refl _ _).alloc (Nat.le_refl _) _
  obtain ⟨hb, hg, c3, _⟩ := hall _ hA
  have HALL : Hid (_) := hall
  have H0 : Hid (Below w2.heap.size w2 (w2.alloc (.cells M 3)) ∧ NumsAt (w2.alloc (.cells M 3)) w2.heap.size n 0 S) := ⟨hA, M, (MapKept.heap_alloc w2 _).1, hM, fun j hj => by omega⟩
  have HB2 : Hid (Below w.heap.size w w2) := hb2
  clear hall hk2 HF HK hb2 hA
  go_wp2_with fail
  go_loopw [17] (fun i W => ∃ k : Nat, k ≤ n ∧ i = .int .i64 (k : Int) ∧ Hid (Below w2.heap.size w2 W ∧ NumsAt W w2.heap.size n k S)) (fun i _ => n - (L.intOf i).toNat)
  case atStart => exact ⟨0, by omega, rfl, H0⟩
  case round =>
    obtain ⟨k, hk, rfl, HW⟩ := hrel
    clear H0 hb hg c3
    by_cases hkn : k < n
    · have hkn' : (k : Int) < n := by omega
      have hk0 : (0 : Int) ≤ k := by omega
      obtain ⟨hb, hg, c3, hj⟩ := HALL.out _ HW.out.1
      obtain ⟨co, ho1, ho2⟩ := hj k hkn
      obtain ⟨⟨u, cu⟩, fu, hRl⟩ := HW.out.2.cell hkn
      by_cases ho : O k = -1
      · rw [ho] at co
        have H1 : Hid (Below w2.heap.size w2 (wr.setCell ⟨w2.heap.size, k, none⟩ (.int .i64 (-1))) ∧ NumsAt (wr.setCell ⟨w2.heap.size, k, none⟩ (.int .i64 (-1))) w2.heap.size n (k + 1) S) := ⟨HW.out.1.setCell (Nat.le_refl _) _, HW.out.2.set hkn (ho1 ho).symm⟩
        clear ho1 ho2 hj HALL HW
        go_wp2_with fail
        go_roundw
        case rel => exact ⟨k + 1, by omega, by go_num, H1⟩
        case measure => simp [L.intOf] <;> omega
      · have hW1 : Below w2.heap.size w2 (wr.setCell ⟨w2.heap.size, k, none⟩ (.int .i64 (-1))) := HW.out.1.setCell (Nat.le_refl _) _
        have hN1 := HW.out.2.less (v := .int .i64 (-1))
        obtain ⟨hb', hg', c3', hj'⟩ := HALL.out _ hW1
        obtain ⟨_, _, ho2'⟩ := hj' k hkn
        obtain ⟨q, hq1, hq, c1, hgs, cq⟩ := ho2' ho
        obtain ⟨⟨u2, cu2⟩, fu2, hRl2⟩ := hN1.cell hkn
        rw [hq1] at co
        have hq' : (q : Int) < ns := by omega
        have hq0 : (0 : Int) ≤ q := by omega
        have hqn : ¬ (q : Int) = -1 := by omega
        have H1 : Hid (Below w2.heap.size w2 ((wr.setCell ⟨w2.heap.size, k, none⟩ (.int .i64 (-1))).setCell ⟨w2.heap.size, k, none⟩ (.int .i64 (S k))) ∧ NumsAt ((wr.setCell ⟨w2.heap.size, k, none⟩ (.int .i64 (-1))).setCell ⟨w2.heap.size, k, none⟩ (.int .i64 (S k))) w2.heap.size n (k + 1) S) := ⟨hW1.setCell (Nat.le_refl _) _, hN1.set hkn rfl⟩
        clear ho1 ho2 ho2' hj hj' HALL HW hW1 hN1
        generalize S k = sk at *
        go_wp2_with fail
        go_roundw
        case rel => exact ⟨k + 1, by omega, by go_num, H1⟩
        case measure => simp [L.intOf] <;> omega
    · have hkn' : ¬ (k : Int) < n := by omega
      have : k = n := by omega
      subst this
      have hsz := HB2.out.size
      go_wp2_with fail
      go_ret
      exact ⟨_, rfl, hsz, HB2.out.trans (HW.out.1.mono hsz), HW.out.2⟩
/-- How many names a node's scope has. -/
def slotOf (s : Sc.Fs) (o : Int) : Int := if o = -1 then -1 else ((s.scopes[o.toNat]?.map (fun p => (p.names.length : Int))).getD 0)
theorem slots_any {w : World} {l : List Ps.Nd} {nv : Value} (hf : Fit l) (ht : Told w nv l) :
    Calls Try.prog 14 #[nv] w fun e w' => ∃ R, e = .returned (.slice (some ⟨R, 0, none⟩) l.length l.length) ∧ w.heap.size ≤ R ∧ Below w.heap.size w w' ∧ NumsAt w' R l.length l.length (fun j => slotOf (Sc.found l) ((Sc.found l).own.getD j 0)) := by
  have hfa := found_any hf ht
  have hfew := hf.few
  obtain ⟨g, cap, an, ak, cn, ck, rfl, hg, hc, hrest⟩ := ht.node 0 (by cases l with | nil => exact absurd rfl hf.ne | cons => simp)
  refine slots_core w g l.length cap hf.few hc _ (fun b w1 => ∃ gi go sv mb, FS w w1 b gi go sv mb l (.slice (some ⟨g, 0, none⟩) l.length cap) (2 * l.length) (Sc.found l)) (hfa.mono ?_) (fun b w1 hk => ?_)
  · rintro e w' ⟨b, gi, go, sv, mb, rfl, h⟩
    exact ⟨b, rfl, h.bel, gi, go, sv, mb, h⟩
  · obtain ⟨gi, go, sv, mb, h⟩ := hk
    have hcnt := h.cnt
    clear hfa hrest
    generalize Sc.found l = s at *
    have hos : ∀ j, j < l.length → -1 ≤ s.own.getD j 0 ∧ s.own.getD j 0 < s.scopes.length := fun j hj => h.ok.own _ (Sc.getD_mem (by rw [h.ok.lo]; exact hj))
    rcases h.row.own.2 with ⟨_, h0⟩ | ⟨gs, cs, cur, hv, _, _, hcs, _⟩
    · refine ⟨go, 0, 0, 0, fun j => s.own.getD j 0, by omega, by omega, fun W hW => ?_⟩
      have hf := h.below hW
      obtain ⟨c0, c1, c2, c3, fz, xb, xi, xo⟩ := hf.cells
      refine ⟨xb, xo, c3, fun j hj => ⟨(hf.ownAt j hj).1, fun e => by have e : s.own.getD j 0 = -1 := e; show slotOf s (s.own.getD j 0) = -1; rw [e]; rfl, fun e => ?_⟩⟩
      have := hos j hj
      exact absurd (show s.own.getD j 0 = -1 by omega) e
    · refine ⟨go, gs, s.scopes.length, cs, fun j => s.own.getD j 0, hcs, by omega, fun W hW => ?_⟩
      have hf := h.below hW
      obtain ⟨c0, c1, c2, c3, fz, xb, xi, xo⟩ := hf.cells
      refine ⟨xb, xo, c3, fun j hj => ⟨(hf.ownAt j hj).1, fun e => by have e : s.own.getD j 0 = -1 := e; show slotOf s (s.own.getD j 0) = -1; rw [e]; rfl, fun e => ?_⟩⟩
      have hb := hos j hj
      have hq : (s.own.getD j 0).toNat < s.scopes.length := by
        have e : s.own.getD j 0 ≠ -1 := e
        omega
      obtain ⟨g2, cap2, m, e1, _, _, hg2, _, _, _, _, _, _, d2, _⟩ := hf.row.at_ _ hq
      rw [hv] at e1
      simp only [Value.slice.injEq, Option.some.injEq, Addr.mk.injEq, and_true, true_and] at e1
      obtain ⟨rfl, rfl⟩ := e1
      refine ⟨(s.own.getD j 0).toNat, by have e : s.own.getD j 0 ≠ -1 := e; show s.own.getD j 0 = _; omega, hq, by rw [c1, hv], hg2, ?_⟩
      rw [d2]
      have e : s.own.getD j 0 ≠ -1 := e
      simp only [slotOf, if_neg e, List.getElem?_eq_getElem hq, Option.map_some, Option.getD_some]
end Go.Proofs.Ytkaacmghgobhmaa.Rd
end
section
namespace Go.Proofs.Ytkaacmghgobhmaa.Rd
open Go.RowKit
open L (tkA own_block own_below info_of)
set_option linter.unusedVariables false
/-- A row of spots, the first k of them as they are to be. -/
def SpotsAt (W : World) (R n k : Nat) (S : Nat → Int × Int) : Prop := ∃ M : Array Value, W.heap[R]? = some (.cells M 40 (0, 0)) ∧ M.size = n * 2 ∧ ∀ j, j < k → M[j * 2]? = some (.int .i64 (S j).1) ∧ M[j * 2 + 1]? = some (.int .i64 (S j).2)
theorem SpotsAt.lt {W : World} {g n k : Nat} {S : Nat → Int × Int} (h : SpotsAt W g n k S) : g < W.heap.size := by
  obtain ⟨M, h1, _⟩ := h; exact lt_of_some h1
theorem SpotsAt.cell {W : World} {g n k : Nat} {S : Nat → Int × Int} (h : SpotsAt W g n k S) {i : Nat} (hi : i < n * 2) : (∃ u, W.cell? ⟨g, i, none⟩ = some u) ∧ W.frozen? ⟨g, i, none⟩ = false := by
  obtain ⟨M, h1, h2, _⟩ := h
  refine ⟨⟨M[i], ?_⟩, by simp [World.frozen?, h1]⟩
  unfold World.cell?
  rw [h1]
  exact Array.getElem?_eq_getElem (by show i < M.size; omega)
theorem SpotsAt.set {W : World} {g n k : Nat} {S : Nat → Int × Int} (h : SpotsAt W g n k S) (hk : k < n) : SpotsAt ((W.setCell ⟨g, k * 2, none⟩ (.int .i64 (S k).1)).setCell ⟨g, k * 2 + 1, none⟩ (.int .i64 (S k).2)) g n (k + 1) S := by
  obtain ⟨M, h1, h2, h3⟩ := h
  refine ⟨(M.setIfInBounds (k * 2) (.int .i64 (S k).1)).setIfInBounds (k * 2 + 1) (.int .i64 (S k).2), by simp [World.setCell, Array.getElem?_modify, h1], by simpa using h2, fun j hj => ?_⟩
  by_cases e : j = k
  · subst e
    refine ⟨?_, Array.getElem?_setIfInBounds_self_of_lt (by simp; omega)⟩
    rw [Array.getElem?_setIfInBounds_ne (by omega)]
    exact Array.getElem?_setIfInBounds_self_of_lt (by omega)
  · obtain ⟨a, b⟩ := h3 j (by omega)
    refine ⟨?_, ?_⟩
    · rw [Array.getElem?_setIfInBounds_ne (by omega), Array.getElem?_setIfInBounds_ne (by omega)]; exact a
    · rw [Array.getElem?_setIfInBounds_ne (by omega), Array.getElem?_setIfInBounds_ne (by omega)]; exact b
theorem SpotsAt.below {W W' : World} {g n k : Nat} {S : Nat → Int × Int} (h : SpotsAt W g n k S) (hb : Below W.heap.size W W') : SpotsAt W' g n k S := by
  obtain ⟨M, h1, h2⟩ := h
  exact ⟨M, (hb.block _ (lt_of_some h1)).trans h1, h2⟩
theorem infoSpot1 : (Try.prog.info? 40).map (fun i => (i.zero, i.size, i.bytes)) = some (some (.agg #[.int .i64 0, .int .i64 0]), 2, 16) := by kernel_rfl
theorem make_spots (n : Nat) (hn : n ≤ 1000000) : ∃ M : Array Value, M.size = n * 2 ∧ ∀ W : World, (Instr.makeSlice 33 (.int .i64 (n : Int)) (.int .i64 (n : Int))).run Try.prog W = .ok (.slice (some ⟨W.heap.size, 0, none⟩) n n) (W.alloc (.cells M 40)) := by
  obtain ⟨i0, hi, hz0, hz1, hz2⟩ := info_of infoSpot1
  refine ⟨madeCells (Value.agg #[.int .i64 0, .int .i64 0]).cells (n * 2), by rw [size_madeCells], fun W => ?_⟩
  have := run_make (P := Try.prog) W 33 40 i0 _ Try.underlying33 hi hz0 .i64 .i64 n n (by omega) (Int.le_refl _) (by rw [hz2]; omega) (by omega)
  simp only [Int.toNat_natCast, hz1] at this
  exact this
set_option maxRecDepth 100000 in
set_option maxHeartbeats 4000000 in
theorem spots_core (w : World) (g n cap : Nat) (hn : n ≤ 1000000) (hcap : n ≤ cap) (S : Nat → Int × Int) (K : Nat → World → Prop)
    (HF : Hid (Calls Try.prog 24 #[.slice (some ⟨g, 0, none⟩) n cap] w fun e w' => ∃ b, e = .returned (.pointer (some ⟨b, 0, none⟩)) ∧ Below w.heap.size w w' ∧ K b w'))
    (HK : Hid (∀ b w1, K b w1 → ∀ W, Below w1.heap.size w1 W → ∀ k : Nat, k < n → Calls Try.prog 25 #[.pointer (some ⟨b, 0, none⟩), .int .i64 (k : Int)] W fun e w' => e = .returned (.agg #[.int .i64 (S k).1, .int .i64 (S k).2]) ∧ Below W.heap.size W w')) :
    Calls Try.prog 13 #[.slice (some ⟨g, 0, none⟩) n cap] w fun e w' => ∃ R, e = .returned (.slice (some ⟨R, 0, none⟩) n n) ∧ w.heap.size ≤ R ∧ Below w.heap.size w w' ∧ SpotsAt w' R n n S := by
  obtain ⟨M, hM, hmk⟩ := make_spots n hn
  go_enter Try.func13, Try.ntmps13
  go_wp2_with fail
  refine Calls.mono HF.out ?_
  rintro e w2 ⟨b, rfl, hb2, hk2⟩
  have HALL : Hid (_) := HK.out b w2 hk2
  have hA : Below w2.heap.size w2 (w2.alloc (.cells M 40)) := (Below.refl _ _).alloc (Nat.le_refl _) _
  have H0 : Hid (Below w2.heap.size w2 (w2.alloc (.cells M 40)) ∧ SpotsAt (w2.alloc (.cells M 40)) w2.heap.size n 0 S) := ⟨hA, M, (MapKept.heap_alloc w2 _).1, hM, fun j hj => by omega⟩
  have HB2 : Hid (Below w.heap.size w w2) := hb2
  clear hk2 HF HK hb2 hA
  go_wp2_with fail
  go_loopw [13] (fun i W => ∃ k : Nat, k ≤ n ∧ i = .int .i64 (k : Int) ∧ Hid (Below w2.heap.size w2 W ∧ SpotsAt W w2.heap.size n k S)) (fun i _ => n - (L.intOf i).toNat)
  case atStart => exact ⟨0, by omega, rfl, H0⟩
  case round =>
    obtain ⟨k, hk, rfl, HW⟩ := hrel
    clear H0
    by_cases hkn : k < n
    · have hkn' : (k : Int) < n := by omega
      have hk0 : (0 : Int) ≤ k := by omega
      have HSP : Hid (_) := HALL.out _ HW.out.1 k hkn
      go_wp2_with fail
      refine Calls.mono HSP.out ?_
      rintro e w3 ⟨rfl, hb3⟩
      have HW3 : Hid (Below w2.heap.size w2 w3 ∧ SpotsAt w3 w2.heap.size n k S) := ⟨HW.out.1.trans (hb3.mono HW.out.1.size), HW.out.2.below hb3⟩
      clear hb3 HSP HW HALL
      obtain ⟨⟨u, cu⟩, fu⟩ := HW3.out.2.cell (i := k * 2) (by omega)
      obtain ⟨⟨u1, cu1⟩, fu1⟩ := HW3.out.2.cell (i := k * 2 + 1) (by omega)
      have hRl := HW3.out.2.lt
      have H1 : Hid (Below w2.heap.size w2 ((w3.setCell ⟨w2.heap.size, k * 2, none⟩ (.int .i64 (S k).1)).setCell ⟨w2.heap.size, k * 2 + 1, none⟩ (.int .i64 (S k).2)) ∧ SpotsAt ((w3.setCell ⟨w2.heap.size, k * 2, none⟩ (.int .i64 (S k).1)).setCell ⟨w2.heap.size, k * 2 + 1, none⟩ (.int .i64 (S k).2)) w2.heap.size n (k + 1) S) := ⟨(HW3.out.1.setCell (Nat.le_refl _) _).setCell (Nat.le_refl _) _, HW3.out.2.set hkn⟩
      clear HW3
      generalize (S k).1 = s1 at *
      generalize (S k).2 = s2 at *
      go_wp2_with fail
      go_roundw
      case rel => exact ⟨k + 1, by omega, by go_num, H1⟩
      case measure => simp [L.intOf] <;> omega
    · have hkn' : ¬ (k : Int) < n := by omega
      have : k = n := by omega
      subst this
      have hsz := HB2.out.size
      go_wp2_with fail
      go_ret
      exact ⟨_, rfl, hsz, HB2.out.trans (HW.out.1.mono hsz), HW.out.2⟩
theorem spots_any {w : World} {l : List Ps.Nd} {nv : Value} (hf : Fit l) (ht : Told w nv l) :
    Calls Try.prog 13 #[nv] w fun e w' => ∃ R, e = .returned (.slice (some ⟨R, 0, none⟩) l.length l.length) ∧ w.heap.size ≤ R ∧ Below w.heap.size w w' ∧ SpotsAt w' R l.length l.length (Sc.spot l (Sc.found l)) := by
  have hfa := found_any hf ht
  obtain ⟨g, cap, an, ak, cn, ck, rfl, hg, hc, hrest⟩ := ht.node 0 (by cases l with | nil => exact absurd rfl hf.ne | cons => simp)
  refine spots_core w g l.length cap hf.few hc _ (fun b w1 => ∃ gi go sv mb, FS w w1 b gi go sv mb l (.slice (some ⟨g, 0, none⟩) l.length cap) (2 * l.length) (Sc.found l)) (hfa.mono ?_) (fun b w1 hk W hW k hkn => ?_)
  · rintro e w' ⟨b, gi, go, sv, mb, rfl, h⟩
    exact ⟨b, rfl, h.bel, gi, go, sv, mb, h⟩
  · obtain ⟨gi, go, sv, mb, h⟩ := hk
    exact spot_any (h.below hW) (by have := hf.few; omega) k hkn
end Go.Proofs.Ytkaacmghgobhmaa.Rd
end
