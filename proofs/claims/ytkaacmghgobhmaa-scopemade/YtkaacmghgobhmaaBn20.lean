/- Texts: SfC SfD. -/
import Derived.Test.YtkaacmghgobhmaaBn19
import Derived.Deep.Upon
section
namespace Go.Proofs.Ytkaacmghgobhmaa.Rd
open Go.RowKit
open L (tkA own_block own_below info_of wpList_append_run)
open Rp (Wf kindAt kidsAt)
set_option linter.unusedVariables false
theorem around_len (l : List Ps.Nd) : (Sr.around l).length = l.length := Sr.aroundTo_len l _
set_option maxRecDepth 100000 in
set_option maxHeartbeats 1000000 in
theorem catches_any {w : World} {g cap R : Nat} {l : List Ps.Nd} (h : TreeIn w g cap l) (hu : IntsAt w R (Sr.around l)) {k : Nat} (hk : k < l.length) :
    Calls Try.prog 45 #[.slice (some ⟨g, 0, none⟩) l.length cap, .slice (some ⟨R, 0, none⟩) l.length l.length, .int .i64 (k : Int)] w fun e w' => e = .returned (.bool (Sr.catches l (Sr.around l) k)) ∧ w' = w := by
  have hg := h.lt
  have hcap := h.cap
  have hfew := h.fit.few
  have hRl := hu.lt
  obtain ⟨cu, _⟩ := hu.cell (k := k) (by rw [around_len]; exact hk)
  have hk' : (k : Int) < l.length := by omega
  have hk0 : (0 : Int) ≤ k := by omega
  generalize hr : Sr.catches l (Sr.around l) k = r
  have hcat : r = (decide (0 ≤ (Sr.around l).getD k 0) && decide (kindAt l ((Sr.around l).getD k 0).toNat = 32) && decide ((kidsAt l ((Sr.around l).getD k 0).toNat).getD 1 0 = k)) := hr.symm
  rcases Sr.up_cases h.wf hk with ⟨p, hp, hm, hlt, e⟩ | ⟨_, e⟩
  · rw [e] at cu
    rw [e, Int.toNat_natCast] at hcat
    obtain ⟨an, ak, cn, ck, c0, c2, c3, c4, _, hck, hkids⟩ := h.nd p hp
    have hp' : (p : Int) < l.length := by omega
    have hp0 : (0 : Int) ≤ p := by omega
    have hsm := (h.small hp).2.2
    by_cases h32 : kindAt l p = 32
    · obtain ⟨f, q, hfq, _, _⟩ := Sr.try_kids h.wf hp h32
      obtain ⟨gk, rfl, hgk, cq0⟩ := hkids 1 (by rw [hfq]; simp)
      have cq : w.cell? ⟨gk, 1, none⟩ = some (.int .i64 (q : Int)) := by rw [cq0]; simp [hfq]
      have hlen : (kidsAt l p).length = 2 := by rw [hfq]; rfl
      rw [hlen] at c4 hck
      rw [h32] at c0
      have hr2 : r = decide (q = k) := by rw [hcat, h32, hfq]; simp
      have hr3 : r = ((q : Int) == (k : Int)) := by rw [hr2, Bool.eq_iff_iff]; simp [Int.ofNat_inj]
      clear h hkids c2 c3 h32 hlen hfq hk hr hcat hr2 cq0 hu e hm hlt
      subst hr3
      generalize l.length = n at *
      go_enter Try.func45, Try.ntmps45
      go_wp2_with fail
      go_ret
      exact ⟨by simp, rfl⟩
    · have h32' : ¬ (kindAt l p : Int) = 32 := by omega
      have h32b : ((kindAt l p : Int) == 32) = false := by rw [beq_eq_false_iff_ne]; exact h32'
      have hr2 : r = false := by rw [hcat, decide_eq_false h32]; simp
      subst hr2
      clear h hkids c2 c3 c4 h32 hk hr hcat hu e hm hlt hck
      generalize kindAt l p = kd at *
      generalize l.length = n at *
      go_enter Try.func45, Try.ntmps45
      go_wp2_with fail
      go_ret
      exact ⟨by simp, rfl⟩
  · rw [e] at cu
    have hr2 : r = false := by rw [hcat, e]; rfl
    subst hr2
    clear h hk hr hcat hu e
    generalize l.length = n at *
    go_enter Try.func45, Try.ntmps45
    go_wp2_with fail
    go_ret
    exact ⟨by simp, rfl⟩
/-- Numbers in a row of one's own. -/
structure OwnI (w0 W : World) (v : Value) (N : List Nat) : Prop where
  own : W.ownsRow w0.heap.size 3 1 v N.length (kc N)
  bel : Below w0.heap.size w0 W
theorem OwnI.nil {w0 W : World} (h : Below w0.heap.size w0 W) : OwnI w0 W (.slice none 0 0) [] := ⟨⟨rfl, .inl ⟨rfl, rfl⟩⟩, h⟩
theorem OwnI.below {w0 W W' : World} {v : Value} {N : List Nat} (h : OwnI w0 W v N) (hb : Below W.heap.size W W') : OwnI w0 W' v N := ⟨own_below h.own hb, h.bel.trans (hb.mono h.bel.size)⟩
theorem OwnI.more {w0 W : World} {v : Value} {N : List Nat} (h : OwnI w0 W v N) (x : Nat) (hn : N.length + 1 ≤ 10000000) :
    ∃ a' cap' w3, (Builtin.append_ #[36, 36] 36 #[v, .slice (some ⟨W.heap.size, 0, none⟩) 1 1]).run Try.prog (W.alloc (.cells #[.int .i64 (x : Int)] 3)) = .ok (.slice a' (N.length + 1) cap') w3 ∧ OwnI w0 w3 (.slice a' (N ++ [x]).length cap') (N ++ [x]) := by
  obtain ⟨i0, hi, hz0, hz1, hz2⟩ := info_of infoInt1
  have hW : Below W.heap.size W (W.alloc (.cells #[.int .i64 (x : Int)] 3)) := (Below.refl _ _).alloc (Nat.le_refl _) _
  have ho1 := own_below h.own hW
  have nl := own_block h.own
  have hnews : ∀ j u, [Value.int .i64 (x : Int)][j]? = some u → (W.alloc (.cells #[.int .i64 (x : Int)] 3)).cell? ((⟨W.heap.size, 0, none⟩ : Addr).add j) = some u := fun j u hj => by
    have hj0 : j = 0 := by
      rcases Nat.lt_or_ge j 1 with h | h
      · omega
      · rw [List.getElem?_eq_none (by simpa using h)] at hj; cases hj
    subst hj0
    simp at hj; subst hj; simp [Addr.add]
  obtain ⟨v', w3, hr, ho, hg, _, hat⟩ := run_append_own_at (P := Try.prog) (W.alloc (.cells #[.int .i64 (x : Int)] 3)) w0.heap.size 36 36 3 i0 _ 1 8 Try.underlying36 hi hz0 hz1 hz2 rfl (by decide) v N.length (kc N) ho1 ⟨W.heap.size, 0, none⟩ 1 1 [.int .i64 (x : Int)] rfl hnews (by intro u hu; simp at hu; subst hu; rfl) (by unfold maxLen; omega) (by omega) (Nat.le_trans h.bel.size hW.size)
  obtain ⟨a, cap, rfl⟩ : ∃ a cap, v' = .slice a (N.length + 1) cap := by
    rcases ho.2 with ⟨_, e⟩ | ⟨g, cap, cur, e, _⟩
    · omega
    · exact ⟨_, _, e⟩
  have hl : (N ++ [x]).length = N.length + 1 := by simp
  refine ⟨a, cap, w3, hr, ?_, ?_⟩
  · rw [hl]; simpa using ho
  · refine ⟨hg.os.trans (hW.os.trans h.bel.os), hg.tape.trans (hW.tape.trans h.bel.tape), hg.output.trans (hW.output.trans h.bel.output), Nat.le_trans h.bel.size (Nat.le_trans hW.size hg.size), fun k hk => ?_⟩
    have hks := Nat.lt_of_lt_of_le hk h.bel.size
    refine ((hg.block k (Nat.lt_of_lt_of_le hks hW.size) (fun e => ?_)).trans (hW.block k hks)).trans (h.bel.block k hk)
    have := (nl k e.symm).1
    omega
theorem OwnI.kidsIn {w0 W : World} {v : Value} {N : List Nat} (h : OwnI w0 W v N) : KidsIn W v N := by
  obtain ⟨ad, cap, rfl, hc, hcell, _⟩ := own_cells h.own
  refine ⟨ad, cap, rfl, hc, ?_⟩
  rcases hcell with e | ⟨g, e1, e2, e3⟩
  · exact .inl (List.length_eq_zero_iff.1 e)
  · exact .inr ⟨g, e1, e2, fun j hj => by rw [e3 j hj]; simp [List.getElem?_eq_getElem hj]⟩
set_option maxRecDepth 100000 in
set_option maxHeartbeats 1000000 in
theorem decls_any {w : World} {g cap : Nat} {l : List Ps.Nd} (h : TreeIn w g cap l) (ak : Option Addr) (m ck : Nat) (K : List Nat) (hK : KidsIn w (.slice ak m ck) K) (hlt : ∀ k ∈ K, k < l.length) (hm : K.length ≤ 1000000) :
    Calls Try.prog 46 #[.slice (some ⟨g, 0, none⟩) l.length cap, .slice ak m ck] w fun e w' => ∃ v, e = .returned v ∧ OwnI w w' v (Sr.decls l K) := by
  obtain ⟨ad', cap', e, hc, hcell⟩ := hK
  simp only [Value.slice.injEq] at e
  obtain ⟨rfl, rfl, rfl⟩ := e
  have hg := h.lt
  have hcap := h.cap
  have hfew := h.fit.few
  have HC : Hid (_) := hcell
  have HT : Hid (_) := h
  have HL : Hid (_) := hlt
  have HZ : Hid (Below w.heap.size w w) := (show Below _ _ _ from Below.refl _ _)
  clear hcell h hlt
  go_enter Try.func46, Try.ntmps46
  go_wp2_with fail
  go_loopw [5, 6] (fun v i W => ∃ (k : Nat) (ad : Option Addr) (cp : Nat), k ≤ K.length ∧ i = .int .i64 (k : Int) ∧ v = .slice ad (Sr.decls l (K.take k)).length cp ∧ Hid (OwnI w W (.slice ad (Sr.decls l (K.take k)).length cp) (Sr.decls l (K.take k)))) (fun _ i _ => K.length - (L.intOf i).toNat)
  case atStart => exact ⟨0, none, 0, by omega, rfl, rfl, (show OwnI _ _ _ _ from OwnI.nil HZ.out)⟩
  case round =>
    obtain ⟨k, ad, cp, hk, rfl, rfl, HO⟩ := hrel
    by_cases hkm : k < K.length
    · have hkm' : (k : Int) < K.length := by omega
      have hk0 : (0 : Int) ≤ k := by omega
      obtain ⟨gk, rfl, hgk, c⟩ := HC.out.resolve_left (fun e => by rw [e] at hkm; simp at hkm)
      have ck0 := (HO.out.bel.cell (p := ⟨gk, k, none⟩) hgk).trans (c k hkm)
      have hgk' := Nat.lt_of_lt_of_le hgk HO.out.bel.size
      have hx := HL.out _ (List.getElem_mem hkm)
      have hx' : ((K[k] : Nat) : Int) < l.length := by omega
      have hx0 : (0 : Int) ≤ (K[k] : Nat) := by omega
      have hT1 := HT.out.below HO.out.bel
      obtain ⟨_, _, _, _, d0, _⟩ := hT1.nd _ hx
      have hg' := hT1.lt
      have hsm := (hT1.small hx).2.2
      have htk : K.take (k + 1) = K.take k ++ [K[k]] := List.take_succ_eq_append_getElem hkm
      have es := Sr.decls_snoc l (K.take k) K[k]
      rw [← htk] at es
      have hdl : (Sr.decls l (K.take k)).length + 1 ≤ 10000000 := by
        have := Sr.decls_len l (K.take k)
        rw [List.length_take] at this
        omega
      clear hT1 c htk
      by_cases hd : Sr.isD (kindAt l K[k]) = true
      · rw [if_pos hd] at es
        obtain ⟨a3, cap3, w3, hap, ho3⟩ := HO.out.more K[k] hdl
        have HRn : Hid (_) := hap
        have HO3 : Hid (OwnI w w3 (.slice a3 (Sr.decls l (K.take (k + 1))).length cap3) (Sr.decls l (K.take (k + 1)))) := (show OwnI _ _ _ _ from by rw [es]; exact ho3)
        have hlen3 : (Sr.decls l (K.take k)).length + 1 = (Sr.decls l (K.take (k + 1))).length := by rw [es]; simp
        have hkd : kindAt l K[k] = 21 ∨ kindAt l K[k] = 22 ∨ kindAt l K[k] = 23 := by simpa [Sr.isD, or_assoc] using hd
        clear HO es hap ho3 hd
        generalize kindAt l K[k] = kd at *
        rcases hkd with rfl | rfl | rfl
        · go_wp2_with (at_builtin; refine wpList_append_run _ _ 36 rfl rfl _ _ _ _ rfl rfl HRn.out ?_)
          go_roundw
          case rel => exact ⟨k + 1, a3, cap3, by omega, by go_num, rfl, HO3⟩
          case measure => simp [L.intOf] <;> omega
        · go_wp2_with (at_builtin; refine wpList_append_run _ _ 36 rfl rfl _ _ _ _ rfl rfl HRn.out ?_)
          go_roundw
          case rel => exact ⟨k + 1, a3, cap3, by omega, by go_num, rfl, HO3⟩
          case measure => simp [L.intOf] <;> omega
        · go_wp2_with (at_builtin; refine wpList_append_run _ _ 36 rfl rfl _ _ _ _ rfl rfl HRn.out ?_)
          go_roundw
          case rel => exact ⟨k + 1, a3, cap3, by omega, by go_num, rfl, HO3⟩
          case measure => simp [L.intOf] <;> omega
      · rw [if_neg hd, List.append_nil] at es
        have hkd : kindAt l K[k] ≠ 21 ∧ kindAt l K[k] ≠ 22 ∧ kindAt l K[k] ≠ 23 := by
          refine ⟨fun e => hd ?_, fun e => hd ?_, fun e => hd ?_⟩ <;> rw [e] <;> rfl
        obtain ⟨n1, n2, n3⟩ := hkd
        have HO2 : Hid (OwnI w wr (.slice ad (Sr.decls l (K.take (k + 1))).length cp) (Sr.decls l (K.take (k + 1)))) := (show OwnI _ _ _ _ from by rw [es]; exact HO.out)
        rw [← es]
        clear HO es hd
        have m1 : ((kindAt l K[k] : Int) == 21) = false := by rw [beq_eq_false_iff_ne]; omega
        have m2 : ((kindAt l K[k] : Int) == 22) = false := by rw [beq_eq_false_iff_ne]; omega
        have m3 : ((kindAt l K[k] : Int) == 23) = false := by rw [beq_eq_false_iff_ne]; omega
        have q1 : ¬ (kindAt l K[k] : Int) = 21 := by omega
        have q2 : ¬ (kindAt l K[k] : Int) = 22 := by omega
        have q3 : ¬ (kindAt l K[k] : Int) = 23 := by omega
        generalize kindAt l K[k] = kd at *
        go_wp2_with fail
        go_roundw
        case rel => exact ⟨k + 1, ad, cp, by omega, by go_num, rfl, HO2⟩
        case measure => simp [L.intOf] <;> omega
    · have hkm' : ¬ (k : Int) < K.length := by omega
      have : k = K.length := by omega
      subst this
      rw [List.take_length] at HO
      simp only [List.take_length]
      clear HC HT HL
      go_wp2_with fail
      go_ret
      exact ⟨_, rfl, HO.out⟩
end Go.Proofs.Ytkaacmghgobhmaa.Rd
end
section
namespace Go.Proofs.Ytkaacmghgobhmaa.Rd
open Go.RowKit
open L (tkA own_block own_below info_of wpList_append_run)
open Rp (Wf kindAt kidsAt)
set_option linter.unusedVariables false
theorem kids_in {W : World} {ak : Option Addr} {ck : Nat} {K : List Nat} (h : K.length ≤ ck) (hk : ∀ j (hj : j < K.length), ∃ gk, ak = some ⟨gk, 0, none⟩ ∧ gk < W.heap.size ∧ W.cell? ⟨gk, j, none⟩ = some (.int .i64 (K[j] : Int))) : KidsIn W (.slice ak K.length ck) K := by
  refine ⟨ak, ck, rfl, h, ?_⟩
  by_cases e : K = []
  · exact .inl e
  · have h0 : 0 < K.length := List.length_pos_iff.2 e
    obtain ⟨gk, rfl, q1, _⟩ := hk 0 h0
    refine .inr ⟨gk, rfl, q1, fun j hj => ?_⟩
    obtain ⟨g2, e2, _, q2⟩ := hk j hj
    simp only [Option.some.injEq, Addr.mk.injEq, and_true] at e2
    subst e2
    exact q2
theorem src_none (w : World) (an : Option Addr) (cn : Nat) : Src Try.prog 1 35 (.slice an 0 cn) 0 [] w := by
  refine ⟨.inl ⟨9, Try.underlying35⟩, fun w' => ?_, ?_, ?_, rfl, fun u hu => by cases hu⟩
  · simp [Builtin.lenOf]
  · cases an <;> simp [Builtin.firstCells, loadCells, loadCellsFrom]
  · cases an <;> simp [Builtin.firstCells, loadCells, loadCellsFrom]
theorem OwnN.all {w0 W : World} {v : Value} {N : List (List UInt8)} (h : OwnN w0 W v N) {an : Option Addr} {m cn : Nat} {X : List (List UInt8)} (hx : NamesIn W (.slice an m cn) X) (hn : N.length + X.length ≤ 10000000) :
    ∃ a' cap' w3, (Builtin.append_ #[35, 35] 35 #[v, .slice an m cn]).run Try.prog W = .ok (.slice a' (N ++ X).length cap') w3 ∧ OwnN w0 w3 (.slice a' (N ++ X).length cap') (N ++ X) := by
  obtain ⟨i0, hi, hz0, hz1, hz2⟩ := info_of infoStr
  obtain ⟨ad, cap, e, hc, hcell⟩ := hx
  simp only [Value.slice.injEq] at e
  obtain ⟨rfl, rfl, rfl⟩ := e
  have nl := own_block h.own
  rcases hcell with e | ⟨g, rfl, hg, hcell⟩
  · subst e
    obtain ⟨a0, c0, rfl, hle, _⟩ := own_cells h.own
    refine ⟨a0, c0, W, ?_, by simpa using h⟩
    have := run_append_nothing (P := Try.prog) W 35 35 35 9 i0 Try.underlying35 hi a0 N.length c0 hle (.slice an 0 cn) (by rw [hz1]; exact src_none W an cn)
    simpa using this
  · have hnews : ∀ j u, (nc X)[j]? = some u → W.cell? ((⟨g, 0, none⟩ : Addr).add j) = some u := fun j u hj => by
      rw [List.getElem?_map] at hj
      rcases Nat.lt_or_ge j X.length with hlt | hge
      · rw [List.getElem?_eq_getElem hlt] at hj
        simp at hj
        subst hj
        have e2 : (⟨g, 0, none⟩ : Addr).add j = ⟨g, j, none⟩ := by
          simp only [Addr.add]
          by_cases e0 : j = 0
          · subst e0; rfl
          · simp [e0]
        rw [e2]
        exact hcell j hlt
      · rw [List.getElem?_eq_none hge] at hj; cases hj
    obtain ⟨v', w3, hr, ho, hgr, _, hat⟩ := run_append_own_at (P := Try.prog) W w0.heap.size 35 35 9 i0 _ 1 16 Try.underlying35 hi hz0 hz1 hz2 rfl (by decide) v N.length (nc N) h.own ⟨g, 0, none⟩ X.length cn (nc X) (by simp) hnews (by
      intro u hu
      obtain ⟨x, _, rfl⟩ := List.mem_map.1 hu
      rfl) (by unfold maxLen; omega) (by omega) h.bel.size
    obtain ⟨a, cap, rfl, _⟩ := own_cells ho
    have hl : (N ++ X).length = N.length + X.length := List.length_append
    refine ⟨a, cap, w3, by rw [hl]; exact hr, ?_, ?_⟩
    · rw [hl]; simpa using ho
    · refine ⟨hgr.os.trans h.bel.os, hgr.tape.trans h.bel.tape, hgr.output.trans h.bel.output, Nat.le_trans h.bel.size hgr.size, fun k hk => ?_⟩
      have hks := Nat.lt_of_lt_of_le hk h.bel.size
      refine (hgr.block k hks (fun e => ?_)).trans (h.bel.block k hk)
      have := (nl k e.symm).1
      omega
theorem OwnN.namesIn {w0 W : World} {v : Value} {N : List (List UInt8)} (h : OwnN w0 W v N) : NamesIn W v N := by
  obtain ⟨ad, cap, rfl, hc, hcell, _⟩ := own_cells h.own
  refine ⟨ad, cap, rfl, hc, ?_⟩
  rcases hcell with e | ⟨g, e1, e2, e3⟩
  · exact .inl (List.length_eq_zero_iff.1 e)
  · exact .inr ⟨g, e1, e2, fun j hj => by rw [e3 j hj]; simp [List.getElem?_eq_getElem hj]⟩
/-- What is told of a node's scope. -/
def NmP (w w' : World) (r : Option (List (List UInt8))) (e : Ending) : Prop := match r with
  | some N => ∃ a cp, e = .returned (.tuple #[.slice a N.length cp, .bool true]) ∧ OwnN w w' (.slice a N.length cp) N
  | none => e = .returned (.tuple #[.slice none 0 0, .bool false]) ∧ Below w.heap.size w w'
/-- Those ahead, and the names of the first j. -/
def nmTo (N : List (List UInt8)) (nm : Nat → List UInt8) (D : List Nat) (j : Nat) : List (List UInt8) := N ++ (D.take j).map nm
/-- What the walk reads of the node. -/
def NmN (g k kd : Nat) (K : List Nat) (X : List (List UInt8)) (W : World) : Prop := ∃ (an ak : Option Addr) (cn ck : Nat), g < W.heap.size ∧ W.cell? ⟨g, k * 6, none⟩ = some (.int .i64 (kd : Int)) ∧ W.cell? ⟨g, k * 6 + 3, none⟩ = some (.slice an X.length cn) ∧ W.cell? ⟨g, k * 6 + 4, none⟩ = some (.slice ak K.length ck) ∧ Hid (NamesIn W (.slice an X.length cn) X) ∧ Hid (KidsIn W (.slice ak K.length ck) K)
/-- Names in a row of one's own that keeps off the blocks from lo to w4's end. -/
structure OwnA (w0 w4 W : World) (lo : Nat) (v : Value) (N : List (List UInt8)) : Prop where
  nn : OwnN w0 W v N
  ap : ∀ q, v.ownBlock = some q → q < lo ∨ w4.heap.size ≤ q
  sz : w4.heap.size ≤ W.heap.size
  kp : ∀ q, lo ≤ q → q < w4.heap.size → W.heap[q]? = w4.heap[q]?
theorem OwnA.more {w0 w4 W : World} {lo : Nat} {v : Value} {N : List (List UInt8)} (h : OwnA w0 w4 W lo v N) (x : List UInt8) (hn : N.length + 1 ≤ 10000000) :
    ∃ a' cap' w3, (Builtin.append_ #[35, 35] 35 #[v, .slice (some ⟨W.heap.size, 0, none⟩) 1 1]).run Try.prog (W.alloc (.cells #[.string ⟨x.toArray⟩] 9)) = .ok (.slice a' (N.length + 1) cap') w3 ∧ OwnA w0 w4 w3 lo (.slice a' (N ++ [x]).length cap') (N ++ [x]) := by
  obtain ⟨i0, hi, hz0, hz1, hz2⟩ := info_of infoStr
  have hW : Below W.heap.size W (W.alloc (.cells #[.string ⟨x.toArray⟩] 9)) := (Below.refl _ _).alloc (Nat.le_refl _) _
  have ho1 := own_below h.nn.own hW
  have nl := own_block h.nn.own
  have hnews : ∀ j u, [Value.string ⟨x.toArray⟩][j]? = some u → (W.alloc (.cells #[.string ⟨x.toArray⟩] 9)).cell? ((⟨W.heap.size, 0, none⟩ : Addr).add j) = some u := fun j u hj => by
    have hj0 : j = 0 := by
      rcases Nat.lt_or_ge j 1 with h | h
      · omega
      · rw [List.getElem?_eq_none (by simpa using h)] at hj; cases hj
    subst hj0
    simp at hj; subst hj; simp [Addr.add]
  obtain ⟨v', w3, hr, ho, hg, _, hat⟩ := run_append_own_at (P := Try.prog) (W.alloc (.cells #[.string ⟨x.toArray⟩] 9)) w0.heap.size 35 35 9 i0 _ 1 16 Try.underlying35 hi hz0 hz1 hz2 rfl (by decide) v N.length (nc N) ho1 ⟨W.heap.size, 0, none⟩ 1 1 [.string ⟨x.toArray⟩] rfl hnews (by intro u hu; simp at hu; subst hu; rfl) (by unfold maxLen; omega) (by omega) (Nat.le_trans h.nn.bel.size hW.size)
  obtain ⟨a, cap, rfl, _⟩ := own_cells ho
  have hl : (N ++ [x]).length = N.length + 1 := by simp
  have hsz := hW.size
  refine ⟨a, cap, w3, hr, ⟨?_, ?_⟩, fun q hq => ?_, Nat.le_trans h.sz (Nat.le_trans hW.size hg.size), fun q h1 h2 => ?_⟩
  · rw [hl]; simpa using ho
  · refine ⟨hg.os.trans (hW.os.trans h.nn.bel.os), hg.tape.trans (hW.tape.trans h.nn.bel.tape), hg.output.trans (hW.output.trans h.nn.bel.output), Nat.le_trans h.nn.bel.size (Nat.le_trans hW.size hg.size), fun k hk => ?_⟩
    have hks := Nat.lt_of_lt_of_le hk h.nn.bel.size
    refine ((hg.block k (Nat.lt_of_lt_of_le hks hW.size) (fun e => ?_)).trans (hW.block k hks)).trans (h.nn.bel.block k hk)
    have := (nl k e.symm).1
    omega
  · rw [hl] at hq
    rcases hat with e | e
    · exact h.ap q (by rw [← e]; exact hq)
    · rw [show (Value.slice a (N.length + 1) cap).ownBlock = _ from e] at hq
      simp only [Option.some.injEq] at hq
      right; have := h.sz; omega
  · have hqs := Nat.lt_of_lt_of_le h2 h.sz
    refine ((hg.block q (Nat.lt_of_lt_of_le hqs hW.size) (fun e => ?_)).trans (hW.block q hqs)).trans (h.kp q h1 h2)
    rcases h.ap q e.symm with c | c <;> omega
theorem OwnA.kids {w0 w4 W : World} {lo : Nat} {v : Value} {N : List (List UInt8)} (h : OwnA w0 w4 W lo v N) {dA : Option Addr} {n dC : Nat} {D : List Nat} (hk : KidsIn w4 (.slice dA n dC) D) (hlo : ∀ gd, dA = some ⟨gd, 0, none⟩ → lo ≤ gd) : KidsIn W (.slice dA n dC) D := by
  obtain ⟨ad, cap, e, hc, hcell⟩ := hk
  refine ⟨ad, cap, e, hc, ?_⟩
  rcases hcell with e2 | ⟨gd, rfl, hgd, hcd⟩
  · exact .inl e2
  · simp only [Value.slice.injEq] at e
    have h1 := hlo gd e.1
    refine .inr ⟨gd, rfl, Nat.lt_of_lt_of_le hgd h.sz, fun j hj => ?_⟩
    rw [← hcd j hj]
    unfold World.cell?
    simp only [h.kp gd h1 hgd]
section
variable {w : World} {g cap R n k : Nat} {K D : List Nat} {X : List (List UInt8)} {nm : Nat → List UInt8}
set_option maxRecDepth 100000 in
set_option maxHeartbeats 1000000 in
theorem names33 (hcap : n ≤ cap) (hfew : n ≤ 1000000) (hk : k < n) (hdl : D.length ≤ 1000000) (hxl : X.length ≤ 1000000) (HDL : Hid (∀ d ∈ D, d < n))
    (HND : Hid (∀ W, Below w.heap.size w W → NmN g k 33 K X W))
    (HD : Hid (∀ W ak ck, Below w.heap.size w W → KidsIn W (.slice ak K.length ck) K → Calls Try.prog 46 #[.slice (some ⟨g, 0, none⟩) n cap, .slice ak K.length ck] W fun e w' => ∃ a cp, e = .returned (.slice a D.length cp) ∧ Hid (KidsIn w' (.slice a D.length cp) D) ∧ Hid (∀ gd, a = some ⟨gd, 0, none⟩ → W.heap.size ≤ gd) ∧ Hid (Below W.heap.size W w')))
    (HM : Hid (∀ W d, Below w.heap.size w W → d < n → Calls Try.prog 29 #[.slice (some ⟨g, 0, none⟩) n cap, .int .i64 (d : Int)] W fun e w' => e = .returned (.string ⟨(nm d).toArray⟩) ∧ w' = W)) (RR : List (List UInt8)) (hRR : ([] : List (List UInt8)) ++ D.map nm = RR) :
    Calls Try.prog 27 #[.slice (some ⟨g, 0, none⟩) n cap, .slice (some ⟨R, 0, none⟩) n n, .int .i64 (k : Int)] w fun e w' => NmP w w' (some RR) e := by
  have hk' : (k : Int) < n := by omega
  have hk0 : (0 : Int) ≤ k := by omega
  have HB0 : Hid (Below w.heap.size w w) := (show Below _ _ _ from Below.refl _ _)
  obtain ⟨an, ak, cn, ck, hg, d0, d3, d4, HNM, HKI⟩ := HND.out w HB0.out
  go_enter Try.func27, Try.ntmps27
  go_wp2_with fail
  refine Calls.mono (HD.out _ _ _ HB0.out HKI.out) ?_
  rintro e w4 ⟨dA, dC, rfl, HK4, hlo, hb4⟩
  have HLO : Hid (_) := hlo.out
  have HO4 : Hid (OwnA w w4 w4 w.heap.size (.slice none (nmTo ([] : List (List UInt8)) nm D 0).length 0) (nmTo ([] : List (List UInt8)) nm D 0)) := (show OwnA _ _ _ _ _ _ from by
    have h0 : OwnN w w4 (.slice none (nmTo ([] : List (List UInt8)) nm D 0).length 0) (nmTo ([] : List (List UInt8)) nm D 0) := by simpa [nmTo] using ((OwnN.nil HB0.out : OwnN w w (.slice none 0 0) [])).below hb4.out
    refine ⟨h0, fun q hq => ?_, Nat.le_refl _, fun _ _ _ => rfl⟩
    have := own_block ((OwnN.nil HB0.out : OwnN w w (.slice none 0 0) [])).own q (by simpa [nmTo] using hq)
    exact .inl this.2)
  have hn0 : (nmTo ([] : List (List UInt8)) nm D 0).length = 0 := by simp [nmTo]
  have HLN : Hid (∀ j, (nmTo ([] : List (List UInt8)) nm D j).length ≤ 3000000) := (show ∀ j, (nmTo ([] : List (List UInt8)) nm D j).length ≤ 3000000 from fun j => by
    have h1 : (D.take j).length ≤ D.length := by rw [List.length_take]; omega
    have h2 : (([] : List (List UInt8))).length ≤ 1000000 := by first | exact hxl | simp
    rw [nmTo, List.length_append, List.length_map]; omega)
  clear hb4 hlo HND HD HNM HKI
  go_wp2_with fail
  go_loopw [8, 10] (fun v i W => ∃ (j : Nat) (ad : Option Addr) (cp : Nat), j ≤ D.length ∧ i = .int .i64 (j : Int) ∧ v = .slice ad (nmTo ([] : List (List UInt8)) nm D j).length cp ∧ Hid (OwnA w w4 W w.heap.size (.slice ad (nmTo ([] : List (List UInt8)) nm D j).length cp) (nmTo ([] : List (List UInt8)) nm D j))) (fun _ i _ => D.length - (L.intOf i).toNat)
  case atStart => exact ⟨0, _, _, by omega, rfl, by rw [hn0], HO4⟩
  case round =>
    obtain ⟨j, ad, cp, hj, rfl, rfl, HO⟩ := hrel
    clear HO4
    by_cases hjn : j < D.length
    · have hjn' : (j : Int) < D.length := by omega
      have hj0 : (0 : Int) ≤ j := by omega
      obtain ⟨da, dc, e0, hdc, hcell⟩ := HO.out.kids HK4.out HLO.out
      simp only [Value.slice.injEq] at e0
      obtain ⟨rfl, _, rfl⟩ := e0
      obtain ⟨gd, rfl, hgd, cd⟩ := hcell.resolve_left (fun e => by rw [e] at hjn; simp at hjn)
      have cdj := cd j hjn
      have hdn := HDL.out _ (List.getElem_mem hjn)
      have HMJ : Hid (_) := HM.out wr D[j] HO.out.nn.bel hdn
      have htk : D.take (j + 1) = D.take j ++ [D[j]] := List.take_succ_eq_append_getElem hjn
      have es : nmTo ([] : List (List UInt8)) nm D (j + 1) = nmTo ([] : List (List UInt8)) nm D j ++ [nm D[j]] := by rw [nmTo, nmTo, htk, List.map_append, List.append_assoc]; rfl
      obtain ⟨a3, cap3, w9, hap, ho3⟩ := HO.out.more (nm D[j]) (by have := HLN.out j; omega)
      have HRn : Hid (_) := hap
      have HO3 : Hid (OwnA w w4 w9 w.heap.size (.slice a3 (nmTo ([] : List (List UInt8)) nm D (j + 1)).length cap3) (nmTo ([] : List (List UInt8)) nm D (j + 1))) := (show OwnA _ _ _ _ _ _ from by rw [es]; exact ho3)
      have hlen3 : (nmTo ([] : List (List UInt8)) nm D j).length + 1 = (nmTo ([] : List (List UInt8)) nm D (j + 1)).length := by rw [es]; simp
      clear HO es hap ho3 htk cd hdn HM HDL HLN
      clear hRR
      generalize D[j] = dj at *
      go_wp2_with (first | (go_at_call 29; refine Calls.mono HMJ.out ?_; rintro e wm ⟨rfl, rfl⟩) | (at_builtin; refine wpList_append_run _ _ 35 rfl rfl _ _ _ _ rfl rfl HRn.out ?_))
      go_roundw
      case rel => exact ⟨j + 1, a3, cap3, by omega, by go_num, rfl, HO3⟩
      case measure => simp [L.intOf] <;> omega
    · have hjn' : ¬ (j : Int) < D.length := by omega
      have : j = D.length := by omega
      subst this
      have eD : nmTo ([] : List (List UInt8)) nm D D.length = ([] : List (List UInt8)) ++ D.map nm := by rw [nmTo, List.take_length]
      have HO5 : Hid (OwnN w wr (.slice ad RR.length cp) RR) := (show OwnN _ _ _ _ from by rw [← hRR, ← eD]; exact HO.out.nn)
      have elen : (nmTo ([] : List (List UInt8)) nm D D.length).length = RR.length := by rw [eD, hRR]
      rw [elen]
      clear HO HK4 HLO HLN HDL HM eD elen
      go_wp2_with fail
      go_ret2
      exact ⟨ad, cp, rfl, HO5.out⟩
set_option maxRecDepth 100000 in
set_option maxHeartbeats 1000000 in
theorem names10 (hcap : n ≤ cap) (hfew : n ≤ 1000000) (hk : k < n) (hdl : D.length ≤ 1000000) (hxl : X.length ≤ 1000000) (HDL : Hid (∀ d ∈ D, d < n))
    (HND : Hid (∀ W, Below w.heap.size w W → NmN g k 10 K X W))
    (HD : Hid (∀ W ak ck, Below w.heap.size w W → KidsIn W (.slice ak K.length ck) K → Calls Try.prog 46 #[.slice (some ⟨g, 0, none⟩) n cap, .slice ak K.length ck] W fun e w' => ∃ a cp, e = .returned (.slice a D.length cp) ∧ Hid (KidsIn w' (.slice a D.length cp) D) ∧ Hid (∀ gd, a = some ⟨gd, 0, none⟩ → W.heap.size ≤ gd) ∧ Hid (Below W.heap.size W w')))
    (HM : Hid (∀ W d, Below w.heap.size w W → d < n → Calls Try.prog 29 #[.slice (some ⟨g, 0, none⟩) n cap, .int .i64 (d : Int)] W fun e w' => e = .returned (.string ⟨(nm d).toArray⟩) ∧ w' = W)) (RR : List (List UInt8)) (hRR : X ++ D.map nm = RR) :
    Calls Try.prog 27 #[.slice (some ⟨g, 0, none⟩) n cap, .slice (some ⟨R, 0, none⟩) n n, .int .i64 (k : Int)] w fun e w' => NmP w w' (some RR) e := by
  have hk' : (k : Int) < n := by omega
  have hk0 : (0 : Int) ≤ k := by omega
  have HB0 : Hid (Below w.heap.size w w) := (show Below _ _ _ from Below.refl _ _)
  obtain ⟨an, ak, cn, ck, hg, d0, d3, d4, HNM, HKI⟩ := HND.out w HB0.out
  obtain ⟨a3, cp3, w3, hap, ho3⟩ := (OwnN.nil HB0.out : OwnN w w (.slice none 0 0) []).all HNM.out (by simp; omega)
  have hz : ([] ++ X).length = X.length := by simp
  have HRn : Hid (_) := hap
  rw [hz] at HRn
  have HO3 : Hid (OwnN w w3 (.slice a3 X.length cp3) X) := (show OwnN _ _ _ _ from by simpa using ho3)
  obtain ⟨an3, ak3, cn3, ck3, hg3, e0, e3, e4, HNM3, HKI3⟩ := HND.out w3 HO3.out.bel
  clear hap ho3 hz
  go_enter Try.func27, Try.ntmps27
  go_wp2_with (at_builtin; refine wpList_append_run _ _ 35 rfl rfl _ _ _ _ rfl rfl HRn.out ?_)
  refine Calls.mono (HD.out _ _ _ HO3.out.bel HKI3.out) ?_
  rintro e w4 ⟨dA, dC, rfl, HK4, hlo, hb4⟩
  have HLO : Hid (_) := hlo.out
  have HO4 : Hid (OwnA w w4 w4 w3.heap.size (.slice a3 (nmTo X nm D 0).length cp3) (nmTo X nm D 0)) := (show OwnA _ _ _ _ _ _ from by
    have h0 : OwnN w w4 (.slice a3 (nmTo X nm D 0).length cp3) (nmTo X nm D 0) := by simpa [nmTo] using (HO3.out).below hb4.out
    refine ⟨h0, fun q hq => ?_, Nat.le_refl _, fun _ _ _ => rfl⟩
    have := own_block (HO3.out).own q (by simpa [nmTo] using hq)
    exact .inl this.2)
  have hn0 : (nmTo X nm D 0).length = X.length := by simp [nmTo]
  have HLN : Hid (∀ j, (nmTo X nm D j).length ≤ 3000000) := (show ∀ j, (nmTo X nm D j).length ≤ 3000000 from fun j => by
    have h1 : (D.take j).length ≤ D.length := by rw [List.length_take]; omega
    have h2 : (X).length ≤ 1000000 := by first | exact hxl | simp
    rw [nmTo, List.length_append, List.length_map]; omega)
  clear hb4 hlo HND HD HNM HKI
  go_wp2_with fail
  go_loopw [8, 10] (fun v i W => ∃ (j : Nat) (ad : Option Addr) (cp : Nat), j ≤ D.length ∧ i = .int .i64 (j : Int) ∧ v = .slice ad (nmTo X nm D j).length cp ∧ Hid (OwnA w w4 W w3.heap.size (.slice ad (nmTo X nm D j).length cp) (nmTo X nm D j))) (fun _ i _ => D.length - (L.intOf i).toNat)
  case atStart => exact ⟨0, _, _, by omega, rfl, by rw [hn0], HO4⟩
  case round =>
    obtain ⟨j, ad, cp, hj, rfl, rfl, HO⟩ := hrel
    clear HO4
    by_cases hjn : j < D.length
    · have hjn' : (j : Int) < D.length := by omega
      have hj0 : (0 : Int) ≤ j := by omega
      obtain ⟨da, dc, e0, hdc, hcell⟩ := HO.out.kids HK4.out HLO.out
      simp only [Value.slice.injEq] at e0
      obtain ⟨rfl, _, rfl⟩ := e0
      obtain ⟨gd, rfl, hgd, cd⟩ := hcell.resolve_left (fun e => by rw [e] at hjn; simp at hjn)
      have cdj := cd j hjn
      have hdn := HDL.out _ (List.getElem_mem hjn)
      have HMJ : Hid (_) := HM.out wr D[j] HO.out.nn.bel hdn
      have htk : D.take (j + 1) = D.take j ++ [D[j]] := List.take_succ_eq_append_getElem hjn
      have es : nmTo X nm D (j + 1) = nmTo X nm D j ++ [nm D[j]] := by rw [nmTo, nmTo, htk, List.map_append, List.append_assoc]; rfl
      obtain ⟨a3, cap3, w9, hap, ho3⟩ := HO.out.more (nm D[j]) (by have := HLN.out j; omega)
      have HRn : Hid (_) := hap
      have HO3 : Hid (OwnA w w4 w9 w3.heap.size (.slice a3 (nmTo X nm D (j + 1)).length cap3) (nmTo X nm D (j + 1))) := (show OwnA _ _ _ _ _ _ from by rw [es]; exact ho3)
      have hlen3 : (nmTo X nm D j).length + 1 = (nmTo X nm D (j + 1)).length := by rw [es]; simp
      clear HO es hap ho3 htk cd hdn HM HDL HLN
      clear hRR
      generalize D[j] = dj at *
      go_wp2_with (first | (go_at_call 29; refine Calls.mono HMJ.out ?_; rintro e wm ⟨rfl, rfl⟩) | (at_builtin; refine wpList_append_run _ _ 35 rfl rfl _ _ _ _ rfl rfl HRn.out ?_))
      go_roundw
      case rel => exact ⟨j + 1, a3, cap3, by omega, by go_num, rfl, HO3⟩
      case measure => simp [L.intOf] <;> omega
    · have hjn' : ¬ (j : Int) < D.length := by omega
      have : j = D.length := by omega
      subst this
      have eD : nmTo X nm D D.length = X ++ D.map nm := by rw [nmTo, List.take_length]
      have HO5 : Hid (OwnN w wr (.slice ad RR.length cp) RR) := (show OwnN _ _ _ _ from by rw [← hRR, ← eD]; exact HO.out.nn)
      have elen : (nmTo X nm D D.length).length = RR.length := by rw [eD, hRR]
      rw [elen]
      clear HO HK4 HLO HLN HDL HM eD elen
      go_wp2_with fail
      go_ret2
      exact ⟨ad, cp, rfl, HO5.out⟩
set_option maxRecDepth 100000 in
set_option maxHeartbeats 1000000 in
theorem namesCat (hcap : n ≤ cap) (hfew : n ≤ 1000000) (hk : k < n) (hdl : D.length ≤ 1000000) (hxl : X.length ≤ 1000000) (HDL : Hid (∀ d ∈ D, d < n))
    (HND : Hid (∀ W, Below w.heap.size w W → NmN g k 25 K X W))
    (HD : Hid (∀ W ak ck, Below w.heap.size w W → KidsIn W (.slice ak K.length ck) K → Calls Try.prog 46 #[.slice (some ⟨g, 0, none⟩) n cap, .slice ak K.length ck] W fun e w' => ∃ a cp, e = .returned (.slice a D.length cp) ∧ Hid (KidsIn w' (.slice a D.length cp) D) ∧ Hid (∀ gd, a = some ⟨gd, 0, none⟩ → W.heap.size ≤ gd) ∧ Hid (Below W.heap.size W w')))
    (HM : Hid (∀ W d, Below w.heap.size w W → d < n → Calls Try.prog 29 #[.slice (some ⟨g, 0, none⟩) n cap, .int .i64 (d : Int)] W fun e w' => e = .returned (.string ⟨(nm d).toArray⟩) ∧ w' = W)) (p : Nat) (tp : List UInt8) (hp : p < n) (hR : R < w.heap.size) (hup : w.cell? ⟨R, k, none⟩ = some (.int .i64 (p : Int))) (htp : w.cell? ⟨g, p * 6 + 2, none⟩ = some (.string ⟨tp.toArray⟩))
    (HC : Hid (∀ W, Below w.heap.size w W → Calls Try.prog 45 #[.slice (some ⟨g, 0, none⟩) n cap, .slice (some ⟨R, 0, none⟩) n n, .int .i64 (k : Int)] W fun e w' => e = .returned (.bool true) ∧ w' = W)) (RR : List (List UInt8)) (hRR : [tp] ++ D.map nm = RR) :
    Calls Try.prog 27 #[.slice (some ⟨g, 0, none⟩) n cap, .slice (some ⟨R, 0, none⟩) n n, .int .i64 (k : Int)] w fun e w' => NmP w w' (some RR) e := by
  have hk' : (k : Int) < n := by omega
  have hk0 : (0 : Int) ≤ k := by omega
  have HB0 : Hid (Below w.heap.size w w) := (show Below _ _ _ from Below.refl _ _)
  obtain ⟨an, ak, cn, ck, hg, d0, d3, d4, HNM, HKI⟩ := HND.out w HB0.out
  have hp' : (p : Int) < n := by omega
  have hp0 : (0 : Int) ≤ p := by omega
  obtain ⟨a3, cp3, w3, hap, ho3⟩ := (OwnN.nil HB0.out : OwnN w w (.slice none 0 0) []).more tp (by simp)
  have HRn : Hid (_) := hap
  have HO3 : Hid (OwnN w w3 (.slice a3 1 cp3) [tp]) := ho3
  have hz : ([] : List (List UInt8)).length + 1 = 1 := rfl
  rw [hz] at HRn
  obtain ⟨an3, ak3, cn3, ck3, hg3, e0, e3, e4, HNM3, HKI3⟩ := HND.out w3 HO3.out.bel
  clear hap ho3 hz
  go_enter Try.func27, Try.ntmps27
  go_wp2_with (first | (go_at_call 45; refine Calls.mono (HC.out _ HB0.out) ?_; rintro e wc ⟨rfl, hwc⟩; have hwc := hwc.symm; subst hwc) | (at_builtin; refine wpList_append_run _ _ 35 rfl rfl _ _ _ _ rfl rfl HRn.out ?_))
  refine Calls.mono (HD.out _ _ _ HO3.out.bel HKI3.out) ?_
  rintro e w4 ⟨dA, dC, rfl, HK4, hlo, hb4⟩
  have HLO : Hid (_) := hlo.out
  have HO4 : Hid (OwnA w w4 w4 w3.heap.size (.slice a3 (nmTo [tp] nm D 0).length cp3) (nmTo [tp] nm D 0)) := (show OwnA _ _ _ _ _ _ from by
    have h0 : OwnN w w4 (.slice a3 (nmTo [tp] nm D 0).length cp3) (nmTo [tp] nm D 0) := by simpa [nmTo] using (HO3.out).below hb4.out
    refine ⟨h0, fun q hq => ?_, Nat.le_refl _, fun _ _ _ => rfl⟩
    have := own_block (HO3.out).own q (by simpa [nmTo] using hq)
    exact .inl this.2)
  have hn0 : (nmTo [tp] nm D 0).length = 1 := by simp [nmTo]
  have HLN : Hid (∀ j, (nmTo [tp] nm D j).length ≤ 3000000) := (show ∀ j, (nmTo [tp] nm D j).length ≤ 3000000 from fun j => by
    have h1 : (D.take j).length ≤ D.length := by rw [List.length_take]; omega
    have h2 : ([tp]).length ≤ 1000000 := by first | exact hxl | simp
    rw [nmTo, List.length_append, List.length_map]; omega)
  clear hb4 hlo HND HD HNM HKI HC
  go_wp2_with fail
  go_loopw [8, 10] (fun v i W => ∃ (j : Nat) (ad : Option Addr) (cp : Nat), j ≤ D.length ∧ i = .int .i64 (j : Int) ∧ v = .slice ad (nmTo [tp] nm D j).length cp ∧ Hid (OwnA w w4 W w3.heap.size (.slice ad (nmTo [tp] nm D j).length cp) (nmTo [tp] nm D j))) (fun _ i _ => D.length - (L.intOf i).toNat)
  case atStart => exact ⟨0, _, _, by omega, rfl, by rw [hn0], HO4⟩
  case round =>
    obtain ⟨j, ad, cp, hj, rfl, rfl, HO⟩ := hrel
    clear HO4
    by_cases hjn : j < D.length
    · have hjn' : (j : Int) < D.length := by omega
      have hj0 : (0 : Int) ≤ j := by omega
      obtain ⟨da, dc, e0, hdc, hcell⟩ := HO.out.kids HK4.out HLO.out
      simp only [Value.slice.injEq] at e0
      obtain ⟨rfl, _, rfl⟩ := e0
      obtain ⟨gd, rfl, hgd, cd⟩ := hcell.resolve_left (fun e => by rw [e] at hjn; simp at hjn)
      have cdj := cd j hjn
      have hdn := HDL.out _ (List.getElem_mem hjn)
      have HMJ : Hid (_) := HM.out wr D[j] HO.out.nn.bel hdn
      have htk : D.take (j + 1) = D.take j ++ [D[j]] := List.take_succ_eq_append_getElem hjn
      have es : nmTo [tp] nm D (j + 1) = nmTo [tp] nm D j ++ [nm D[j]] := by rw [nmTo, nmTo, htk, List.map_append, List.append_assoc]; rfl
      obtain ⟨a3, cap3, w9, hap, ho3⟩ := HO.out.more (nm D[j]) (by have := HLN.out j; omega)
      have HRn : Hid (_) := hap
      have HO3 : Hid (OwnA w w4 w9 w3.heap.size (.slice a3 (nmTo [tp] nm D (j + 1)).length cap3) (nmTo [tp] nm D (j + 1))) := (show OwnA _ _ _ _ _ _ from by rw [es]; exact ho3)
      have hlen3 : (nmTo [tp] nm D j).length + 1 = (nmTo [tp] nm D (j + 1)).length := by rw [es]; simp
      clear HO es hap ho3 htk cd hdn HM HDL HLN
      clear hRR
      generalize D[j] = dj at *
      go_wp2_with (first | (go_at_call 29; refine Calls.mono HMJ.out ?_; rintro e wm ⟨rfl, rfl⟩) | (at_builtin; refine wpList_append_run _ _ 35 rfl rfl _ _ _ _ rfl rfl HRn.out ?_))
      go_roundw
      case rel => exact ⟨j + 1, a3, cap3, by omega, by go_num, rfl, HO3⟩
      case measure => simp [L.intOf] <;> omega
    · have hjn' : ¬ (j : Int) < D.length := by omega
      have : j = D.length := by omega
      subst this
      have eD : nmTo [tp] nm D D.length = [tp] ++ D.map nm := by rw [nmTo, List.take_length]
      have HO5 : Hid (OwnN w wr (.slice ad RR.length cp) RR) := (show OwnN _ _ _ _ from by rw [← hRR, ← eD]; exact HO.out.nn)
      have elen : (nmTo [tp] nm D D.length).length = RR.length := by rw [eD, hRR]
      rw [elen]
      clear HO HK4 HLO HLN HDL HM eD elen
      go_wp2_with fail
      go_ret2
      exact ⟨ad, cp, rfl, HO5.out⟩
set_option maxRecDepth 100000 in
set_option maxHeartbeats 1000000 in
theorem names25 (hcap : n ≤ cap) (hfew : n ≤ 1000000) (hk : k < n) (hdl : D.length ≤ 1000000) (hxl : X.length ≤ 1000000) (HDL : Hid (∀ d ∈ D, d < n))
    (HND : Hid (∀ W, Below w.heap.size w W → NmN g k 25 K X W))
    (HD : Hid (∀ W ak ck, Below w.heap.size w W → KidsIn W (.slice ak K.length ck) K → Calls Try.prog 46 #[.slice (some ⟨g, 0, none⟩) n cap, .slice ak K.length ck] W fun e w' => ∃ a cp, e = .returned (.slice a D.length cp) ∧ Hid (KidsIn w' (.slice a D.length cp) D) ∧ Hid (∀ gd, a = some ⟨gd, 0, none⟩ → W.heap.size ≤ gd) ∧ Hid (Below W.heap.size W w')))
    (HM : Hid (∀ W d, Below w.heap.size w W → d < n → Calls Try.prog 29 #[.slice (some ⟨g, 0, none⟩) n cap, .int .i64 (d : Int)] W fun e w' => e = .returned (.string ⟨(nm d).toArray⟩) ∧ w' = W)) (hD : 0 < D.length) (HC : Hid (∀ W, Below w.heap.size w W → Calls Try.prog 45 #[.slice (some ⟨g, 0, none⟩) n cap, .slice (some ⟨R, 0, none⟩) n n, .int .i64 (k : Int)] W fun e w' => e = .returned (.bool false) ∧ w' = W)) (RR : List (List UInt8)) (hRR : ([] : List (List UInt8)) ++ D.map nm = RR) :
    Calls Try.prog 27 #[.slice (some ⟨g, 0, none⟩) n cap, .slice (some ⟨R, 0, none⟩) n n, .int .i64 (k : Int)] w fun e w' => NmP w w' (some RR) e := by
  have hk' : (k : Int) < n := by omega
  have hk0 : (0 : Int) ≤ k := by omega
  have HB0 : Hid (Below w.heap.size w w) := (show Below _ _ _ from Below.refl _ _)
  obtain ⟨an, ak, cn, ck, hg, d0, d3, d4, HNM, HKI⟩ := HND.out w HB0.out
  have hD' : (0 : Int) < D.length := by omega
  clear hD
  go_enter Try.func27, Try.ntmps27
  go_wp2_with (first | (go_at_call 45; refine Calls.mono (HC.out _ HB0.out) ?_; rintro e wc ⟨rfl, hwc⟩; have hwc := hwc.symm; subst hwc))
  refine Calls.mono (HD.out _ _ _ HB0.out HKI.out) ?_
  rintro e w5 ⟨dA0, dC0, rfl, HK5, hlo5, hb5⟩
  have HB5 : Hid (_) := hb5.out
  obtain ⟨an3, ak3, cn3, ck3, hg3, e0, e3, e4, HNM3, HKI3⟩ := HND.out w5 HB5.out
  clear hb5 hlo5 HK5 HC
  go_wp2_with fail
  refine Calls.mono (HD.out _ _ _ HB5.out HKI3.out) ?_
  rintro e w4 ⟨dA, dC, rfl, HK4, hlo, hb4⟩
  have HLO : Hid (_) := hlo.out
  have HO4 : Hid (OwnA w w4 w4 w5.heap.size (.slice none (nmTo ([] : List (List UInt8)) nm D 0).length 0) (nmTo ([] : List (List UInt8)) nm D 0)) := (show OwnA _ _ _ _ _ _ from by
    have h0 : OwnN w w4 (.slice none (nmTo ([] : List (List UInt8)) nm D 0).length 0) (nmTo ([] : List (List UInt8)) nm D 0) := by simpa [nmTo] using ((OwnN.nil HB5.out : OwnN w w5 (.slice none 0 0) [])).below hb4.out
    refine ⟨h0, fun q hq => ?_, Nat.le_refl _, fun _ _ _ => rfl⟩
    have := own_block ((OwnN.nil HB5.out : OwnN w w5 (.slice none 0 0) [])).own q (by simpa [nmTo] using hq)
    exact .inl this.2)
  have hn0 : (nmTo ([] : List (List UInt8)) nm D 0).length = 0 := by simp [nmTo]
  have HLN : Hid (∀ j, (nmTo ([] : List (List UInt8)) nm D j).length ≤ 3000000) := (show ∀ j, (nmTo ([] : List (List UInt8)) nm D j).length ≤ 3000000 from fun j => by
    have h1 : (D.take j).length ≤ D.length := by rw [List.length_take]; omega
    have h2 : (([] : List (List UInt8))).length ≤ 1000000 := by first | exact hxl | simp
    rw [nmTo, List.length_append, List.length_map]; omega)
  clear hb4 hlo HND HD HNM HKI
  go_wp2_with fail
  go_loopw [8, 10] (fun v i W => ∃ (j : Nat) (ad : Option Addr) (cp : Nat), j ≤ D.length ∧ i = .int .i64 (j : Int) ∧ v = .slice ad (nmTo ([] : List (List UInt8)) nm D j).length cp ∧ Hid (OwnA w w4 W w5.heap.size (.slice ad (nmTo ([] : List (List UInt8)) nm D j).length cp) (nmTo ([] : List (List UInt8)) nm D j))) (fun _ i _ => D.length - (L.intOf i).toNat)
  case atStart => exact ⟨0, _, _, by omega, rfl, by rw [hn0], HO4⟩
  case round =>
    obtain ⟨j, ad, cp, hj, rfl, rfl, HO⟩ := hrel
    clear HO4
    by_cases hjn : j < D.length
    · have hjn' : (j : Int) < D.length := by omega
      have hj0 : (0 : Int) ≤ j := by omega
      obtain ⟨da, dc, e0, hdc, hcell⟩ := HO.out.kids HK4.out HLO.out
      simp only [Value.slice.injEq] at e0
      obtain ⟨rfl, _, rfl⟩ := e0
      obtain ⟨gd, rfl, hgd, cd⟩ := hcell.resolve_left (fun e => by rw [e] at hjn; simp at hjn)
      have cdj := cd j hjn
      have hdn := HDL.out _ (List.getElem_mem hjn)
      have HMJ : Hid (_) := HM.out wr D[j] HO.out.nn.bel hdn
      have htk : D.take (j + 1) = D.take j ++ [D[j]] := List.take_succ_eq_append_getElem hjn
      have es : nmTo ([] : List (List UInt8)) nm D (j + 1) = nmTo ([] : List (List UInt8)) nm D j ++ [nm D[j]] := by rw [nmTo, nmTo, htk, List.map_append, List.append_assoc]; rfl
      obtain ⟨a3, cap3, w9, hap, ho3⟩ := HO.out.more (nm D[j]) (by have := HLN.out j; omega)
      have HRn : Hid (_) := hap
      have HO3 : Hid (OwnA w w4 w9 w5.heap.size (.slice a3 (nmTo ([] : List (List UInt8)) nm D (j + 1)).length cap3) (nmTo ([] : List (List UInt8)) nm D (j + 1))) := (show OwnA _ _ _ _ _ _ from by rw [es]; exact ho3)
      have hlen3 : (nmTo ([] : List (List UInt8)) nm D j).length + 1 = (nmTo ([] : List (List UInt8)) nm D (j + 1)).length := by rw [es]; simp
      clear HO es hap ho3 htk cd hdn HM HDL HLN
      clear hRR
      generalize D[j] = dj at *
      go_wp2_with (first | (go_at_call 29; refine Calls.mono HMJ.out ?_; rintro e wm ⟨rfl, rfl⟩) | (at_builtin; refine wpList_append_run _ _ 35 rfl rfl _ _ _ _ rfl rfl HRn.out ?_))
      go_roundw
      case rel => exact ⟨j + 1, a3, cap3, by omega, by go_num, rfl, HO3⟩
      case measure => simp [L.intOf] <;> omega
    · have hjn' : ¬ (j : Int) < D.length := by omega
      have : j = D.length := by omega
      subst this
      have eD : nmTo ([] : List (List UInt8)) nm D D.length = ([] : List (List UInt8)) ++ D.map nm := by rw [nmTo, List.take_length]
      have HO5 : Hid (OwnN w wr (.slice ad RR.length cp) RR) := (show OwnN _ _ _ _ from by rw [← hRR, ← eD]; exact HO.out.nn)
      have elen : (nmTo ([] : List (List UInt8)) nm D D.length).length = RR.length := by rw [eD, hRR]
      rw [elen]
      clear HO HK4 HLO HLN HDL HM eD elen
      go_wp2_with fail
      go_ret2
      exact ⟨ad, cp, rfl, HO5.out⟩
set_option maxRecDepth 100000 in
set_option maxHeartbeats 1000000 in
theorem namesNo25 (hcap : n ≤ cap) (hfew : n ≤ 1000000) (hk : k < n) (hdl : D.length ≤ 1000000) (hxl : X.length ≤ 1000000) (HDL : Hid (∀ d ∈ D, d < n))
    (HND : Hid (∀ W, Below w.heap.size w W → NmN g k 25 K X W))
    (HD : Hid (∀ W ak ck, Below w.heap.size w W → KidsIn W (.slice ak K.length ck) K → Calls Try.prog 46 #[.slice (some ⟨g, 0, none⟩) n cap, .slice ak K.length ck] W fun e w' => ∃ a cp, e = .returned (.slice a D.length cp) ∧ Hid (KidsIn w' (.slice a D.length cp) D) ∧ Hid (∀ gd, a = some ⟨gd, 0, none⟩ → W.heap.size ≤ gd) ∧ Hid (Below W.heap.size W w')))
    (HM : Hid (∀ W d, Below w.heap.size w W → d < n → Calls Try.prog 29 #[.slice (some ⟨g, 0, none⟩) n cap, .int .i64 (d : Int)] W fun e w' => e = .returned (.string ⟨(nm d).toArray⟩) ∧ w' = W)) (hD : D.length = 0) (HC : Hid (∀ W, Below w.heap.size w W → Calls Try.prog 45 #[.slice (some ⟨g, 0, none⟩) n cap, .slice (some ⟨R, 0, none⟩) n n, .int .i64 (k : Int)] W fun e w' => e = .returned (.bool false) ∧ w' = W)) :
    Calls Try.prog 27 #[.slice (some ⟨g, 0, none⟩) n cap, .slice (some ⟨R, 0, none⟩) n n, .int .i64 (k : Int)] w fun e w' => NmP w w' none e := by
  have hk' : (k : Int) < n := by omega
  have hk0 : (0 : Int) ≤ k := by omega
  have HB0 : Hid (Below w.heap.size w w) := (show Below _ _ _ from Below.refl _ _)
  obtain ⟨an, ak, cn, ck, hg, d0, d3, d4, HNM, HKI⟩ := HND.out w HB0.out
  have hD' : ¬ (0 : Int) < D.length := by omega
  go_enter Try.func27, Try.ntmps27
  go_wp2_with (first | (go_at_call 45; refine Calls.mono (HC.out _ HB0.out) ?_; rintro e wc ⟨rfl, hwc⟩; have hwc := hwc.symm; subst hwc))
  refine Calls.mono (HD.out _ _ _ HB0.out HKI.out) ?_
  rintro e w5 ⟨dA0, dC0, rfl, HK5, hlo5, hb5⟩
  have HB5 : Hid (_) := hb5.out
  clear hb5 hlo5 HK5 HC HND HD
  go_wp2_with fail
  go_ret2
  exact ⟨rfl, HB5.out⟩
set_option maxRecDepth 100000 in
set_option maxHeartbeats 1000000 in
theorem namesNo {kd : Nat} (hcap : n ≤ cap) (hfew : n ≤ 1000000) (hk : k < n) (hdl : D.length ≤ 1000000) (hxl : X.length ≤ 1000000) (HDL : Hid (∀ d ∈ D, d < n))
    (HND : Hid (∀ W, Below w.heap.size w W → NmN g k kd K X W))
    (HD : Hid (∀ W ak ck, Below w.heap.size w W → KidsIn W (.slice ak K.length ck) K → Calls Try.prog 46 #[.slice (some ⟨g, 0, none⟩) n cap, .slice ak K.length ck] W fun e w' => ∃ a cp, e = .returned (.slice a D.length cp) ∧ Hid (KidsIn w' (.slice a D.length cp) D) ∧ Hid (∀ gd, a = some ⟨gd, 0, none⟩ → W.heap.size ≤ gd) ∧ Hid (Below W.heap.size W w')))
    (HM : Hid (∀ W d, Below w.heap.size w W → d < n → Calls Try.prog 29 #[.slice (some ⟨g, 0, none⟩) n cap, .int .i64 (d : Int)] W fun e w' => e = .returned (.string ⟨(nm d).toArray⟩) ∧ w' = W)) (h33 : kd ≠ 33) (h10 : kd ≠ 10) (h25 : kd ≠ 25) :
    Calls Try.prog 27 #[.slice (some ⟨g, 0, none⟩) n cap, .slice (some ⟨R, 0, none⟩) n n, .int .i64 (k : Int)] w fun e w' => NmP w w' none e := by
  have hk' : (k : Int) < n := by omega
  have hk0 : (0 : Int) ≤ k := by omega
  have HB0 : Hid (Below w.heap.size w w) := (show Below _ _ _ from Below.refl _ _)
  obtain ⟨an, ak, cn, ck, hg, d0, d3, d4, HNM, HKI⟩ := HND.out w HB0.out
  have q33 : ¬ (kd : Int) = 33 := by omega
  have q10 : ¬ (kd : Int) = 10 := by omega
  have q25 : ¬ (kd : Int) = 25 := by omega
  have b33 : ((kd : Int) == 33) = false := by rw [beq_eq_false_iff_ne]; exact q33
  have b10 : ((kd : Int) == 10) = false := by rw [beq_eq_false_iff_ne]; exact q10
  have b25 : ((kd : Int) == 25) = false := by rw [beq_eq_false_iff_ne]; exact q25
  clear h33 h10 h25 HND HD
  go_enter Try.func27, Try.ntmps27
  go_wp2_with fail
  go_ret2
  exact ⟨rfl, HB0.out⟩
end
end Go.Proofs.Ytkaacmghgobhmaa.Rd
end
