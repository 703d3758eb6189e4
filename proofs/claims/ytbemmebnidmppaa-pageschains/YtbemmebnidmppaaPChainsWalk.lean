-- PROVED: PagesChains, walked.
import Derived.Test.YtbemmebnidmppaaPList
import Derived.Deep.RegionHeld3
import Derived.Deep.DeepCutAuto
import Derived.Deep.CutBlock
namespace Go.Proofs.Ytbemmebnidmppaa.P
open Go.RowKit
set_option linter.unusedVariables false
def HeldC (g s bb o : Nat) (x y z : Value) (wr W : World) : Prop := W.cell? ⟨g, s + 1, none⟩ = some x ∧ W.cell? ⟨g, s, none⟩ = some y ∧ W.cell? ⟨bb, o, none⟩ = some z ∧ Hid (g < W.heap.size) ∧ Hid (bb < W.heap.size) ∧ Hid (Below wr.heap.size wr W)
theorem HeldC.go {g s bb o : Nat} {x y z : Value} {wr W w' : World} (h : HeldC g s bb o x y z wr W) (hb : Below W.heap.size W w') : HeldC g s bb o x y z wr w' :=
  have hl := h.2.2.2.1.out
  have hl2 := h.2.2.2.2.1.out
  ⟨(hb.cell (p := ⟨g, s + 1, none⟩) hl).trans h.1, (hb.cell (p := ⟨g, s, none⟩) hl).trans h.2.1, (hb.cell (p := ⟨bb, o, none⟩) hl2).trans h.2.2.1, Nat.lt_of_lt_of_le hl hb.size, Nat.lt_of_lt_of_le hl2 hb.size, Below.chain h.2.2.2.2.2.out hb h.2.2.2.2.2.out.size⟩
theorem HeldC.drew {g s bb o : Nat} {x y z : Value} {wr W : World} (h : HeldC g s bb o x y z wr W) : HeldC g s bb o x y z wr W.drew := h.go (Below.refl _ _).drew
theorem HeldC.alloc {g s bb o : Nat} {x y z : Value} {wr W : World} (h : HeldC g s bb o x y z wr W) (ob : Obj) : HeldC g s bb o x y z wr (W.alloc ob) := h.go ((Below.refl _ _).alloc (Nat.le_refl _) _)
theorem HeldC.set {g s bb o : Nat} {x y z : Value} {wr W : World} (h : HeldC g s bb o x y z wr W) {B : Nat} (hB : wr.heap.size ≤ B) (hg : g < wr.heap.size) (hbb : bb < wr.heap.size) (i : Nat) (v : Value) : HeldC g s bb o x y z wr (W.setCell ⟨B, i, none⟩ v) := by
  have e : ∀ (k j : Nat), k < wr.heap.size → (W.setCell ⟨B, i, none⟩ v).cell? ⟨k, j, none⟩ = W.cell? ⟨k, j, none⟩ := fun k j hk => World.cell?_of_block (a := ⟨k, j, none⟩) (heap_set_ne (by simp only []; omega))
  exact ⟨(e _ _ hg).trans h.1, (e _ _ hg).trans h.2.1, (e _ _ hbb).trans h.2.2.1, (show _ < _ from by rw [size_set]; exact h.2.2.2.1.out), (show _ < _ from by rw [size_set]; exact h.2.2.2.2.1.out), h.2.2.2.2.2.out.setCell hB _⟩
theorem HeldC.set5 {g s bb o : Nat} {x y z : Value} {wr W : World} (h : HeldC g s bb o x y z wr W) {B : Nat} (hB : wr.heap.size ≤ B) (hg : g < wr.heap.size) (hbb : bb < wr.heap.size) (v0 v1 v2 v3 v4 : Value) : HeldC g s bb o x y z wr (((((W.setCell ⟨B, 0, none⟩ v0).setCell ⟨B, 1, none⟩ v1).setCell ⟨B, 2, none⟩ v2).setCell ⟨B, 3, none⟩ v3).setCell ⟨B, 4, none⟩ v4) :=
  ((((h.set hB hg hbb _ _).set hB hg hbb _ _).set hB hg hbb _ _).set hB hg hbb _ _).set hB hg hbb _ _
theorem set5_cells {W : World} {B : Nat} {a0 a1 a2 a3 a4 : Value} {T : TypeId} (h : W.heap[B]? = some (.cells #[a0, a1, a2, a3, a4] T (0, 0))) (v0 v1 v2 v3 v4 : Value) : (((((W.setCell ⟨B, 0, none⟩ v0).setCell ⟨B, 1, none⟩ v1).setCell ⟨B, 2, none⟩ v2).setCell ⟨B, 3, none⟩ v3).setCell ⟨B, 4, none⟩ v4).heap[B]? = some (.cells #[v0, v1, v2, v3, v4] T (0, 0)) := by
  have e0 := Lib.heap_setCell_same (i := 0) h v0
  have e1 := Lib.heap_setCell_same (i := 1) e0 v1
  have e2 := Lib.heap_setCell_same (i := 2) e1 v2
  have e3 := Lib.heap_setCell_same (i := 3) e2 v3
  exact Lib.heap_setCell_same (i := 4) e3 v4
theorem alloc_drew_new (w : World) (o : Obj) : (w.alloc o).drew.heap[w.heap.size]? = some o := heap_alloc_new w o
/-- A cell that was got, in a variable of its own. -/
def GotC (cB : Nat) (x y : Int) (wx : World) : Prop := ∃ vK vV, wx.heap[cB]? = some (.cells #[.int .i64 x, .int .i64 y, .int .i64 0, vK, vV] 38 (0, 0))
theorem GotC.cells {cB : Nat} {x y : Int} {wx : World} (h : GotC cB x y wx) : wx.cell? ⟨cB, 0, none⟩ = some (.int .i64 x) ∧ wx.cell? ⟨cB, 1, none⟩ = some (.int .i64 y) ∧ cB < wx.heap.size := by
  obtain ⟨vK, vV, h⟩ := h
  exact ⟨cellsOf h 0, cellsOf h 1, heap_lt h⟩
theorem GotC.go {cB : Nat} {x y : Int} {wx w' : World} (h : GotC cB x y wx) (hb : Below wx.heap.size wx w') : GotC cB x y w' := by
  obtain ⟨vK, vV, h⟩ := h
  exact ⟨vK, vV, (hb.block _ (heap_lt h)).trans h⟩
theorem GotC.new (w : World) (x y : Int) (vK vV : Value) : GotC w.heap.size x y (w.alloc (.cells #[.int .i64 x, .int .i64 y, .int .i64 0, vK, vV] 38)) := ⟨vK, vV, heap_alloc_new _ _⟩
theorem GotC.old {W w7 : World} {B : Nat} (hW : W.heap[B]? = some (.cells #[.int .i64 0, .int .i64 0, .int .i64 0, .slice none 0 0, .slice none 0 0] 38 (0, 0))) (hb : Below W.heap.size W w7) (x y : Int) (vK vV : Value) : GotC B x y (((((w7.setCell ⟨B, 0, none⟩ (.int .i64 x)).setCell ⟨B, 1, none⟩ (.int .i64 y)).setCell ⟨B, 2, none⟩ (.int .i64 0)).setCell ⟨B, 3, none⟩ vK).setCell ⟨B, 4, none⟩ vV) :=
  ⟨vK, vV, set5_cells ((hb.block _ (heap_lt hW)).trans hW) _ _ _ _ _⟩
set_option maxRecDepth 100000 in
set_option maxHeartbeats 4000000 in
theorem chains_walk (n : Int) (Z : List Nat) (ad : Option Addr) (cap : Nat) (w : World) (hn : 0 ≤ n ∧ n ≤ 255) (hL : Z.length ≤ maxLen) (hz : ∀ z ∈ Z, z < 256) (hr : Ns w ad Z) :
    Calls Try.prog 6 #[.int .u8 n, .slice ad Z.length cap] w fun e w' => e = .returned (.bool true) ∧ Below w.heap.size w w' := by
  obtain ⟨hn0, hn1⟩ := hn
  unfold maxLen at hL
  have hm0 : 0 ≤ n % 4 := by omega
  obtain ⟨m, hm⟩ := Int.eq_ofNat_of_zero_le hm0
  have hm1 : m < 4 := by omega
  have HM : Hid (n % 4 = (m : Int)) := hm
  obtain ⟨K, hK⟩ : ∃ K : Nat, 8 * (1 + m) = K := ⟨_, rfl⟩
  have HK : Hid (8 * (1 + (m : Int)) = (K : Int)) := by show _ = _; omega
  have hK1 : 8 ≤ K := by omega
  have hK2 : K ≤ 32 := by omega
  have hK3 : Hid (K % 8 = 0) := by show _ = _; omega
  clear hm hm0 hK
  have HZ : Hid (∀ z ∈ Z, z < 256) := hz
  have HNS : Hid (Ns w ad Z) := hr
  clear hz hr
  go_enter Try.func6, Try.ntmps6
  go_wp2_with fail
  refine Calls.mono (new_p (sys_nil w) (by simp)) ?_
  rintro e w1 ⟨rfl, b, HS1, HF1, HB1⟩
  generalize w.heap.size + 1 = A at *
  go_wp2_with fail
  rw [HM.out]
  rw [HK.out]
  clear hm1
  go_loopw [7] (fun i wr => ∃ (j : Nat) (b : Bk), i = .int .i64 (j : Int) ∧ j ≤ K ∧ Hid (Sys w.heap.size wr [b]) ∧ Hid (Row (fun j => pc 1 j) A w.heap.size j b) ∧ Hid (Below w.heap.size w wr)) (fun i _ => K - (intOf i).toNat)
  case atStart => exact ⟨0, b, rfl, by omega, HS1, Row.new HF1.out, HB1⟩
  case round =>
    clear HS1 HF1 HB1
    obtain ⟨j, b, rfl, hk, HS, HR, HB⟩ := hrel
    by_cases hlt : j < K
    · have hlt' : (j : Int) < (K : Int) := by omega
      have HA : Hid (_) := add_p HS.out (i := 0) rfl HR.out.at_ HR.out.opn (by rw [HR.out.len]; omega) rfl 1 (j : Int)
      go_wp2_with fail
      refine Calls.mono HA.out ?_
      rintro e w3 ⟨rfl, a2, HS3, HD3, HK3⟩
      go_wp2_with fail
      go_roundw
      case rel => exact ⟨j + 1, a2, by go_num, by omega, HS3, HR.out.add HD3.out rfl, HB.out.trans HK3.out.bel⟩
      case measure => simp [intOf]; omega
    · have hk2 : j = K := by omega
      subst hk2
      have hlt' : ¬ ((j : Int) < (j : Int)) := by omega
      go_upto_block 2 with fail
      have hk1 : Keep [] w.heap.size wr (wr.alloc (.cells #[.pointer (some ⟨A, 0, none⟩)] 24)) := keepB HS.out.size ((Below.refl _ _).alloc (Nat.le_refl _) _)
      have HBK : Hid (Bks w.heap.size (wr.alloc (.cells #[.pointer (some ⟨A, 0, none⟩)] 24)) (.slice (some ⟨wr.heap.size, 0, none⟩) 1 1) [A]) := Bks.one HS.out.size A
      have HCH : Hid (Chain Z j w.heap.size 0 [b]) := Chain.start HS.out HR.out hK3.out
      have HS1 : Hid (Sys w.heap.size (wr.alloc (.cells #[.pointer (some ⟨A, 0, none⟩)] 24)) [b]) := HS.out.other hk1 (by simp)
      have HB1 : Hid (Below w.heap.size w (wr.alloc (.cells #[.pointer (some ⟨A, 0, none⟩)] 24))) := HB.out.trans hk1.bel
      have HA0 : Hid ([b].map (·.at_) = [A]) := (show [b.at_] = [A] from by rw [HR.out.at_])
      clear hk1 HS HR HB
      generalize wr.alloc (.cells #[.pointer (some ⟨A, 0, none⟩)] 24) = w2 at *
      generalize wr.heap.size = lB at *
      go_cut [8] (fun l wx => ∃ (t : Nat) (bs : List Bk) (v : Value), l = v ∧ t ≤ 5 ∧ t ≤ Z.length ∧ Hid (Sys w.heap.size wx bs) ∧ Hid (Chain Z j w.heap.size t bs) ∧ Hid (Bks w.heap.size wx v (bs.map (·.at_))) ∧ Hid (∃ b, bs[0]? = some b ∧ b.at_ = A) ∧ Hid (Below w.heap.size w wx))
      case first =>
        go_wp2_with fail
        go_loopw [8, 9] (fun l i wr => ∃ (t : Nat) (bs : List Bk) (v : Value), i = .int .i64 (t : Int) ∧ l = v ∧ t ≤ 5 ∧ t ≤ Z.length ∧ Hid (Sys w.heap.size wr bs) ∧ Hid (Chain Z j w.heap.size t bs) ∧ Hid (Bks w.heap.size wr v (bs.map (·.at_))) ∧ Hid (∃ b, bs[0]? = some b ∧ b.at_ = A) ∧ Hid (Below w.heap.size w wr)) (fun _ i _ => 5 - (intOf i).toNat)
        case atStart => exact ⟨0, [b], _, rfl, rfl, by omega, by omega, HS1, HCH, (show Bks _ _ _ _ from by rw [HA0.out]; exact HBK.out), ⟨b, rfl, by simpa using HA0.out⟩, HB1⟩
        case round =>
          clear HBK HCH HS1 HB1 HA0
          obtain ⟨t, bs, v, rfl, rfl, ht5, htz, HS, HCH, HBK, HF0, HB⟩ := hrel
          have hlen := HCH.out.len
          have HLen : Hid (bs.length = t + 1) := hlen
          have hml : (bs.map (·.at_)).length = t + 1 := by rw [List.length_map]; exact hlen
          by_cases hlt2 : t < Z.length ∧ t < 5
          · obtain ⟨htl, ht5'⟩ := hlt2
            have htl' : (t : Int) < (Z.length : Int) := by omega
            have ht5i : (t : Int) < 5 := by omega
            obtain ⟨b, hb⟩ : ∃ b, bs[t]? = some b := ⟨_, List.getElem?_eq_getElem (by omega)⟩
            obtain ⟨b1, b2, b3, b4⟩ := HCH.out.book t b hb
            obtain ⟨g, cap', rfl, -, hcap, -, hgl, hgc⟩ := HBK.out.at_ (j := t) (a := b.at_) (by simp [hb])
            rw [hml] at HBK
            rw [hml]
            have HMk : Hid (_) := mark_yes HS.out (by omega) hb rfl b2
            have HBX : Hid (bs[t]? = some b) := hb
            clear b1 b2 b3 b4 hb hlen hml
            go_wp2_with fail
            refine Calls.mono HMk.out ?_
            rintro e w3 ⟨q, rv, rfl, hq, hs3, hk3⟩
            obtain ⟨M, hM0, hM1, hM2, hM3, hM4, hM5, hM6⟩ : ∃ M : Bk, Sys w.heap.size w3 (bs ++ [M]) ∧ M.at_ = q ∧ M.fam = b.fam ∧ M.len = b.len ∧ M.pgs = b.pgs ∧ M.slots = b.slots ∧ M.opn = b.opn := ⟨_, hs3, rfl, rfl, rfl, rfl, rfl, rfl⟩
            obtain ⟨b1, b2, b3, b4⟩ := HCH.out.book t b HBX.out
            have hB3 := HB.out.trans hk3.bel
            obtain ⟨bb, off, z, rfl, hbb, hcell, hz256, hzt⟩ := (HNS.out.below hB3).at_ HZ.out htl
            have hgd : Z.getD t 0 = z := by rw [List.getD_eq_getElem?_getD, hzt]; rfl
            have hzm : z % j < j := Nat.mod_lt _ (by omega)
            have HLV : Hid (_) := live_is hM0 (i := bs.length) (b := M) (n := (j : Int) / 8 + (t : Int)) app_new hM1 (by rw [hM2, b1, HCH.out.mark HBX.out hM4 hM2]; omega)
            have HT : Hid (_) := set_p hM0 (i := bs.length) (b := M) app_new hM1 (z % j) (K := (z : Int) % (j : Int)) (by push_cast; rfl) (by rw [hM3, b3]; exact hzm) 2 (t : Int)
            have HCS : Hid (∀ q', w3.heap.size ≤ q' → Chain Z j w.heap.size (t + 1) (bs ++ [upd (bs ++ [M]) M (z % j) (pc 2 t) q'])) := fun q' hq' => by
              have := HCH.out.step hM0 HBX.out hM4 hM2 hM6 hM3 hM5 (by omega) hq'
              rwa [hgd] at this
            have HBK3 : Hid (Bks w.heap.size w3 (.slice (some ⟨g, 0, none⟩) (t + 1) cap') (bs.map (·.at_))) := HBK.out.keep hk3 (by simp)
            have HB3 : Hid (Below w.heap.size w w3) := hB3
            have HMA : Hid (M.at_ = q) := hM1
            have hjj : (j : Int) ≠ 0 := by omega
            clear hM0 hM1 hM2 hM3 hM4 hM5 hM6 b1 b2 b3 b4 hs3 hk3 hB3 HB HS HMk HBK HCH hgc hgl hgd hzt
            go_wp2_with fail
            refine Calls.mono HLV.out ?_
            rintro e w9 ⟨rfl, rfl⟩
            go_wp2_with fail
            refine Calls.mono HT.out ?_
            rintro e w5 ⟨rfl, q5, HQ5, hs5, hk5⟩
            rw [app_set] at hs5
            have HCH5 : Hid (_) := HCS.out q5 HQ5.out
            have HBK5 := HBK3.out.keep hk5.out (by simp [Four])
            have hml : (bs.map (·.at_)).length = t + 1 := by rw [List.length_map]; exact HLen.out
            obtain ⟨a7, cap7, w7, hrun, hbk7, hk7⟩ := HBK5.push hs5.out.size (by rw [hml]; omega) q 26
            rw [hml] at hrun hbk7
            have HS7 : Hid (_) := hs5.out.push hk7
            have HBK7 : Hid (Bks w.heap.size w7 (.slice a7 (t + 1 + 1) cap7) ((bs ++ [upd (bs ++ [M]) M (z % j) (pc 2 t) q5]).map (·.at_))) := (show Bks _ _ _ _ from by
              rw [List.map_append]
              have : [upd (bs ++ [M]) M (z % j) (pc 2 t) q5].map (·.at_) = [q] := by
                show [M.at_] = [q]
                rw [HMA.out]
              rw [this]; exact hbk7)
            have HB7 : Hid (Below w.heap.size w w7) := (HB3.out.trans hk5.out.bel).trans hk7.bel
            have HF7 : Hid (∃ b, (bs ++ [upd (bs ++ [M]) M (z % j) (pc 2 t) q5])[0]? = some b ∧ b.at_ = A) := (show ∃ b, _ ∧ _ from by
              obtain ⟨b0, h1, h2⟩ := HF0.out
              exact ⟨b0, app_old h1, h2⟩)
            have HRU : Hid (_) := hrun
            clear hrun hbk7 hk7 hs5 hk5 HBK5 hml HCS HT HLV HBK3 HB3 HF0 HQ5
            go_wp2_with (at_builtin; refine wpList_append_run _ _ 26 rfl rfl _ _ _ _ rfl rfl HRU.out ?_)
            go_roundw
            case rel => exact ⟨t + 1, _, _, by go_num, rfl, by omega, by omega, HS7, HCH5, HBK7, HF7, HB7⟩
            case measure => simp [intOf]; omega
          · by_cases htl : t < Z.length
            all_goals
              have HJ : Hid (t < Z.length → ¬ (t : Int) < 5) := fun h => by have : ¬ t < 5 := fun h2 => hlt2 ⟨h, h2⟩; omega
              try (have ht5' := HJ.out htl; have htz : (t : Int) < (Z.length : Int) := by omega)
              try (have htz : ¬ (t : Int) < (Z.length : Int) := by omega)
              clear hlt2
              obtain ⟨a1, cap1, rfl⟩ := HBK.out.form
              go_wp2_with fail
              go_meet
              case rel => exact ⟨t, bs, _, rfl, ht5, by omega, HS, HCH, (show Bks _ _ _ _ from hml ▸ HBK.out), HF0, HB⟩
      case rest =>
        clear HBK HCH HS1 HB1 HA0
        obtain ⟨t, bs, v, rfl, ht5, htz, HS, HCH, HBK, HF0, HB⟩ := hcut
        have hlen := HCH.out.len
        have hml : (bs.map (·.at_)).length = t + 1 := by rw [List.length_map]; exact hlen
        obtain ⟨a1, cap1, rfl⟩ := HBK.out.form
        rw [hml] at HBK ⊢
        clear hml
        go_wp2_with fail
        go_loopw [11] (fun i wr => ∃ (s : Nat), i = .int .i64 ((s : Int) + 1) ∧ s ≤ t ∧ Hid (Sys w.heap.size wr bs) ∧ Hid (Bks w.heap.size wr (.slice a1 (t + 1) cap1) (bs.map (·.at_))) ∧ Hid (Below w.heap.size w wr)) (fun i _ => t + 1 - (intOf i).toNat)
        case atStart => exact ⟨0, rfl, by omega, HS, HBK, HB⟩
        case round =>
          clear HS HBK HB
          obtain ⟨s, rfl, hs, HS, HBK, HB⟩ := hrel
          by_cases hlt3 : s < t
          · have hlt' : (s : Int) + 1 < (t : Int) + 1 := by omega
            obtain ⟨b1, hb1⟩ : ∃ b, bs[s + 1]? = some b := ⟨_, List.getElem?_eq_getElem (by omega)⟩
            obtain ⟨b0, hb0⟩ : ∃ b, bs[s]? = some b := ⟨_, List.getElem?_eq_getElem (by omega)⟩
            obtain ⟨g, cap', e1, -, hcap, -, hgl, hg1⟩ := HBK.out.at_ (j := s + 1) (a := b1.at_) (by simp [hb1])
            obtain ⟨g', cap'', e2, -, -, -, -, hg0⟩ := HBK.out.at_ (j := s) (a := b0.at_) (by simp [hb0])
            injection e1 with e1 x1 x2
            subst e1
            injection e2 with e2 x3 x4
            injection e2 with e2
            injection e2 with e2 x5 x6
            subst e2
            clear x1 x2 x3 x4
            obtain ⟨bb, off, z, rfl, hbb, hcell, hz256, hzt⟩ := (HNS.out.below HB.out).at_ HZ.out (j := s) (by omega)
            have hgd : Z.getD s 0 = z := by rw [List.getD_eq_getElem?_getD, hzt]; rfl
            have hzm : z % j < j := Nat.mod_lt _ (by omega)
            obtain ⟨p1, p2, p3, p4⟩ := HCH.out.book (s + 1) b1 hb1
            obtain ⟨q1, q2, q3, q4⟩ := HCH.out.book s b0 hb0
            have c1 := p4 (z % j) hzm
            have c0 := q4 (z % j) hzm
            rw [← hgd, cellT_new] at c1
            rw [hgd] at c1
            obtain ⟨kd, an, hkd, c0⟩ : ∃ kd an : Int, ¬ (kd = 2 ∧ an = (s : Int)) ∧ b0.slots[z % j]? = some (pc kd an) := by
              rcases cellT_or Z j s (z % j) with h | ⟨r, h1, h2⟩
              · exact ⟨1, _, by omega, by rw [c0, h]⟩
              · exact ⟨2, (r : Int), by omega, by rw [c0, h2]⟩
            have HG1 : Hid (∀ W (K : Int), K = ((z % j : Nat) : Int) → Below wr.heap.size wr W → Calls Try.prog 21 #[.pointer (some ⟨b1.at_, 0, none⟩), .int .i64 K] W fun e w' => ∃ aK kK aV kV, e = .returned (.tuple #[.agg #[.int .i64 2, .int .i64 (s : Int), .int .i64 0, .slice aK 0 kK, .slice aV 0 kV], .int .i64 0]) ∧ Below W.heap.size W w') := fun W K hK hW =>
              get_p (HS.out.below hW) hb1 rfl (z % j) hK.symm (by rw [p3]; exact hzm) c1
            have HG0 : Hid (∀ W (K : Int), K = ((z % j : Nat) : Int) → Below wr.heap.size wr W → Calls Try.prog 21 #[.pointer (some ⟨b0.at_, 0, none⟩), .int .i64 K] W fun e w' => ∃ aK kK aV kV, e = .returned (.tuple #[.agg #[.int .i64 kd, .int .i64 an, .int .i64 0, .slice aK 0 kK, .slice aV 0 kV], .int .i64 0]) ∧ Below W.heap.size W w') := fun W K hK hW =>
              get_p (HS.out.below hW) hb0 rfl (z % j) hK.symm (by rw [q3]; exact hzm) c0
            have hW : HeldC g s bb (off + s) (.pointer (some ⟨b1.at_, 0, none⟩)) (.pointer (some ⟨b0.at_, 0, none⟩)) (.int .u8 (z : Int)) wr wr := ⟨hg1, hg0, hcell, hgl, hbb, Below.refl _ _⟩
            have HGL : Hid (g < wr.heap.size) := hgl
            have HBB : Hid (bb < wr.heap.size) := hbb
            have hjj : (j : Int) ≠ 0 := by omega
            have hz3 : IntKind.i64.wrap (z : Int) = (z : Int) := by simp [IntKind.wrap, IntKind.signed, IntKind.bits]; omega
            have hj00 : ¬ j = 0 := by omega
            have hj01 : (j == 0) = false := by simpa using hj00
            have hj02 : ((j : Int) == 0) = false := by simpa using hj00
            have hlz : (s : Int) < (Z.length : Int) := by omega
            have ht1 : (z : Int).tmod (j : Int) = ((z % j : Nat) : Int) := by rw [Int.tmod_eq_emod_of_nonneg (by omega)]; rfl
            have ht3 : (z : Int) % (j : Int) = ((z % j : Nat) : Int) := rfl
            have ht2 : IntKind.i64.wrap ((z % j : Nat) : Int) = ((z % j : Nat) : Int) := by
              have hzz : z % j < 32 := by omega
              generalize z % j = zz at *
              simp [IntKind.wrap, IntKind.signed, IntKind.bits]; omega
            have hy1 : IntKind.i64.wrap ((s : Int) + 1 - 1) = (s : Int) := by simp [IntKind.wrap, IntKind.signed, IntKind.bits]; omega
            have hy2 : IntKind.i64.wrap (s : Int) = (s : Int) := by simp [IntKind.wrap, IntKind.signed, IntKind.bits]; omega
            have hx1 : (0 : Int) ≤ (s : Int) + 1 := by omega
            have hx2 : ¬ ((s : Int) + 1 < 0) := by omega
            have hx3 : (s : Int) + 1 < ((t + 1 : Nat) : Int) := by omega
            have hx4 : (0 : Int) ≤ (s : Int) := by omega
            have hx6 : (s : Int) ≤ (t : Int) := by omega
            have hx7 : s ≤ t := by omega
            have hx8 : (s : Int) < (t : Int) + 1 := by omega
            have hx9 : s < t + 1 := by omega
            have hx10 : ¬ ((s : Int) < 0) := by omega
            have hx5 : (s : Int) < ((t + 1 : Nat) : Int) := by omega
            have HKD : Hid (¬ (kd = 2 ∧ an = (s : Int))) := hkd
            clear p1 p2 p3 p4 q1 q2 q3 q4 c1 c0 hgd hzt hb1 hb0 hkd HCH HF0 hg1 hg0 hcell hgl hbb hlen hcap
            generalize z % j = zz at *
            generalize b1.at_ = A1 at *
            generalize b0.at_ = A0 at *
            have HC1 : Hid (∀ W (K : Int), K = (zz : Int) → HeldC g s bb (off + s) (.pointer (some ⟨A1, 0, none⟩)) (.pointer (some ⟨A0, 0, none⟩)) (.int .u8 (z : Int)) wr W → Calls Try.prog 21 #[.pointer (some ⟨A1, 0, none⟩), .int .i64 K] W fun e w' => ∃ aK kK aV kV, e = .returned (.tuple #[.agg #[.int .i64 2, .int .i64 (s : Int), .int .i64 0, .slice aK 0 kK, .slice aV 0 kV], .int .i64 0]) ∧ HeldC g s bb (off + s) (.pointer (some ⟨A1, 0, none⟩)) (.pointer (some ⟨A0, 0, none⟩)) (.int .u8 (z : Int)) wr w' ∧ (∀ p : Addr, p.block < W.heap.size → w'.cell? p = W.cell? p) ∧ (∀ p : Addr, p.block < W.heap.size → w'.frozen? p = W.frozen? p) ∧ W.heap.size ≤ w'.heap.size ∧ Hid (Below W.heap.size W w')) := fun W K hK hW =>
              (HG1.out W K hK hW.2.2.2.2.2.out).mono fun e w' ⟨aK, kK, aV, kV, h1, h2⟩ => ⟨aK, kK, aV, kV, h1, hW.go h2, fun p hp => h2.cell hp, fun p hp => h2.frozen hp, h2.size, h2⟩
            go_upto_region 21 with fail
            go_cut [12] (fun c wx => ∃ cB, c = .pointer (some ⟨cB, 0, none⟩) ∧ Hid (GotC cB 2 (s : Int) wx) ∧ Hid (HeldC g s bb (off + s) (.pointer (some ⟨A1, 0, none⟩)) (.pointer (some ⟨A0, 0, none⟩)) (.int .u8 (z : Int)) wr wx))
            case first =>
              go_region_held3 (fun W => W.cell? ⟨g, s + 1, none⟩ = some (.pointer (some ⟨A1, 0, none⟩)) ∧ W.cell? ⟨g, s, none⟩ = some (.pointer (some ⟨A0, 0, none⟩)) ∧ W.cell? ⟨bb, off + s, none⟩ = some (.int .u8 (z : Int)) ∧ Hid (g < W.heap.size) ∧ Hid (bb < W.heap.size) ∧ Hid (Below wr.heap.size wr W)) ((show HeldC g s bb (off + s) (.pointer (some ⟨A1, 0, none⟩)) (.pointer (some ⟨A0, 0, none⟩)) (.int .u8 (z : Int)) wr _; repeat (first | with_reducible assumption | with_reducible refine HeldC.drew ?_ | with_reducible refine HeldC.alloc ?_ _ | with_reducible refine HeldC.set5 ?_ (by first | exact Nat.le_refl _ | simp) HGL.out HBB.out _ _ _ _ _))) (first | (go_at_call 21; refine Calls.mono (HC1.out _ _ (by first | exact ht3 | rw [hz3, ht1] | rw [ht1, ht2] | rw [ht1] | rfl) (by repeat (first | with_reducible assumption | with_reducible refine HeldC.drew ?_ | with_reducible refine HeldC.alloc ?_ _ | with_reducible refine HeldC.set5 ?_ (by first | exact Nat.le_refl _ | simp) HGL.out HBB.out _ _ _ _ _))) ?_; rintro e w7 ⟨aK, kK, aV, kV, rfl, hW7, hc7, hf7, hs7, HB7⟩))
              all_goals
                go_wp2_with fail
                go_meet
                case rel => refine ⟨_, rfl, (show GotC _ _ _ _ from by first | with_reducible exact GotC.new _ _ _ _ _ | with_reducible exact GotC.old (by first | with_reducible exact heap_alloc_new _ _ | with_reducible exact alloc_drew_new _ _) HB7.out _ _ _ _), (show HeldC _ _ _ _ _ _ _ _ _ from by first | with_reducible exact HeldC.alloc hW7 _ | with_reducible exact HeldC.set5 hW7 (Nat.le_refl _) HGL.out HBB.out _ _ _ _ _)⟩
            case rest =>
              clear hW HC1 HG1
              obtain ⟨cB, rfl, HGC, HH⟩ := hcut
              have hW : HeldC g s bb (off + s) (.pointer (some ⟨A1, 0, none⟩)) (.pointer (some ⟨A0, 0, none⟩)) (.int .u8 (z : Int)) wc wc := ⟨HH.out.1, HH.out.2.1, HH.out.2.2.1, HH.out.2.2.2.1, HH.out.2.2.2.2.1, Below.refl _ _⟩
              have HBW : Hid (Below wr.heap.size wr wc) := HH.out.2.2.2.2.2.out
              have HGL2 : Hid (g < wc.heap.size) := HH.out.2.2.2.1
              have HBB2 : Hid (bb < wc.heap.size) := HH.out.2.2.2.2.1
              have HC0 : Hid (∀ W (K : Int), K = (zz : Int) → HeldC g s bb (off + s) (.pointer (some ⟨A1, 0, none⟩)) (.pointer (some ⟨A0, 0, none⟩)) (.int .u8 (z : Int)) wc W → Calls Try.prog 21 #[.pointer (some ⟨A0, 0, none⟩), .int .i64 K] W fun e w' => ∃ aK kK aV kV, e = .returned (.tuple #[.agg #[.int .i64 kd, .int .i64 an, .int .i64 0, .slice aK 0 kK, .slice aV 0 kV], .int .i64 0]) ∧ HeldC g s bb (off + s) (.pointer (some ⟨A1, 0, none⟩)) (.pointer (some ⟨A0, 0, none⟩)) (.int .u8 (z : Int)) wc w' ∧ (∀ p : Addr, p.block < W.heap.size → w'.cell? p = W.cell? p) ∧ (∀ p : Addr, p.block < W.heap.size → w'.frozen? p = W.frozen? p) ∧ W.heap.size ≤ w'.heap.size ∧ Hid (Below W.heap.size W w')) := fun W K hK hW =>
                (HG0.out W K hK (Below.chain HBW.out hW.2.2.2.2.2.out HBW.out.size)).mono fun e w' ⟨aK, kK, aV, kV, h1, h2⟩ => ⟨aK, kK, aV, kV, h1, hW.go h2, fun p hp => h2.cell hp, fun p hp => h2.frozen hp, h2.size, h2⟩
              clear HH HGL HBB HG0
              go_upto_region 22 with fail
              go_cut [14] (fun c wx => ∃ dB, c = .pointer (some ⟨dB, 0, none⟩) ∧ Hid (GotC dB kd an wx) ∧ Hid (HeldC g s bb (off + s) (.pointer (some ⟨A1, 0, none⟩)) (.pointer (some ⟨A0, 0, none⟩)) (.int .u8 (z : Int)) wc wx))
              case first =>
                go_region_held3 (fun W => W.cell? ⟨g, s + 1, none⟩ = some (.pointer (some ⟨A1, 0, none⟩)) ∧ W.cell? ⟨g, s, none⟩ = some (.pointer (some ⟨A0, 0, none⟩)) ∧ W.cell? ⟨bb, off + s, none⟩ = some (.int .u8 (z : Int)) ∧ Hid (g < W.heap.size) ∧ Hid (bb < W.heap.size) ∧ Hid (Below wc.heap.size wc W)) ((show HeldC g s bb (off + s) (.pointer (some ⟨A1, 0, none⟩)) (.pointer (some ⟨A0, 0, none⟩)) (.int .u8 (z : Int)) wc _; repeat (first | with_reducible assumption | with_reducible refine HeldC.drew ?_ | with_reducible refine HeldC.alloc ?_ _ | with_reducible refine HeldC.set5 ?_ (by first | exact Nat.le_refl _ | simp) HGL2.out HBB2.out _ _ _ _ _))) (first | (go_at_call 21; refine Calls.mono (HC0.out _ _ (by first | exact ht3 | rw [hz3, ht1] | rw [ht1, ht2] | rw [ht1] | rfl) (by repeat (first | with_reducible assumption | with_reducible refine HeldC.drew ?_ | with_reducible refine HeldC.alloc ?_ _ | with_reducible refine HeldC.set5 ?_ (by first | exact Nat.le_refl _ | simp) HGL2.out HBB2.out _ _ _ _ _))) ?_; rintro e w7 ⟨aK, kK, aV, kV, rfl, hW7, hc7, hf7, hs7, HB7⟩))
                all_goals
                  go_wp2_with fail
                  go_meet
                  case rel => refine ⟨_, rfl, (show GotC _ _ _ _ from by first | with_reducible exact GotC.new _ _ _ _ _ | with_reducible exact GotC.old (by first | with_reducible exact heap_alloc_new _ _ | with_reducible exact alloc_drew_new _ _) HB7.out _ _ _ _), (show HeldC _ _ _ _ _ _ _ _ _ from by first | with_reducible exact HeldC.alloc hW7 _ | with_reducible exact HeldC.set5 hW7 (Nat.le_refl _) HGL2.out HBB2.out _ _ _ _ _)⟩
              case rest =>
                obtain ⟨dB, rfl, HGD, HH2⟩ := hcut
                have hB5 := HH2.out.2.2.2.2.2.out
                obtain ⟨x0, x1, x2⟩ := (HGC.out.go hB5).cells
                obtain ⟨y0, y1, y2⟩ := HGD.out.cells
                have hB6 := Below.chain HBW.out hB5 HBW.out.size
                have HS6 : Hid (_) := HS.out.below hB6
                have HBK6 : Hid (Bks w.heap.size wc (.slice (some ⟨g, 0, none⟩) (t + 1) cap1) (bs.map (·.at_))) := HBK.out.keep (keepB HS.out.size hB6) (by simp)
                have HB6 : Hid (Below w.heap.size w wc) := Below.chain HB.out hB6 HB.out.size
                have hkb := HKD.out
                clear HS HBK HB HGC HGD HH2 hB5 hB6 HBW HC0 HGL2 HBB2 hW ht1 ht2 ht3 hz3 hy1 hy2
                by_cases hk2 : kd = 2
                · subst hk2
                  have hka : ¬ an = (s : Int) := fun e => hkb ⟨rfl, e⟩
                  have hkc : (an == (s : Int)) = false := by simpa using hka
                  clear hkb
                  go_wp2_with fail
                  go_roundw
                  case rel => exact ⟨s + 1, by go_num, by omega, HS6, HBK6, HB6⟩
                  case measure => simp [intOf]; omega
                · have hkc : (kd == 2) = false := by simpa using hk2
                  clear hkb
                  go_wp2_with fail
                  go_roundw
                  case rel => exact ⟨s + 1, by go_num, by omega, HS6, HBK6, HB6⟩
                  case measure => simp [intOf]; omega
          · have hst : s = t := by omega
            subst hst
            have hlt' : ¬ ((s : Int) + 1 < (s : Int) + 1) := by omega
            obtain ⟨b0, hb0, hbA⟩ := HF0.out
            have hlv := HCH.out.lv
            have H1 : Hid (_) := live_is HS.out (i := 0) (b := b0) (n := (j : Int) / 8 + ((s : Int) + 1) - 1) hb0 hbA (by rw [(HCH.out.book 0 b0 hb0).1, hlv]; omega)
            have hlen2 := hlen
            clear hlv hb0 hbA hlen hlen2 hlt3
            go_wp2_with fail
            refine Calls.mono H1.out ?_
            rintro e w9 ⟨rfl, rfl⟩
            go_wp2_with fail
            refine Calls.mono (awake_any _) ?_
            rintro e w11 ⟨rfl, hb11⟩
            have HB11 : Hid (_) := hb11
            clear hb11
            go_wp2_with fail
            go_ret
            exact ⟨rfl, Below.chain HB.out HB11.out HB.out.size⟩
theorem chains_call (a0 : Int) (x0 : Option Addr) (len0 cap0 : Nat) (z0 : List Int) (w : World) (ha : 0 ≤ a0 ∧ a0 ≤ 255) (h0 : IsB w x0 len0 cap0 z0) :
    Calls Try.prog 6 #[.int .u8 a0, .slice x0 len0 cap0] w fun e w' => e = .returned (.bool true) ∧ Below w.heap.size w w' := by
  obtain ⟨Z, rfl, hl, hm, hN, hz⟩ := h0.ns
  exact chains_walk a0 Z x0 cap0 w ha (Nat.le_trans hl hm) hz hN
end Go.Proofs.Ytbemmebnidmppaa.P
