-- PROVED: the walk of FrameCut.
import Derived.Test.YtpkeeoeghdmagaaFRowsWalk
import Derived.Test.YtpkeeoeghdmagaaFRef
import Derived.Test.YtpkeeoeghdmagaaCBytes
import Derived.Test.YtpkeeoeghdmagaaFCutMath
namespace Go.Proofs.Ytpkeeoeghdmagaa.F
open Go.RowKit
attribute [local go_sem ↓] Go.wp_at_zero Go.wp_at_succ
theorem small_snoc {L : List (List UInt8)} {k m : Nat} (h : ∀ t ∈ L.take k, t.length ≤ m) (hk : k < L.length) (ht : L[k].length ≤ m) : ∀ t ∈ L.take (k + 1), t.length ≤ m := by
  intro t hm
  rw [List.take_succ_eq_append_getElem hk, List.mem_append] at hm
  rcases hm with hm | hm
  · exact h t hm
  · simp at hm; rw [hm]; exact ht
/-- What is held while the last statement is reckoned. -/
def HeldX (w : World) (ao bo : Option Addr) (X : List (List UInt8)) (W : World) : Prop := Below w.heap.size w W ∧ Lies W ao X ∧ Lies W bo X
theorem HeldX.go {w W W' : World} {ao bo : Option Addr} {X : List (List UInt8)} (h : HeldX w ao bo X W) (hb : Below W.heap.size W W') : HeldX w ao bo X W' := ⟨C.below_chain h.1 hb, h.2.1.below hb, h.2.2.below hb⟩
theorem HeldX.drew {w W : World} {ao bo : Option Addr} {X : List (List UInt8)} (h : HeldX w ao bo X W) : HeldX w ao bo X W.drew := h.go (Below.refl _ _).drew
theorem all_bound (l : List UInt8) : (Fm.all l).1.length ≤ l.length := by
  have : ∀ k l, (Fm.allF k l).1.length ≤ k := by
    intro k
    induction k with
    | zero => intro l; simp [Fm.allF]
    | succ k ih =>
      intro l
      unfold Fm.allF
      by_cases h : l = []
      · rw [if_pos h]; simp
      · rw [if_neg h]
        by_cases h0 : (Fm.one l).2.2 = 0
        · rw [if_pos h0]
          have := ih (l.drop (Fm.one l).2.1)
          simp only [List.length_cons]
          omega
        · rw [if_neg h0]; simp
  exact this _ _
set_option maxRecDepth 100000 in
set_option maxHeartbeats 8000000 in
theorem cut_walk (ao : Option Addr) (ca : Nat) (L : List (List UInt8)) (c a : Nat) (y : UInt8) (w : World) (hc : c < 65536) (hat : a < 65536) (hca : L.length ≤ ca) (_hLl : ca ≤ maxLen) (hLw : ∀ t ∈ L, t.length ≤ maxLen) (ha : Lies w ao L) :
    Calls Try.prog 4 #[.slice ao L.length ca, .int .u16 (c : Int), .int .u16 (a : Int), .int .u8 (y.toNat : Int)] w fun e w' => e = .returned (.bool true) ∧ Below w.heap.size w w' := by
  obtain ⟨i3, hi3, hz0, hz1, hz2⟩ := info_parts Try.info3
  unfold maxLen at _hLl
  obtain ⟨yi, hyi⟩ : ∃ yi : Int, (y.toNat : Int) = yi := ⟨_, rfl⟩
  rw [hyi]
  have HYI : Hid (_) := hyi
  clear hyi
  by_cases k1 : 12 < L.length
  · go_enter Try.func4, Try.ntmps4
    go_wp2_with fail
    refine (awake_any _).mono ?_
    rintro e w1 ⟨rfl, hb⟩
    go_wp2
    go_ret
    exact ⟨rfl, hb⟩
  have HA : Hid (_) := ha
  have HLW : Hid (_) := hLw
  clear ha hLw
  generalize hnL : L.length = nL at k1 hca
  have HNL : Hid (_) := hnL
  clear hnL
  go_enter Try.func4, Try.ntmps4
  go_wp2_with fail
  go_loopw [9, 10, 11] (fun s v i wr => ∃ (k : Nat) (S : ByteArray), k ≤ nL ∧ i = .int .i64 (k : Int) ∧ s = .string S ∧ Hid (S.data.toList = Fm.puts (L.take k)) ∧ Hid (∀ t ∈ L.take k, t.length ≤ 300) ∧ S.size ≤ 320 * k ∧
      Hid (wr.ownsRow w.heap.size 3 1 v k (ints (Fm.fins L k))) ∧ Below w.heap.size w wr) (fun _ _ i _ => nL - (intOf i).toNat)
  case atStart => exact ⟨0, ⟨#[]⟩, by omega, rfl, rfl, rfl, (show ∀ t ∈ L.take 0, t.length ≤ 300 from by simp), Nat.zero_le _, World.ownsRow_nil _ _ _ _, Below.refl _ _⟩
  case round =>
    obtain ⟨k, S, hk, rfl, rfl, HS, HSM, hSs, HOW, hbel⟩ := hrel
    obtain ⟨eo, ce, rfl⟩ := own_len HOW.out
    by_cases hlt : k < nL
    · have hlt' : (k : Int) < nL := by omega
      have hkL : k < L.length := by rw [HNL.out]; exact hlt
      obtain ⟨b, off, rfl, hbl, hcell⟩ := HA.out.resolve_left (by omega)
      have hck : wr.cell? ⟨b, off + k, none⟩ = some (.string ⟨L[k].toArray⟩) := (hbel.cell (p := ⟨b, off + k, none⟩) hbl).trans (hcell k hkL)
      have hzl : (⟨L[k].toArray⟩ : ByteArray).size = L[k].length := mk_size _
      have hlw := HLW.out _ (List.getElem_mem hkL)
      unfold maxLen at hlw
      rw [← hzl] at hlw
      by_cases hbig : 300 < L[k].length
      · rw [← hzl] at hbig
        clear hcell hzl
        generalize hz : (⟨L[k].toArray⟩ : ByteArray) = z at hck hbig hlw
        clear hz hkL
        go_wp2_with fail
        refine (awake_any _).mono ?_
        rintro e w1 ⟨rfl, hb1⟩
        go_wp2
        go_ret
        exact ⟨rfl, C.below_chain hbel hb1⟩
      · have HSM2 : Hid (_) := small_snoc HSM.out hkL (by omega)
        have HST : Hid (_) := puts_step L k hkL
        have HFS : Hid (_) := Fm.fin_step L k hkL
        have HF2 : Hid (_) := Fm.fins_snoc L k
        rw [← hzl] at hbig
        have HDT : Hid ((⟨L[k].toArray⟩ : ByteArray).data.toList = L[k]) := rfl
        clear hcell hzl
        generalize hLk : L[k] = T at HST HFS HDT hck hlw hbig
        clear hLk
        generalize hz : (⟨T.toArray⟩ : ByteArray) = z at hck hbig hlw HDT
        clear hz hkL
        have HPUT : Hid (_) := fun W => putO z (by omega) W
        go_wp2_with fail
        refine Calls.mono (HPUT.out _) ?_
        rintro e w1 ⟨P, rfl, HPD, hPs, hb1⟩
        have HOW1 : Hid (_) := own_below HOW.out hb1
        have hbel1 := C.below_chain hbel hb1
        have hsz1 := hbel1.size
        have hSP : S.size + P.size ≤ 320 * (k + 1) := by omega
        have HSP : Hid ((S ++ P).data.toList = Fm.puts (L.take (k + 1))) := (show (S ++ P).data.toList = Fm.puts (L.take (k + 1)) from by rw [cat_list, HS.out, HPD.out, HST.out, HDT.out])
        have hfin : (S.size : Int) + (P.size : Int) = (Fm.fin L k : Int) := by
          have h1 : (S ++ P).size = Fm.fin L k := by rw [← V.size_list, HSP.out]; rfl
          have h2 : (S ++ P).size = S.size + P.size := ByteArray.size_append
          omega
        have HI : Hid (_) := ints_snoc (Fm.fins L k) (Fm.fin L k)
        clear hbel hb1 HPUT HST HFS HS HPD HDT HOW
        go_wp2_with (first
          | (go_at_call 13; refine Calls.mono (V.err_any _ _) ?_; rintro e w8 ⟨rfl, rfl⟩)
          | (at_builtin; refine wpList_append_own _ rfl _ _ 32 rfl w.heap.size 3 i3 (.int .i64 0) 1 8 Try.underlying32 hi3 hz0 hz1 hz2 rfl (by decide) _ _ _ rfl (World.ownsRow.alloc HOW1.out _) ⟨w8.heap.size, 0, none⟩ 1 1 [.int .i64 (Fm.fin L k : Int)] rfl rfl (V.one_cell _ _ _) (by intro u hu; simp at hu; subst hu; rfl) (by unfold maxLen; omega) (by omega) (by simp; omega) ?_
             intro v2 w2 hown2 hgrow2 _
             rw [HI.out, HF2.out] at hown2
             have hb2 := (hbel1.alloc hsz1 _).grown hgrow2 (by simp; omega) (V.own_row HOW1.out)
             clear hgrow2))
        go_roundw
        case rel =>
          refine ⟨k + 1, S ++ P, by omega, by go_num, rfl, HSP, HSM2, by rw [ByteArray.size_append]; exact hSP, hown2, hb2⟩
        case measure => simp [intOf]; omega
    · have hlt' : ¬ ((k : Int) < nL) := by omega
      have hkn : k = nL := by omega
      subst hkn
      have hLk : L.take k = L := List.take_of_length_le (by rw [HNL.out]; omega)
      rw [hLk] at HS HSM
      have hSs' : S.size ≤ 3840 := by omega
      have HSM4 : Hid (∀ t ∈ L, t.length ≤ 4096) := fun t ht => Nat.le_trans (HSM.out t ht) (by decide)
      have hSl : (Fm.puts L).length = S.size := by rw [← HS.out, V.size_list]
      obtain ⟨K, hK⟩ : ∃ K, c % (S.size + 1) = K := ⟨_, rfl⟩
      have hKI : (c : Int) % ((S.size : Int) + 1) = (K : Int) := by
        rw [show ((S.size : Int) + 1) = ((S.size + 1 : Nat) : Int) by omega, ← hK]; rfl
      have hKS : K ≤ S.size := by
        have := Nat.mod_lt c (show 0 < S.size + 1 by omega)
        omega
      have hCUT := Fm.cut L HSM4.out K (by omega)
      obtain ⟨Wn, hW1, hW2, hW3, hW4⟩ := hCUT
      rw [HNL.out] at hW1 hW2
      have HW2 : Hid (_) := hW2
      have HW4 : Hid (_) := hW4
      have hEc : Hid (∀ i, i < k → ∃ g, eo = some ⟨g, 0, none⟩ ∧ g < wr.heap.size ∧ wr.cell? ⟨g, i, none⟩ = some (.int .i64 (Fm.fin L i : Int))) := fun i hik => by
        obtain ⟨g, cap, he, _, _, hg, hcell⟩ := own_some HOW.out (by omega)
        cases he
        exact ⟨g, rfl, hg, hcell i _ (by simp [ints, Fm.fins_at L k i hik])⟩
      clear hW2 hW4 hK hLk hSs HSM HOW HLW
      go_wp2_with fail
      go_loop [15, 16, 17] (fun wh us ix => ∃ i m : Nat, i ≤ k ∧ m = min i Wn ∧ ix = .int .i64 (i : Int) ∧ wh = .int .i64 (m : Int) ∧ us = .int .i64 ((Fm.puts (L.take m)).length : Int)) (fun _ _ ix => k - (intOf ix).toNat)
      case atStart => exact ⟨0, 0, by omega, by omega, rfl, rfl, by simp [Fm.puts]⟩
      case round =>
        obtain ⟨i, m, hi, hm, rfl, rfl, rfl⟩ := hrel
        by_cases hik : i < k
        · have hik' : (i : Int) < k := by omega
          obtain ⟨g, rfl, hg, hgc⟩ := hEc.out i hik
          have hiff := HW2.out i hik
          clear hEc HA HNL
          by_cases hfk : Fm.fin L i ≤ K
          · have hfk' : (Fm.fin L i : Int) ≤ (K : Int) := by omega
            have hiW := hiff.1 hfk
            have HFI : Hid (Fm.fin L i = (Fm.puts (L.take (i + 1))).length) := rfl
            clear hiff hfk
            generalize hF : Fm.fin L i = f at hfk' hgc HFI
            clear hF
            go_wp2_with fail
            go_round
            case rel => exact ⟨i + 1, i + 1, by omega, by omega, by go_num, by go_num, by rw [HFI.out]⟩
            case measure => simp [intOf]; omega
          · have hfk' : ¬ ((Fm.fin L i : Int) ≤ (K : Int)) := by omega
            have hiW : ¬ i < Wn := fun h => hfk (hiff.2 h)
            clear hiff hfk
            go_wp2_with fail
            go_round
            case rel => exact ⟨i + 1, m, by omega, by omega, by go_num, rfl, rfl⟩
            case measure => simp [intOf]; omega
        · have hik' : ¬ ((i : Int) < k) := by omega
          have hmW : m = Wn := by omega
          subst hmW
          clear hik hi hm
          have hx : (S.extract 0 K).data.toList = (Fm.puts L).take K := by
            have := V.extract_eq S 0 K
            rw [Nat.zero_add] at this
            rw [this, ← HS.out]; simp
          have hAL := fun W => all_any (S.extract 0 K) W (by simp [ByteArray.size_extract]; omega)
          rw [hx, HW4.out] at hAL
          have htl : (L.take m).length = m := by rw [List.length_take, HNL.out]; omega
          have HSAME : Hid (_) := fun (W : World) (ad : Option Addr) (cc : Nat) (h1 : Lies W ad (L.take m)) (h2 : Lies W ao (L.take m)) => same_any (L.take m) ad ao cc ca W (by omega) h1 h2
          rw [htl] at HSAME
          simp only [] at hAL
          rw [htl] at hAL
          have hAL2 : Hid (∀ W, Calls Try.prog 11 #[.string (S.extract 0 K)] W fun e w' => ∃ a3 c3, e = .returned (.tuple #[.slice a3 m c3, .int .i64 ((Fm.puts (L.take m)).length : Int), .int .i64 ((if (Fm.puts (L.take m)).length = K then 0 else 3 : Nat) : Int)]) ∧ Lies w' a3 (L.take m) ∧ Below W.heap.size W w') :=
            (show ∀ W, Calls Try.prog 11 #[.string (S.extract 0 K)] W fun e w' => ∃ a3 c3, e = .returned (.tuple #[.slice a3 m c3, .int .i64 ((Fm.puts (L.take m)).length : Int), .int .i64 ((if (Fm.puts (L.take m)).length = K then 0 else 3 : Nat) : Int)]) ∧ Lies w' a3 (L.take m) ∧ Below W.heap.size W w' from fun W => (hAL W).mono (by
              rintro e w' ⟨v, rfl, ho, hb⟩
              obtain ⟨a3, c3, rfl, _, hl⟩ := Lies.own (L := L.take m) (by rw [htl]; exact ho)
              rw [htl]
              exact ⟨a3, c3, rfl, hl, hb⟩))
          clear hAL hx HW4
          generalize hU : (Fm.puts (L.take m)).length = U at hW3 hAL2
          clear hU
          have hmk : (m : Int) ≤ (ca : Int) := by omega
          have hm0 : (0 : Int) ≤ (m : Int) := by omega
          obtain ⟨E3, q3, hE3, hq3, hUE⟩ : ∃ (E3 : Nat) (q : Bool), (if U = K then 0 else 3 : Nat) = E3 ∧ ((U : Int) == (K : Int)) = q ∧ ((E3 = 0 ∧ q = true) ∨ (E3 = 3 ∧ q = false)) := by
            by_cases h : U = K
            · exact ⟨0, true, if_pos h, by rw [h]; simp, .inl ⟨rfl, rfl⟩⟩
            · exact ⟨3, false, if_neg h, by rw [beq_eq_false_iff_ne]; omega, .inr ⟨rfl, rfl⟩⟩
          rw [hE3] at hAL2
          clear hE3
          rcases hUE with ⟨rfl, rfl⟩ | ⟨rfl, rfl⟩
          all_goals
            go_wp2_with fail
            refine Calls.mono (hAL2.out _) ?_
            rintro e w3 ⟨a3, c3, rfl, l3, hb3⟩
            have hbel3 := C.below_chain hbel hb3
            have lt3 := (Lies.below HA.out hbel3).take m
            go_wp2_with fail
            refine Calls.mono (HSAME.out _ _ _ l3 lt3) ?_
            rintro e w4 ⟨rfl, hb4⟩
            have hbel4 := C.below_chain hbel3 hb4
            have hb04 : Hid (_) := C.below_chain hb3 hb4
            clear l3 lt3 hb3 hb4 hbel3 hAL2 HSAME
            by_cases hS0 : S.size = 0
            · have hS0' : ((S.size : Int) == 0) = true := by rw [hS0]; rfl
              go_wp2_with (first | (go_at_call 13; refine Calls.mono (V.err_any _ _) ?_; rintro e w8 ⟨rfl, rfl⟩))
              refine (awake_any _).mono ?_
              rintro e w9 ⟨rfl, hb9⟩
              go_wp2
              go_ret
              exact ⟨rfl, C.below_chain hbel4 hb9⟩
            · have hS0' : ((S.size : Int) == 0) = false := by rw [beq_eq_false_iff_ne]; omega
              obtain ⟨J, hJ⟩ : ∃ J, a % S.size = J := ⟨_, rfl⟩
              have hJI : (a : Int) % (S.size : Int) = (J : Int) := by rw [← hJ]; rfl
              have hJS : J < S.size := by rw [← hJ]; exact Nat.mod_lt _ (by omega)
              have hJS' : (J : Int) < (S.size : Int) := by omega
              obtain ⟨x, hx⟩ : ∃ x, S.data.toList[J]? = some x := ⟨S.data.toList[J]'(by rw [V.size_list]; exact hJS), List.getElem?_eq_getElem _⟩
              obtain ⟨cap, w5, hcv, hM⟩ := C.Mine.ofText (Below.refl w4.heap.size w4) S
              obtain ⟨c1, c2⟩ := hM.2.2.2 _ x hx
              have hxo : bits .xor .u8 (x.toNat : Int) (y.toNat : Int) = ((x ^^^ y).toNat : Int) := by
                rw [UInt8.toNat_xor]; exact u8_xor_nat _ _ x.toNat_lt y.toNat_lt
              obtain ⟨z8, hz8⟩ : ∃ z, x ^^^ y = z := ⟨_, rfl⟩
              rw [hz8, HYI.out] at hxo
              have HM2 : Hid (C.Mine w4 (w5.setCell ⟨w4.heap.size, J, none⟩ (.int .u8 (z8.toNat : Int))) w4.heap.size (S.data.toList.set J z8)) := hM.set J (by rw [V.size_list]; exact hJS) z8
              obtain ⟨A, hA1, hA2, hA3, hA4⟩ := Fm.turned L HSM4.out J (by omega) z8
              rw [HNL.out] at hA1 hA2
              rw [← HS.out] at hA3 hA4
              have hy0 : y = 0 → (Fm.all (S.data.toList.set J z8)).2.2 = 0 := fun h0 => by
                have e1 : z8 = x := by rw [← hz8, h0]; simp
                have e2 : S.data.toList.set J z8 = S.data.toList := by
                  rw [e1]
                  have hJl : J < S.data.toList.length := by rw [V.size_list]; exact hJS
                  rw [List.getElem?_eq_getElem hJl] at hx
                  have hx2 := Option.some.inj hx
                  rw [← hx2, List.set_getElem_self]
                rw [e2, HS.out, Fm.all_whole L HSM4.out]
              have HB2 : Hid (_) := hA2
              have HB4 : Hid (_) := hA4
              have HY0 : Hid (_) := hy0
              have HZ8 : Hid (_) := hz8
              have HX : Hid (_) := hx
              clear hJ hM hA2 hA4 hy0 hz8 hx
              go_wp2_with (first | (go_at_call 13; refine Calls.mono (V.err_any _ _) ?_; rintro e w8 ⟨rfl, rfl⟩))
              have hbM := HM2.out.below
              have hEc6 : Hid (∀ i, i < k → ∃ g, eo = some ⟨g, 0, none⟩ ∧ (w5.setCell ⟨w8.heap.size, J, none⟩ (.int .u8 (z8.toNat : Int))).cell? ⟨g, i, none⟩ = some (.int .i64 (Fm.fin L i : Int))) := fun i hik => by
                obtain ⟨g, h1, h2, h3⟩ := hEc.out i hik
                exact ⟨g, h1, ((C.below_chain hb04.out hbM).cell (p := ⟨g, i, none⟩) h2).trans h3⟩
              clear c1 c2 hxo hEc hW3 hKS hcv
              generalize w5.setCell ⟨w8.heap.size, J, none⟩ (.int .u8 (z8.toNat : Int)) = w6 at HM2 hbM hEc6 ⊢
              go_loop [23, 24] (fun ah ix => ∃ i m : Nat, i ≤ k ∧ m = min i A ∧ ix = .int .i64 (i : Int) ∧ ah = .int .i64 (m : Int)) (fun _ ix => k - (intOf ix).toNat)
              case atStart => exact ⟨0, 0, by omega, by omega, rfl, rfl⟩
              case round =>
                obtain ⟨i, m, hi, hm, rfl, rfl⟩ := hrel
                by_cases hik : i < k
                · have hik' : (i : Int) < k := by omega
                  obtain ⟨g, rfl, hgc⟩ := hEc6.out i hik
                  have hiff := HB2.out i hik
                  clear hEc6 HA HNL
                  by_cases hfk : Fm.fin L i ≤ J
                  · have hfk' : (Fm.fin L i : Int) ≤ (J : Int) := by omega
                    have hiW := hiff.1 hfk
                    clear hiff hfk
                    go_wp2_with fail
                    go_round
                    case rel => exact ⟨i + 1, i + 1, by omega, by omega, by go_num, by go_num⟩
                    case measure => simp [intOf]; omega
                  · have hfk' : ¬ ((Fm.fin L i : Int) ≤ (J : Int)) := by omega
                    have hiW : ¬ i < A := fun h => hfk (hiff.2 h)
                    clear hiff hfk
                    go_wp2_with fail
                    go_round
                    case rel => exact ⟨i + 1, m, by omega, by omega, by go_num, rfl⟩
                    case measure => simp [intOf]; omega
                · have hik' : ¬ ((i : Int) < k) := by omega
                  have hmA : m = A := by omega
                  subst hmA
                  have hcv := HM2.out.conv cap
                  have hll : (S.data.toList.set J z8).length = S.size := by rw [List.length_set, V.size_list]
                  rw [hll] at hcv
                  have HAL : Hid (_) := fun W => all_any ⟨(S.data.toList.set J z8).toArray⟩ W (by rw [mk_size, hll]; omega)
                  rw [mk_list (S.data.toList.set J z8)] at HAL
                  have hO2 : (Fm.all (S.data.toList.set J z8)).1.length ≤ S.size := by
                    have := all_bound (S.data.toList.set J z8)
                    rw [hll] at this; exact this
                  generalize hBB : (⟨(S.data.toList.set J z8).toArray⟩ : ByteArray) = BB at hcv HAL
                  clear hBB hll HB2 hEc6 hik hi hm HM2 HX HZ8
                  generalize Fm.all (S.data.toList.set J z8) = r at HAL HB4 HY0 hA3 hO2
                  obtain ⟨O, u, f⟩ := r
                  simp only [] at HAL HB4 HY0 hA3 hO2
                  go_wp2_with fail
                  refine Calls.mono (HAL.out _) ?_
                  rintro e w7 ⟨v, rfl, ho7, hb7⟩
                  obtain ⟨aO, cO, rfl, hcO, lO⟩ := Lies.own ho7
                  have hbel7 := C.below_chain (C.below_chain hbel4 hbM) hb7
                  have hW0 : HeldX w aO ao (L.take m) w7 := ⟨hbel7, by rw [← HB4.out]; exact lO.take m, (Lies.below HA.out hbel7).take m⟩
                  have htl : (L.take m).length = m := by rw [List.length_take, HNL.out]; omega
                  have CS : Hid (∀ W, HeldX w aO ao (L.take m) W → Calls Try.prog 14 #[.slice aO m cO, .slice ao m ca] W fun e w' => e = .returned (.bool true) ∧ HeldX w aO ao (L.take m) w') := fun W hW => by
                    have := same_any (L.take m) aO ao cO ca W (by omega) hW.2.1 hW.2.2
                    rw [htl] at this
                    exact this.mono fun _ _ ⟨he, hb⟩ => ⟨he, hW.go hb⟩
                  have C8 : Hid (∀ W, HeldX w aO ao (L.take m) W → Calls Try.prog 8 #[] W fun e w' => e = .returned (.bool true) ∧ HeldX w aO ao (L.take m) w') := fun W hW => (awake_any W).mono fun _ _ ⟨he, hb⟩ => ⟨he, hW.go hb⟩
                  have C13 : Hid (∀ W x, HeldX w aO ao (L.take m) W → Calls Try.prog 13 #[.int .i64 x] W fun e w' => e = .returned (.int .i64 x) ∧ HeldX w aO ao (L.take m) w') := fun W x hW => (V.err_any x W).mono fun _ _ ⟨he, hb⟩ => ⟨he, by rw [hb]; exact hW⟩
                  generalize L.take m = X at hW0 CS C8 C13
                  generalize O.length = nO at hA3 hcO hO2
                  have hm1 : (m : Int) ≤ (nO : Int) := by omega
                  have hm2 : (m : Int) ≤ (cO : Int) := by omega
                  have hm3 : (m : Int) ≤ (ca : Int) := by omega
                  clear HB4 HA HNL HAL ho7 lO hbel7 hb7 hbM hbel4 hb04 htl hcv HSM4 HS hSl hbel
                  obtain ⟨q8, hq8, hyf⟩ : ∃ q : Bool, (yi != 0) = (!q) ∧ (q = true → f = 0) := by
                    refine ⟨(yi == 0), rfl, fun h => HY0.out ?_⟩
                    have h1 : yi = 0 := by simpa using h
                    rw [← HYI.out] at h1
                    exact UInt8.toNat_inj.1 (by simpa using h1)
                  clear HY0 HYI
                  rcases q8 with _ | _
                  · clear hyf
                    have hbne : (yi != 0) = !(yi == 0) := rfl
                    have hbeq : (yi == 0) = false := by
                      rw [hbne] at hq8
                      simpa using hq8
                    clear hq8
                    go_wp2_with fail
                    refine wp_region_held_drew (S := fun W => HeldX w aO ao X W) (by kernel_rfl) (HeldX.drew hW0) (fun hHeld => ?_)
                    refine wpAnyH_take (i := 0) (oi := { dst := some 165, op := Op.move (Operand.tmp 25), type := 29, pos := "law.go:74", after := #[], guard := none }) (v := .slice aO nO cO) rfl (by kernel_rfl) (by kernel_rfl) (by kernel_rfl) (fun _ _ _ h => h) (Or.inl ⟨by rfl, fun w hSw => ?_⟩) hHeld ?_
                    · go_simp
                    simp only [Act.put, List.setIfInBounds_toArray, List.set_cons_zero, List.set_cons_succ]
                    refine wpAnyH_take (i := 1) (oi := { dst := some 166, op := Op.call { callee := Callee.builtin Builtin.len, args := #[Operand.tmp 165], argTypes := #[29] }, type := 3, pos := "law.go:74", after := #[{ on := 0, ground := Ground.data }], guard := none }) (v := .int .i64 (nO : Int)) rfl (by kernel_rfl) (by kernel_rfl) (by kernel_rfl) (fun _ _ _ h => h) (Or.inl ⟨by rfl, fun w hSw => ?_⟩) hHeld ?_
                    · go_simp
                    simp only [Act.put, List.setIfInBounds_toArray, List.set_cons_zero, List.set_cons_succ]
                    refine wpAnyH_take (i := 2) (oi := { dst := some 167, op := Op.move (Operand.tmp 23), type := 3, pos := "law.go:74", after := #[], guard := none }) (v := .int .i64 (m : Int)) rfl (by kernel_rfl) (by kernel_rfl) (by kernel_rfl) (fun _ _ _ h => h) (Or.inl ⟨by rfl, fun w hSw => ?_⟩) hHeld ?_
                    · go_simp
                    simp only [Act.put, List.setIfInBounds_toArray, List.set_cons_zero, List.set_cons_succ]
                    refine wpAnyH_take (i := 3) (oi := { dst := some 168, op := Op.binOp BinOp.geq 3 (Operand.tmp 166) (Operand.tmp 167) 3, type := 4, pos := "law.go:74", after := #[{ on := 1, ground := Ground.data }, { on := 2, ground := Ground.data }], guard := none }) (v := .bool true) rfl (by kernel_rfl) (by kernel_rfl) (by kernel_rfl) (fun _ _ _ h => h) (Or.inl ⟨by rfl, fun w hSw => ?_⟩) hHeld ?_
                    · go_simp
                    simp only [Act.put, List.setIfInBounds_toArray, List.set_cons_zero, List.set_cons_succ]
                    refine wpAnyH_take (i := 4) (oi := { dst := some 169, op := Op.move (Operand.tmp 168), type := 4, pos := "law.go:74", after := #[{ on := 3, ground := Ground.data }], guard := none }) (v := .bool true) rfl (by kernel_rfl) (by kernel_rfl) (by kernel_rfl) (fun _ _ _ h => h) (Or.inl ⟨by rfl, fun w hSw => ?_⟩) hHeld ?_
                    · go_simp
                    simp only [Act.put, List.setIfInBounds_toArray, List.set_cons_zero, List.set_cons_succ]
                    refine wpAnyH_take (i := 5) (oi := { dst := some 170, op := Op.move (Operand.tmp 25), type := 29, pos := "law.go:74", after := #[{ on := 4, ground := Ground.guard }], guard := some (4, true) }) (v := .slice aO nO cO) rfl (by kernel_rfl) (by kernel_rfl) (by kernel_rfl) (fun _ _ _ h => h) (Or.inl ⟨by rfl, fun w hSw => ?_⟩) hHeld ?_
                    · go_simp
                    simp only [Act.put, List.setIfInBounds_toArray, List.set_cons_zero, List.set_cons_succ]
                    refine wpAnyH_take (i := 6) (oi := { dst := some 171, op := Op.move (Operand.tmp 23), type := 3, pos := "law.go:74", after := #[{ on := 4, ground := Ground.guard }], guard := some (4, true) }) (v := .int .i64 (m : Int)) rfl (by kernel_rfl) (by kernel_rfl) (by kernel_rfl) (fun _ _ _ h => h) (Or.inl ⟨by rfl, fun w hSw => ?_⟩) hHeld ?_
                    · go_simp
                    simp only [Act.put, List.setIfInBounds_toArray, List.set_cons_zero, List.set_cons_succ]
                    refine wpAnyH_take (i := 7) (oi := { dst := some 172, op := Op.slice 29 (Operand.tmp 170) none (some (Operand.tmp 171)) none, type := 29, pos := "law.go:74", after := #[{ on := 5, ground := Ground.data }, { on := 6, ground := Ground.data }, { on := 4, ground := Ground.guard }], guard := some (4, true) }) (v := .slice aO m cO) rfl (by kernel_rfl) (by kernel_rfl) (by kernel_rfl) (fun _ _ _ h => h) (Or.inl ⟨by rfl, fun w hSw => ?_⟩) hHeld ?_
                    · go_simp
                    simp only [Act.put, List.setIfInBounds_toArray, List.set_cons_zero, List.set_cons_succ]
                    refine wpAnyH_take (i := 8) (oi := { dst := some 173, op := Op.move (Operand.tmp 0), type := 29, pos := "law.go:74", after := #[{ on := 4, ground := Ground.guard }], guard := some (4, true) }) (v := .slice ao k ca) rfl (by kernel_rfl) (by kernel_rfl) (by kernel_rfl) (fun _ _ _ h => h) (Or.inl ⟨by rfl, fun w hSw => ?_⟩) hHeld ?_
                    · go_simp
                    simp only [Act.put, List.setIfInBounds_toArray, List.set_cons_zero, List.set_cons_succ]
                    refine wpAnyH_take (i := 9) (oi := { dst := some 174, op := Op.move (Operand.tmp 23), type := 3, pos := "law.go:74", after := #[{ on := 4, ground := Ground.guard }], guard := some (4, true) }) (v := .int .i64 (m : Int)) rfl (by kernel_rfl) (by kernel_rfl) (by kernel_rfl) (fun _ _ _ h => h) (Or.inl ⟨by rfl, fun w hSw => ?_⟩) hHeld ?_
                    · go_simp
                    simp only [Act.put, List.setIfInBounds_toArray, List.set_cons_zero, List.set_cons_succ]
                    refine wpAnyH_take (i := 10) (oi := { dst := some 175, op := Op.slice 29 (Operand.tmp 173) none (some (Operand.tmp 174)) none, type := 29, pos := "law.go:74", after := #[{ on := 8, ground := Ground.data }, { on := 9, ground := Ground.data }, { on := 4, ground := Ground.guard }], guard := some (4, true) }) (v := .slice ao m ca) rfl (by kernel_rfl) (by kernel_rfl) (by kernel_rfl) (fun _ _ _ h => h) (Or.inl ⟨by rfl, fun w hSw => ?_⟩) hHeld ?_
                    · go_simp
                    simp only [Act.put, List.setIfInBounds_toArray, List.set_cons_zero, List.set_cons_succ]
                    refine wpAnyH_ready (rs := [11]) (by kernel_rfl) (by simp) ?_
                    refine AllReadyH.cons (o := { dst := some 176, op := Op.call { callee := Callee.value (Operand.func 14), args := #[Operand.tmp 172, Operand.tmp 175], argTypes := #[29, 29] }, type := 4, pos := "law.go:74", after := #[{ on := 7, ground := Ground.data }, { on := 10, ground := Ground.data }, { on := 4, ground := Ground.chain }, { on := 4, ground := Ground.guard }], guard := some (4, true) }) rfl (fun K hK => ?_) AllReadyH.nil
                    go_simp
                    go_at_call 14; refine Calls.mono (CS.out _ hHeld) ?_; rintro e w9 ⟨rfl, hW9⟩; clear hHeld; go_wp2_with fail
                    refine hK.out _ _ ?_ (fun hHeld => ?_)
                    · assumption
                    clear hK K
                    try simp only [Act.put, List.setIfInBounds_toArray, List.set_cons_zero, List.set_cons_succ]
                    refine wpAnyH_take (i := 12) (oi := { dst := some 177, op := Op.pick (Operand.tmp 169) (Operand.tmp 176) (Operand.const (Value.bool false)), type := 4, pos := "law.go:74", after := #[{ on := 4, ground := Ground.data }, { on := 11, ground := Ground.data }], guard := none }) (v := .bool true) rfl (by kernel_rfl) (by kernel_rfl) (by kernel_rfl) (fun _ _ _ h => h) (Or.inl ⟨by rfl, fun w hSw => ?_⟩) hHeld ?_
                    · go_simp
                    simp only [Act.put, List.setIfInBounds_toArray, List.set_cons_zero, List.set_cons_succ]
                    refine wpAnyH_take (i := 13) (oi := { dst := some 178, op := Op.move (Operand.tmp 177), type := 4, pos := "law.go:74", after := #[{ on := 12, ground := Ground.data }, { on := 11, ground := Ground.chain }], guard := none }) (v := .bool true) rfl (by kernel_rfl) (by kernel_rfl) (by kernel_rfl) (fun _ _ _ h => h) (Or.inl ⟨by rfl, fun w hSw => ?_⟩) hHeld ?_
                    · go_simp
                    simp only [Act.put, List.setIfInBounds_toArray, List.set_cons_zero, List.set_cons_succ]
                    refine wpAnyH_take (i := 14) (oi := { dst := some 179, op := Op.move (Operand.tmp 3), type := 5, pos := "law.go:74", after := #[{ on := 13, ground := Ground.guard }], guard := some (13, true) }) (v := .int .u8 yi) rfl (by kernel_rfl) (by kernel_rfl) (by kernel_rfl) (fun _ _ _ h => h) (Or.inl ⟨by rfl, fun w hSw => ?_⟩) hHeld ?_
                    · go_simp
                    simp only [Act.put, List.setIfInBounds_toArray, List.set_cons_zero, List.set_cons_succ]
                    refine wpAnyH_take (i := 15) (oi := { dst := some 180, op := Op.binOp BinOp.neq 5 (Operand.tmp 179) (Operand.const (Value.int IntKind.u8 0)) 5, type := 4, pos := "law.go:74", after := #[{ on := 14, ground := Ground.data }, { on := 13, ground := Ground.guard }], guard := some (13, true) }) (v := .bool true) rfl (by kernel_rfl) (by kernel_rfl) (by kernel_rfl) (fun _ _ _ h => h) (Or.inl ⟨by rfl, fun w hSw => ?_⟩) hHeld ?_
                    · go_simp
                    simp only [Act.put, List.setIfInBounds_toArray, List.set_cons_zero, List.set_cons_succ]
                    refine wpAnyH_take (i := 16) (oi := { dst := some 181, op := Op.move (Operand.tmp 180), type := 4, pos := "law.go:74", after := #[{ on := 15, ground := Ground.data }, { on := 13, ground := Ground.chain }, { on := 13, ground := Ground.guard }], guard := some (13, true) }) (v := .bool true) rfl (by kernel_rfl) (by kernel_rfl) (by kernel_rfl) (fun _ _ _ h => h) (Or.inl ⟨by rfl, fun w hSw => ?_⟩) hHeld ?_
                    · go_simp
                    simp only [Act.put, List.setIfInBounds_toArray, List.set_cons_zero, List.set_cons_succ]
                    refine wpAnyH_take (i := 17) (oi := { dst := some 182, op := Op.move (Operand.tmp 27), type := 23, pos := "law.go:74", after := #[{ on := 16, ground := Ground.guard }], guard := some (16, false) }) (v := undef) rfl (by kernel_rfl) (by kernel_rfl) (by kernel_rfl) (fun _ _ _ h => h) (Or.inr ⟨by rfl, rfl⟩) hHeld ?_
                    simp only [Act.put, List.setIfInBounds_toArray, List.set_cons_zero, List.set_cons_succ]
                    refine wpAnyH_ready (rs := [18]) (by kernel_rfl) (by simp) ?_
                    refine AllReadyH.cons (o := { dst := some 183, op := Op.call { callee := Callee.value (Operand.func 13), args := #[Operand.tmp 182], argTypes := #[23] }, type := 3, pos := "law.go:74", after := #[{ on := 17, ground := Ground.data }, { on := 16, ground := Ground.chain }, { on := 16, ground := Ground.guard }], guard := some (16, false) }) rfl (fun K hK => ?_) AllReadyH.nil
                    go_simp
                    refine hK.out _ _ ?_ (fun hHeld => ?_)
                    · exact hHeld
                    clear hK K
                    try simp only [Act.put, List.setIfInBounds_toArray, List.set_cons_zero, List.set_cons_succ]
                    refine wpAnyH_take (i := 19) (oi := { dst := some 184, op := Op.binOp BinOp.eql 3 (Operand.tmp 183) (Operand.const (Value.int IntKind.i64 0)) 3, type := 4, pos := "law.go:74", after := #[{ on := 18, ground := Ground.data }, { on := 16, ground := Ground.guard }], guard := some (16, false) }) (v := undef) rfl (by kernel_rfl) (by kernel_rfl) (by kernel_rfl) (fun _ _ _ h => h) (Or.inr ⟨by rfl, rfl⟩) hHeld ?_
                    simp only [Act.put, List.setIfInBounds_toArray, List.set_cons_zero, List.set_cons_succ]
                    refine wpAnyH_take (i := 20) (oi := { dst := some 185, op := Op.pick (Operand.tmp 181) (Operand.const (Value.bool true)) (Operand.tmp 184), type := 4, pos := "law.go:74", after := #[{ on := 16, ground := Ground.data }, { on := 19, ground := Ground.data }, { on := 13, ground := Ground.guard }], guard := some (13, true) }) (v := .bool true) rfl (by kernel_rfl) (by kernel_rfl) (by kernel_rfl) (fun _ _ _ h => h) (Or.inl ⟨by rfl, fun w hSw => ?_⟩) hHeld ?_
                    · go_simp
                    simp only [Act.put, List.setIfInBounds_toArray, List.set_cons_zero, List.set_cons_succ]
                    refine wpAnyH_take (i := 21) (oi := { dst := some 186, op := Op.pick (Operand.tmp 178) (Operand.tmp 185) (Operand.const (Value.bool false)), type := 4, pos := "law.go:74", after := #[{ on := 13, ground := Ground.data }, { on := 20, ground := Ground.data }], guard := none }) (v := .bool true) rfl (by kernel_rfl) (by kernel_rfl) (by kernel_rfl) (fun _ _ _ h => h) (Or.inl ⟨by rfl, fun w hSw => ?_⟩) hHeld ?_
                    · go_simp
                    simp only [Act.put, List.setIfInBounds_toArray, List.set_cons_zero, List.set_cons_succ]
                    refine wpAnyH_take (i := 22) (oi := { dst := some 187, op := Op.move (Operand.tmp 186), type := 4, pos := "law.go:74", after := #[{ on := 21, ground := Ground.data }, { on := 18, ground := Ground.chain }], guard := none }) (v := .bool true) rfl (by kernel_rfl) (by kernel_rfl) (by kernel_rfl) (fun _ _ _ h => h) (Or.inl ⟨by rfl, fun w hSw => ?_⟩) hHeld ?_
                    · go_simp
                    simp only [Act.put, List.setIfInBounds_toArray, List.set_cons_zero, List.set_cons_succ]
                    refine wpAnyH_ready (rs := [23]) (by kernel_rfl) (by simp) ?_
                    refine AllReadyH.cons (o := { dst := some 188, op := Op.call { callee := Callee.value (Operand.func 8), args := #[], argTypes := #[] }, type := 4, pos := "law.go:74", after := #[{ on := 22, ground := Ground.chain }, { on := 22, ground := Ground.guard }], guard := some (22, true) }) rfl (fun K hK => ?_) AllReadyH.nil
                    go_simp
                    go_at_call 8; refine Calls.mono (C8.out _ hHeld) ?_; rintro e w10 ⟨rfl, hW10⟩; clear hHeld; go_wp2_with fail
                    refine hK.out _ _ ?_ (fun hHeld => ?_)
                    · assumption
                    clear hK K
                    try simp only [Act.put, List.setIfInBounds_toArray, List.set_cons_zero, List.set_cons_succ]
                    refine wpAnyH_take (i := 24) (oi := { dst := some 189, op := Op.pick (Operand.tmp 187) (Operand.tmp 188) (Operand.const (Value.bool false)), type := 4, pos := "law.go:74", after := #[{ on := 22, ground := Ground.data }, { on := 23, ground := Ground.data }], guard := none }) (v := .bool true) rfl (by kernel_rfl) (by kernel_rfl) (by kernel_rfl) (fun _ _ _ h => h) (Or.inl ⟨by rfl, fun w hSw => ?_⟩) hHeld ?_
                    · go_simp
                    simp only [Act.put, List.setIfInBounds_toArray, List.set_cons_zero, List.set_cons_succ]
                    refine wpAnyH_take (i := 25) (oi := { dst := some 8, op := Op.assign (Operand.tmp 189), type := 4, pos := "law.go:74", after := #[{ on := 24, ground := Ground.data }, { on := 23, ground := Ground.chain }, { on := 0, ground := Ground.phase }, { on := 1, ground := Ground.phase }, { on := 2, ground := Ground.phase }, { on := 3, ground := Ground.phase }, { on := 4, ground := Ground.phase }, { on := 5, ground := Ground.phase }, { on := 6, ground := Ground.phase }, { on := 7, ground := Ground.phase }, { on := 8, ground := Ground.phase }, { on := 9, ground := Ground.phase }, { on := 10, ground := Ground.phase }, { on := 11, ground := Ground.phase }, { on := 12, ground := Ground.phase }, { on := 13, ground := Ground.phase }, { on := 14, ground := Ground.phase }, { on := 15, ground := Ground.phase }, { on := 16, ground := Ground.phase }, { on := 17, ground := Ground.phase }, { on := 18, ground := Ground.phase }, { on := 19, ground := Ground.phase }, { on := 20, ground := Ground.phase }, { on := 21, ground := Ground.phase }, { on := 22, ground := Ground.phase }, { on := 23, ground := Ground.phase }, { on := 24, ground := Ground.phase }], guard := none }) (v := .bool true) rfl (by kernel_rfl) (by kernel_rfl) (by kernel_rfl) (fun _ _ _ h => h) (Or.inl ⟨by rfl, fun w hSw => ?_⟩) hHeld ?_
                    · go_simp
                    simp only [Act.put, List.setIfInBounds_toArray, List.set_cons_zero, List.set_cons_succ]
                    refine wpAnyH_done (by kernel_rfl) ?_ _
                    have hfin : Hid (Below w.heap.size w w10) := hW10.1
                    go_wp2
                    go_ret
                    exact ⟨rfl, hfin.out⟩
                  · obtain rfl := hyf rfl
                    rw [Bool.not_true] at hq8
                    go_wp2_with fail
                    go_region_held3 (fun W => HeldX w aO ao X W) (first | assumption | exact HeldX.drew (by assumption)) (first | (go_at_call 14; refine Calls.mono (CS.out _ (by first | assumption | exact HeldX.drew (by assumption))) ?_; rintro e w9 ⟨rfl, hW9⟩) | (go_at_call 8; refine Calls.mono (C8.out _ (by first | assumption | exact HeldX.drew (by assumption))) ?_; rintro e w9 ⟨rfl, hW9⟩) | (go_at_call 13; refine Calls.mono (C13.out _ _ (by first | assumption | exact HeldX.drew (by assumption))) ?_; rintro e w9 ⟨rfl, hW9⟩))
                    have hfin : Hid (Below w.heap.size w w9) := hW9.1
                    go_wp2
                    go_ret
                    exact ⟨rfl, hfin.out⟩
theorem u8_of {a : Int} (h0 : 0 ≤ a) (h1 : a ≤ 255) : ∃ x : UInt8, a = (x.toNat : Int) := ⟨UInt8.ofNat a.toNat, by rw [Cm.toNat_ofNat (by omega)]; omega⟩
theorem cut_call (a0 : Option Addr) (len0 cap0 : Nat) (z0 : List ByteArray) (c a y : Int) (w : World) (h0 : IsTexts w a0 len0 cap0 z0) (hc : 0 ≤ c ∧ c ≤ 65535) (ha : 0 ≤ a ∧ a ≤ 65535) (hy : 0 ≤ y ∧ y ≤ 255) :
    Calls Try.prog 4 #[.slice a0 len0 cap0, .int .u16 c, .int .u16 a, .int .u8 y] w fun e w' => e = .returned (.bool true) ∧ Below w.heap.size w w' := by
  obtain ⟨L, rfl, hl, hm, hL, hw⟩ := h0.lies
  obtain ⟨c', rfl⟩ := Int.eq_ofNat_of_zero_le hc.1
  obtain ⟨a', rfl⟩ := Int.eq_ofNat_of_zero_le ha.1
  obtain ⟨y', rfl⟩ := u8_of hy.1 hy.2
  exact cut_walk a0 cap0 L c' a' y' w (by omega) (by omega) hl hm hw hL
end Go.Proofs.Ytpkeeoeghdmagaa.F
