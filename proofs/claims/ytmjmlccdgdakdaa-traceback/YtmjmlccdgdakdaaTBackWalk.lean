-- PROVED: the walk of 'TraceBack'.
import Derived.Test.YtmjmlccdgdakdaaTRecs
import Derived.Test.YtmjmlccdgdakdaaTSame
import Derived.Test.YtmjmlccdgdakdaaCBytes
import Derived.Laws.BitsAllLaws
namespace Go.Proofs.Ytmjmlccdgdakdaa.Tm
theorem decode_turned {l : List Rec} (h : good 0 l = true) (hf : fitsAll l) (J : Nat) (hJ : J ≤ (rows l).length) (z : UInt8) :
    ∃ W M, W ≤ l.length ∧ (decode ((rows l).take J)).1 = l.take W ∧ (decode ((rows l).set J z)).1 = l.take W ++ M := by
  obtain ⟨W, h1, h2, h3, h4⟩ := decode_cut h hf J hJ
  have e : (rows l).set J z = rows (l.take W) ++ ((rows l).set J z).drop (rows (l.take W)).length := by
    have : ((rows l).set J z).take (rows (l.take W)).length = rows (l.take W) := by
      rw [List.take_set_of_le h2, ← h4]
    conv => lhs; rw [← List.take_append_drop (rows (l.take W)).length ((rows l).set J z), this]
  obtain ⟨M, hM⟩ := decode_ahead (good_take 0 l W h) (fun x hx => hf x (List.mem_of_mem_take hx)) (((rows l).set J z).drop (rows (l.take W)).length)
  exact ⟨W, M, h1, by rw [h3], by rw [e]; exact hM⟩
end Go.Proofs.Ytmjmlccdgdakdaa.Tm
namespace Go.Proofs.Ytmjmlccdgdakdaa.T
open Go.RowKit
theorem mk_list (l : List UInt8) : (⟨l.toArray⟩ : ByteArray).data.toList = l := rfl
theorem enc_rows (L : List Tm.Rec) (hg : Tm.good 0 L = true) (hf : Tm.fitsAll L) (hl : L.length ≤ 20) (ad : Option Addr) (cap : Nat) (W : World) (hr : Recs W ad L) :
    Calls Try.prog 16 #[.slice ad L.length cap] W fun e w' => e = .returned (.tuple #[.string ⟨(Tm.rows L).toArray⟩, .int .i64 0]) ∧ Below W.heap.size W w' := by
  have := enc_any L ad cap W (by omega) hf (fun r hr => by have := Tm.ok_bd (Tm.good_mem 0 L hg r hr); unfold maxLen; omega) hr
  rw [enc_yes hg] at this
  exact this
theorem dec_of (S : ByteArray) (R : List Tm.Rec) (u e : Nat) (hS : S.size ≤ 1000000) (hd : Tm.decode S.data.toList = (R, u, e)) (W : World) :
    Calls Try.prog 18 #[.string S] W fun en w' => ∃ ad cap, en = .returned (.tuple #[.slice ad R.length cap, .int .i64 (u : Int), .int .i64 (e : Int)]) ∧ R.length ≤ cap ∧ Recs w' ad R ∧ Below W.heap.size W w' := by
  refine (dec_any S W hS).mono ?_
  rintro en w' ⟨v, rfl, ho, hb⟩
  rw [hd] at ho ⊢
  obtain ⟨ad, cap, rfl, hc, hR⟩ := Recs.own ho
  exact ⟨ad, cap, rfl, hc, hR, hb⟩
set_option maxRecDepth 100000 in
set_option maxHeartbeats 4000000 in
theorem tback_walk (Z : List Nat) (ad0 : Option Addr) (cap0 : Nat) (c a : Nat) (y : UInt8) (w : World) (hc : c ≤ 65535) (ha : a ≤ 65535) (hL : Z.length ≤ maxLen) (hz : ∀ z ∈ Z, z < 256) (hr : Ns w ad0 Z) :
    Calls Try.prog 4 #[.slice ad0 Z.length cap0, .int .u16 (c : Int), .int .u16 (a : Int), .int .u8 (y.toNat : Int)] w fun e w' => e = .returned (.bool true) ∧ Below w.heap.size w w' := by
  have H1 : Hid (_) := fun W (h : Ns W ad0 Z) => records_any Z ad0 cap0 W hL hz h
  have hgood := Hm.records_good Z hz
  have hfits := Hm.records_fits Z hz
  have hlen := Hm.records_len Z
  have HR0 : Hid (Ns w ad0 Z) := hr
  clear hr hz
  generalize Hm.records Z = L at *
  generalize Z.length = N0 at H1 hL ⊢
  have hrl := rows_len L hgood
  have hsz := mk_size (Tm.rows L)
  have HSD : Hid ((⟨(Tm.rows L).toArray⟩ : ByteArray).data.toList = Tm.rows L) := mk_list (Tm.rows L)
  have HENC : Hid (_) := fun ad cap W (h : Recs W ad L) => enc_rows L hgood hfits hlen ad cap W h
  have HDEC : Hid (_) := fun W => dec_of ⟨(Tm.rows L).toArray⟩ L (Tm.rows L).length 0 (by rw [hsz]; omega) (Tm.decode_rows hgood hfits) W
  have hSs : (⟨(Tm.rows L).toArray⟩ : ByteArray).size ≤ 82200 := by rw [hsz]; omega
  rw [← hsz] at HDEC
  obtain ⟨K, hK⟩ : ∃ K, c % ((Tm.rows L).length + 1) = K := ⟨_, rfl⟩
  have hKl : K ≤ (Tm.rows L).length := by rw [← hK]; have := Nat.mod_lt c (show 0 < (Tm.rows L).length + 1 by omega); omega
  obtain ⟨W, hW1, hW2, hW3, hW4⟩ := Tm.decode_cut hgood hfits K hKl
  have hgW := Tm.good_take 0 L W hgood
  have hfW : Tm.fitsAll (L.take W) := fun x hx => hfits x (List.mem_of_mem_take hx)
  have hlW : (L.take W).length = W := by rw [List.length_take]; omega
  have HENW : Hid (_) := fun ad cap V (h : Recs V ad (L.take W)) => enc_rows (L.take W) hgW hfW (by omega) ad cap V h
  have hexK := C.extract_first ⟨(Tm.rows L).toArray⟩ K
  rw [mk_list] at hexK
  have HDEK : Hid (_) := fun X => dec_of ((⟨(Tm.rows L).toArray⟩ : ByteArray).extract 0 K) (L.take W) (Tm.rows (L.take W)).length (if (Tm.rows (L.take W)).length = K then 0 else 3) (by rw [← V.size_list, hexK, List.length_take]; omega) (by rw [hexK]; exact hW3) X
  have HSAME : Hid (_) := fun (V : World) ao bo ca cb (h1 : Recs V ao L) (h2 : Recs V bo L) => same_any L ao bo ca cb V (by omega) h1 h2
  have HSAMW : Hid (_) := fun (V : World) ao bo ca cb (h1 : Recs V ao (L.take W)) (h2 : Recs V bo (L.take W)) => same_any (L.take W) ao bo ca cb V (by omega) h1 h2
  rw [hlW] at HENW HDEK HSAMW
  have hexU := C.extract_first ⟨(Tm.rows L).toArray⟩ (Tm.rows (L.take W)).length
  rw [mk_list, ← hW4] at hexU
  have hcmp : ((⟨(Tm.rows (L.take W)).toArray⟩ : ByteArray).toList == ((⟨(Tm.rows L).toArray⟩ : ByteArray).extract 0 (Tm.rows (L.take W)).length).toList) = true := C.cmp_yes (by rw [hexU])
  have HTU : Hid (_) := fun J hJ z => Tm.decode_turned hgood hfits J hJ z
  have HGD : Hid (Tm.good 0 L = true) := hgood
  have HFD : Hid (Tm.fitsAll L) := hfits
  clear hexU hexK hgW hfW hW3 hW4 hgood hfits
  obtain ⟨E, hE⟩ : ∃ E : Nat, (if (Tm.rows (L.take W)).length = K then 0 else 3) = E := ⟨_, rfl⟩
  rw [hE] at HDEK
  have hE2 : (Tm.rows (L.take W)).length = K ∧ E = 0 ∨ (Tm.rows (L.take W)).length < K ∧ E = 3 := by
    by_cases h : (Tm.rows (L.take W)).length = K
    · exact .inl ⟨h, by rw [← hE, if_pos h]⟩
    · exact .inr ⟨by omega, by rw [← hE, if_neg h]⟩
  clear hE
  generalize (Tm.rows (L.take W)).length = U at *
  generalize (⟨(Tm.rows (L.take W)).toArray⟩ : ByteArray) = SW at *
  rw [← hsz] at hK hKl
  have hKI : (c : Int) % ((⟨(Tm.rows L).toArray⟩ : ByteArray).size + 1) = (K : Int) := by rw [← hK]; rfl
  have HSZ : Hid (_) := hsz
  clear hrl hK hsz
  generalize (⟨(Tm.rows L).toArray⟩ : ByteArray) = S at *
  generalize hNL : L.length = NL at H1 hlen HENC HDEC HSAME hW1
  have HNL : Hid (L.length = NL) := hNL
  clear hNL
  have hWN : (W : Int) ≤ NL := by omega
  have hKS : (K : Int) ≤ S.size := by omega
  have hUS : (U : Int) ≤ S.size := by omega
  have hUK : (U : Int) ≤ K := by omega
  go_enter Try.func4, Try.ntmps4
  go_wp2_with fail
  refine Calls.mono (H1.out _ HR0.out) ?_
  rintro e w1 ⟨v1, rfl, ho1, hb1⟩
  obtain ⟨aL, cL, rfl, hcL, hRL⟩ := Recs.own (by rw [HNL.out]; exact ho1)
  rw [HNL.out] at hcL ⊢
  have HRL : Hid (Recs w1 aL L) := hRL
  clear ho1 hRL H1 HR0
  go_wp2_with fail
  refine Calls.mono (HENC.out _ _ _ HRL.out) ?_
  rintro e w2 ⟨rfl, hb2⟩
  have HRL2 : Hid (Recs w2 aL L) := Recs.below HRL.out hb2
  have hbA := C.below_chain hb1 hb2
  clear hb1 hb2 HRL HENC
  go_wp2_with fail
  refine Calls.mono (HDEC.out _) ?_
  rintro e w3 ⟨aM, cM, rfl, hcM, hRM, hb3⟩
  have HRM : Hid (Recs w3 aM L) := hRM
  have HRL3 : Hid (Recs w3 aL L) := Recs.below HRL2.out hb3
  have hbB := C.below_chain hbA hb3
  clear hRM hb3 hbA HRL2 HDEC
  go_wp2_with (first | (go_at_call 13; refine Calls.mono (V.err_any _ _) ?_; rintro e w8 ⟨rfl, rfl⟩))
  refine Calls.mono (HSAME.out _ _ _ _ _ HRM.out HRL3.out) ?_
  rintro e w4 ⟨rfl, hb4⟩
  have HRL4 : Hid (Recs w4 aL L) := Recs.below HRL3.out hb4
  have hbC := C.below_chain hbB hb4
  clear hb4 hbB HRL3 HRM HSAME
  go_wp2_with fail
  refine Calls.mono (HDEK.out _) ?_
  rintro e w5 ⟨aO, cO, rfl, hcO, hRO, hb5⟩
  have HRO : Hid (Recs w5 aO (L.take W)) := hRO
  have HRL5 : Hid (Recs w5 aL (L.take W)) := Recs.take (Recs.below HRL4.out hb5) W
  have hbD := C.below_chain hbC hb5
  clear hRO hb5 hbC HRL4 HDEK
  have hWc : (W : Int) ≤ cL := by omega
  have hWn : ¬ ((NL : Int) < W) := by omega
  go_wp2_with fail
  refine Calls.mono (HSAMW.out _ _ _ _ _ HRO.out HRL5.out) ?_
  rintro e w6 ⟨rfl, hb6⟩
  have HRO6 : Hid (Recs w6 aO (L.take W)) := Recs.below HRO.out hb6
  have hbE := C.below_chain hbD hb6
  have HSAM2 := HSAMW
  clear hb6 hbD HRO HRL5 HSAMW
  have hUn : ¬ ((K : Int) < U) := by omega
  have hcase : (U = K ∧ E = 0) ∨ (U < K ∧ E = 3 ∧ ((U : Int) == (K : Int)) = false) := by
    rcases hE2 with h | ⟨h, h'⟩
    · exact .inl h
    · exact .inr ⟨h, h', by rw [beq_eq_false_iff_ne]; omega⟩
  clear hE2
  rcases hcase with ⟨rfl, hEe⟩ | ⟨hUe, hEe, hUb⟩
  all_goals
    subst hEe
    go_wp2_with (first | (go_at_call 13; refine Calls.mono (V.err_any _ _) ?_; rintro e w8 ⟨rfl, rfl⟩))
    refine Calls.mono (HENW.out _ _ _ HRO6.out) ?_
    rintro e w7 ⟨rfl, hb7⟩
    have hbF := C.below_chain hbE hb7
    clear hb7 hbE HRO6 HENW
    by_cases hS0 : S.size = 0
    · have hS0' : ((S.size : Int) == 0) = true := by rw [hS0]; rfl
      go_wp2_with (first | (go_at_call 13; refine Calls.mono (V.err_any _ _) ?_; rintro e w8 ⟨rfl, rfl⟩) | (go_at_call 8; refine (awake_any _).mono ?_; rintro e w20 ⟨rfl, hb20⟩))
      go_ret
      exact ⟨rfl, C.below_chain hbF hb20⟩
    · have hS0' : ((S.size : Int) == 0) = false := by rw [beq_eq_false_iff_ne]; omega
      obtain ⟨J, hJ⟩ : ∃ J, a % S.size = J := ⟨_, rfl⟩
      have hJI : (a : Int) % (S.size : Int) = (J : Int) := by rw [← hJ]; rfl
      have hJS : J < S.size := by rw [← hJ]; exact Nat.mod_lt _ (by omega)
      have hJS' : (J : Int) < (S.size : Int) := by omega
      obtain ⟨x, hx⟩ : ∃ x, S.data.toList[J]? = some x := ⟨S.data.toList[J]'(by rw [V.size_list]; exact hJS), List.getElem?_eq_getElem _⟩
      obtain ⟨cap, w9, hcv, hM⟩ := C.Mine.ofText (Below.refl w7.heap.size w7) S
      obtain ⟨c1, c2⟩ := hM.2.2.2 _ x hx
      have hxo : bits .xor .u8 (x.toNat : Int) (y.toNat : Int) = ((x ^^^ y).toNat : Int) := by
        rw [UInt8.toNat_xor]; exact u8_xor_nat _ _ x.toNat_lt y.toNat_lt
      obtain ⟨z8, hz8⟩ : ∃ z, x ^^^ y = z := ⟨_, rfl⟩
      rw [hz8] at hxo
      have HM2 : Hid (C.Mine w7 (w9.setCell ⟨w7.heap.size, J, none⟩ (.int .u8 (z8.toNat : Int))) w7.heap.size (S.data.toList.set J z8)) := hM.set J (by rw [V.size_list]; exact hJS) z8
      have hslen : (S.data.toList.set J z8).length = S.size := by rw [List.length_set, V.size_list]
      have hMc := HM2.out.conv cap
      rw [hslen] at hMc
      obtain ⟨W2, M2, hw1, hw2, hw3⟩ := HTU.out J (Nat.le_of_lt (Nat.lt_of_lt_of_eq hJS HSZ.out)) z8
      rw [← HSD.out] at hw2 hw3
      rw [HNL.out] at hw1
      have hexJ := C.extract_first S J
      have hw2l : (L.take W2).length = W2 := by rw [List.length_take, HNL.out]; omega
      have HDQ : Hid (_) := fun X => dec_any ⟨(S.data.toList.set J z8).toArray⟩ X (by rw [mk_size, hslen]; omega)
      rw [mk_list] at HDQ
      have HDX : Hid (_) := fun X => dec_any (S.extract 0 J) X (by rw [← V.size_list, hexJ, List.length_take]; omega)
      rw [hexJ] at HDX
      have hq : (Tm.decode (S.data.toList.set J z8)).1.length = W2 + M2.length := by rw [hw3, List.length_append, hw2l]
      have hQt : (Tm.decode (S.data.toList.set J z8)).1.take W2 = L.take W2 := by
        rw [hw3]; exact List.take_left' hw2l
      have HQT : Hid (_) := hQt
      have HW2 : Hid (_) := hw2
      have HSX : Hid (_) := fun (X : World) ao bo ca cb (h1 : Recs X ao (L.take W2)) (h2 : Recs X bo (L.take W2)) => same_any (L.take W2) ao bo ca cb X (by omega) h1 h2
      rw [hw2l] at HSX
      have HLW : Hid (_) := hw2l
      clear hexJ hw3 hQt hw2 hJ hx hM hz8 hw2l hslen
      generalize Tm.decode (S.data.toList.set J z8) = DQ at *
      generalize Tm.decode (S.data.toList.take J) = DX at *
      generalize (⟨(S.data.toList.set J z8).toArray⟩ : ByteArray) = SQ at *
      go_wp2_with (first | (go_at_call 13; refine Calls.mono (V.err_any _ _) ?_; rintro e w8 ⟨rfl, rfl⟩))
      have HB10 : Hid (Below w.heap.size w (w9.setCell ⟨w8.heap.size, J, none⟩ (.int .u8 (z8.toNat : Int)))) := C.below_chain hbF HM2.out.below
      clear c1 c2 hxo hcv hMc HM2
      generalize w9.setCell ⟨w8.heap.size, J, none⟩ (.int .u8 (z8.toNat : Int)) = w10 at HB10 ⊢
      refine Calls.mono (HDQ.out _) ?_
      rintro e w11 ⟨vQ, rfl, hoQ, hb11⟩
      obtain ⟨aQ, cQ, rfl, hcQ, hRQ⟩ := Recs.own hoQ
      have HRQ : Hid (Recs w11 aQ (L.take W2)) := (show Recs w11 aQ (L.take W2) from by rw [← HQT.out]; exact hRQ.take W2)
      rw [hq] at hcQ ⊢
      have HB11 : Hid (_) := C.below_chain HB10.out hb11
      clear hoQ hRQ hb11 HB10 HDQ
      go_wp2_with fail
      refine Calls.mono (HDX.out _) ?_
      rintro e w12 ⟨vX, rfl, hoX, hb12⟩
      rw [HW2.out] at hoX
      obtain ⟨aX, cX, rfl, hcX, hRX⟩ := Recs.own hoX
      have HRX : Hid (Recs w12 aX (L.take W2)) := hRX
      have HRQ2 : Hid (Recs w12 aQ (L.take W2)) := Recs.below HRQ.out hb12
      rw [HLW.out] at hcX ⊢
      have HB12 : Hid (_) := C.below_chain HB11.out hb12
      clear hoX hRX hb12 HB11 HRQ HDX
      have hge : (W2 : Int) ≤ ((W2 + M2.length : Nat) : Int) := by omega
      have hcQ' : (W2 : Int) ≤ cQ := by omega
      go_wp2_with fail
      refine Calls.mono (HSX.out _ _ _ _ _ HRQ2.out HRX.out) ?_
      rintro e w13 ⟨rfl, hb13⟩
      go_wp2_with fail
      refine (awake_any _).mono ?_
      rintro e w14 ⟨rfl, hb14⟩
      go_wp2_with fail
      go_ret
      exact ⟨rfl, C.below_chain (C.below_chain HB12.out hb13) hb14⟩
end Go.Proofs.Ytmjmlccdgdakdaa.T
