-- PROVED: the walk of 'TraceForms'.
import Derived.Test.YtmjmlccdgdakdaaTRefEnc
import Derived.Test.YtmjmlccdgdakdaaTRecs
import Derived.Test.YtmjmlccdgdakdaaTSame
namespace Go.Proofs.Ytmjmlccdgdakdaa.Tm
theorem is_nok {r : Rec} (hf : fits r) (hl : r.s.length ≤ 4096) (ho : ok r = false) : is (put r) = false := by
  have hp := parts_put r [] hf hl
  rw [List.append_nil] at hp
  unfold is
  rw [hp, ho]; rfl
theorem decode_bad {l : List Rec} (h : good 0 l = true) (hf : fitsAll l) (b q : List UInt8) (hb : b.length ≤ 4096) (hi : is b = false) : decode (rows l ++ Fm.put b ++ q) = (l, (rows l).length, 4) := by
  have ha := Fm.all_puts (l.map put ++ [b]) q (by
    intro t ht
    rcases List.mem_append.1 ht with ht | ht
    · exact texts_le h t ht
    · rw [List.mem_singleton.1 ht]; exact hb)
  have e : Fm.puts (l.map put ++ [b]) = rows l ++ Fm.put b := by
    rw [Fm.puts_append]
    unfold rows
    simp [Fm.puts]
  rw [e] at ha
  have hd := dec_good 0 l ([b] ++ (Fm.all q).1) h hf
  have hn : next (lastStep 0 l) b = false := by unfold next; rw [hi]; rfl
  have hd2 : dec (lastStep 0 l) ([b] ++ (Fm.all q).1) = ([], false) := by
    rw [show [b] ++ (Fm.all q).1 = b :: (Fm.all q).1 from rfl]
    simp only [dec]
    rw [hn]; rfl
  rw [hd2] at hd
  unfold decode
  rw [ha]
  simp only [List.append_assoc]
  rw [hd]
  simp only [List.append_nil]
  rw [if_neg (by decide)]
  rw [List.take_left' (by simp)]
  rfl
end Go.Proofs.Ytmjmlccdgdakdaa.Tm
namespace Go.Proofs.Ytmjmlccdgdakdaa.T
open Go.RowKit
def t0 : ByteArray := ⟨(Vn.text []).toArray⟩
theorem put_eq (a k n : Int) : putB a ++ putB k ++ putB n ++ t0 = ⟨(Tm.put ⟨a, k, n, []⟩).toArray⟩ := by
  unfold putB t0; rw [F.cat_eq, F.cat_eq, F.cat_eq]; rfl
theorem t0_size : t0.size ≤ 10 := by unfold t0; rw [mk_size]; have := Vn.text_len []; have := (Vn.put_len (([] : List UInt8).length : Int)).2; simp at *; omega
theorem list_mk (l : List UInt8) : (⟨l.toArray⟩ : ByteArray).data.toList = l := rfl
theorem form_cases (q : Nat) (hq : q < 6) : ∃ B : ByteArray, B.size ≤ 2000 ∧ Tm.is B.data.toList = false ∧
    ((q = 0 ∧ B = ⟨#[]⟩) ∨ (q = 1 ∧ B = ⟨#[120]⟩) ∨ (q = 2 ∧ B = putB 900 ++ putB 7 ++ putB 0 ++ t0) ∨ (q = 3 ∧ B = putB 900 ++ putB 5 ++ putB (-1) ++ t0) ∨ (q = 4 ∧ B = putB (-1) ++ putB 1 ++ putB 0 ++ t0) ∨ (q = 5 ∧ B = putB 900 ++ putB 1 ++ putB 0 ++ t0 ++ ⟨#[120]⟩)) := by
  have sz : ∀ r : Tm.Rec, r.s = [] → (⟨(Tm.put r).toArray⟩ : ByteArray).size ≤ 40 := fun r h => by rw [mk_size]; have := (Tm.put_len r).2; rw [h] at this; simpa using this
  match q, hq with
  | 0, _ => exact ⟨⟨#[]⟩, by decide, by decide, by simp⟩
  | 1, _ => exact ⟨⟨#[120]⟩, by decide, by decide, by simp⟩
  | 2, _ => exact ⟨_, by rw [put_eq]; have := sz ⟨900, 7, 0, []⟩ rfl; omega, by rw [put_eq, list_mk]; exact Tm.is_nok (by unfold Tm.fits; simp) (by simp) (by decide), .inr (.inr (.inl ⟨rfl, rfl⟩))⟩
  | 3, _ => exact ⟨_, by rw [put_eq]; have := sz ⟨900, 5, -1, []⟩ rfl; omega, by rw [put_eq, list_mk]; exact Tm.is_nok (by unfold Tm.fits; simp) (by simp) (by decide), .inr (.inr (.inr (.inl ⟨rfl, rfl⟩)))⟩
  | 4, _ => exact ⟨_, by rw [put_eq]; have := sz ⟨-1, 1, 0, []⟩ rfl; omega, by rw [put_eq, list_mk]; exact Tm.is_nok (by unfold Tm.fits; simp) (by simp) (by decide), .inr (.inr (.inr (.inr (.inl ⟨rfl, rfl⟩))))⟩
  | 5, _ =>
    have hc : (⟨(Tm.put ⟨900, 1, 0, []⟩).toArray⟩ ++ ⟨#[120]⟩ : ByteArray) = ⟨(Tm.put ⟨900, 1, 0, []⟩ ++ [120]).toArray⟩ := F.cat_eq _ [120]
    exact ⟨_, by rw [put_eq, hc, mk_size, List.length_append]; have := (Tm.put_len ⟨900, 1, 0, []⟩).2; simp at this ⊢; omega, by rw [put_eq, hc, list_mk]; exact Tm.is_more [120] (by unfold Tm.fits; simp) (by decide) (by simp), .inr (.inr (.inr (.inr (.inr ⟨rfl, rfl⟩))))⟩
def r901 : Tm.Rec := ⟨901, 1, 0, []⟩
theorem r901_good : Tm.good 0 [r901] = true := by decide
theorem r901_fits : Tm.fitsAll [r901] := by
  intro r hr
  rw [List.mem_singleton.1 hr]
  unfold Tm.fits r901; simp
set_option maxRecDepth 100000 in
set_option maxHeartbeats 4000000 in
theorem tforms_walk (Z : List Nat) (ad0 : Option Addr) (cap0 : Nat) (x : Nat) (w : World) (hx : x < 256) (hL : Z.length ≤ maxLen) (hz : ∀ z ∈ Z, z < 256) (hr : Ns w ad0 Z) :
    Calls Try.prog 7 #[.slice ad0 Z.length cap0, .int .u8 (x : Int)] w fun e w' => e = .returned (.bool true) ∧ Below w.heap.size w w' := by
  have hfld := run_fieldT
  have H1 : Hid (_) := fun W (h : Ns W ad0 Z) => records_any Z ad0 cap0 W hL hz h
  have hgood := Hm.records_good Z hz
  have hfits := Hm.records_fits Z hz
  have hlen := Hm.records_len Z
  have HR0 : Hid (Ns w ad0 Z) := hr
  clear hr hz
  generalize Hm.records Z = L at *
  generalize Z.length = N0 at H1 hL ⊢
  obtain ⟨q, hq⟩ : ∃ q, x % 6 = q := ⟨_, rfl⟩
  have hq6 : q < 6 := by omega
  have hqI : (x : Int) % 6 = (q : Int) := by omega
  obtain ⟨B, hBs, hBi, hcase⟩ := form_cases q hq6
  have hrl := rows_len L hgood
  have hsz := mk_size (Tm.rows L)
  have hssL : ∀ r ∈ L, r.s.length ≤ maxLen := fun r hr => by have := Tm.ok_bd (Tm.good_mem 0 L hgood r hr); unfold maxLen; omega
  have HENC : Hid (_) := fun ad cap W (h : Recs W ad L) => renc_any L ad cap W (by omega) hfits hssL h
  rw [enc_yes hgood] at HENC
  have HEN1 : Hid (_) := fun W => renc_any [r901] (some ⟨W.heap.size, 0, none⟩) 1 (W.alloc (.cells #[.int .i64 901, .int .i64 1, .int .i64 0, .string ⟨#[]⟩] 27)) (by simp) r901_fits (fun r hr => by rw [List.mem_singleton.1 hr]; decide) (Recs.one W r901 27)
  rw [enc_yes r901_good] at HEN1
  have hr1 := rows_len [r901] r901_good
  have hsz1 := mk_size (Tm.rows [r901])
  have hBl : B.data.toList.length = B.size := V.size_list B
  have hpE : F.putE B.data.toList = (Fm.put B.data.toList, 0) := by unfold F.putE; rw [if_neg (by omega)]
  have HPF : Hid (_) := fun W => F.rput_any B W
  rw [hpE] at HPF
  have hpb := (Fm.put_bounds B.data.toList).2
  have hszB := mk_size (Fm.put B.data.toList)
  have hcat : (⟨(Tm.rows L).toArray⟩ ++ ⟨(Fm.put B.data.toList).toArray⟩ ++ ⟨(Tm.rows [r901]).toArray⟩ : ByteArray) = ⟨(Tm.rows L ++ Fm.put B.data.toList ++ Tm.rows [r901]).toArray⟩ := by rw [F.cat_eq, F.cat_eq]
  have HDEC : Hid (_) := fun W => dec_any (⟨(Tm.rows L).toArray⟩ ++ ⟨(Fm.put B.data.toList).toArray⟩ ++ ⟨(Tm.rows [r901]).toArray⟩) W (by rw [ByteArray.size_append, ByteArray.size_append, hsz, hszB, hsz1]; simp at hr1; omega)
  rw [show (⟨(Tm.rows L).toArray⟩ ++ ⟨(Fm.put B.data.toList).toArray⟩ ++ ⟨(Tm.rows [r901]).toArray⟩ : ByteArray).data.toList = Tm.rows L ++ Fm.put B.data.toList ++ Tm.rows [r901] from by rw [hcat], Tm.decode_bad hgood hfits B.data.toList (Tm.rows [r901]) (by omega) hBi, ← hsz] at HDEC
  have HSAME : Hid (_) := fun (V : World) ao bo ca cb (h1 : Recs V ao L) (h2 : Recs V bo L) => same_any L ao bo ca cb V (by omega) h1 h2
  have hz1 : (⟨(Tm.rows L).toArray⟩ : ByteArray).size ≤ 82200 := by rw [hsz]; omega
  have hz2 : (⟨(Fm.put B.data.toList).toArray⟩ : ByteArray).size ≤ 5000 := by rw [hszB]; omega
  have hz3 : (⟨(Tm.rows [r901]).toArray⟩ : ByteArray).size ≤ 5000 := by rw [hsz1]; simp at hr1; omega
  clear hrl hsz hssL hgood hfits hr1 hsz1 hBl hpE hpb hszB hcat hBs hBi hq hq6
  simp only [] at HENC HEN1 HPF HDEC
  generalize (⟨(Tm.rows L).toArray⟩ : ByteArray) = S at *
  generalize (⟨(Fm.put B.data.toList).toArray⟩ : ByteArray) = TB at *
  generalize (⟨(Tm.rows [r901]).toArray⟩ : ByteArray) = S1 at *
  generalize hNL : L.length = NL at H1 hlen HENC HDEC HSAME
  have HNL : Hid (L.length = NL) := hNL
  clear hNL
  have p1 := putB_size 900
  have p2 := putB_size 7
  have p3 := putB_size 0
  have p4 := putB_size 5
  have p5 := putB_size (-1)
  have p6 := putB_size 1
  have p7 := t0_size
  go_enter Try.func7, Try.ntmps7
  go_wp2_with fail
  refine Calls.mono (H1.out _ HR0.out) ?_
  rintro e w1 ⟨v1, rfl, ho1, hb1⟩
  obtain ⟨aL, cL, rfl, hcL, hRL⟩ := Recs.own (by rw [HNL.out]; exact ho1)
  rw [HNL.out] at hcL ⊢
  have HRL : Hid (Recs w1 aL L) := hRL
  clear ho1 hRL H1 HR0
  go_wp2_with fail
  refine Calls.mono (HENC.out _ _ _ HRL.out) ?_
  rintro e w2 ⟨rfl, hb2⟩
  have HRL2 : Hid (Recs w2 aL L) := Recs.below HRL.out hb2
  have HB2 : Hid (Below w.heap.size w w2) := C.below_chain hb1 hb2
  clear hb1 hb2 HRL HENC
  have CP : Hid (∀ (W : World) (m : Int), -9223372036854775808 ≤ m → m ≤ 9223372036854775807 → Hid (Below w2.heap.size w2 W) → Calls Try.prog 24 #[.int .i64 m] W fun e w' => e = .returned (.string (putB m)) ∧ Hid (Below w2.heap.size w2 w')) :=
    fun W m h1 h2 hW => (V.rput_any m W h1 h2).mono fun _ _ ⟨he, hb⟩ => ⟨he, C.below_chain hW.out hb⟩
  have CT : Hid (∀ (W : World), Hid (Below w2.heap.size w2 W) → Calls Try.prog 25 #[.string ⟨#[]⟩] W fun e w' => e = .returned (.string t0) ∧ Hid (Below w2.heap.size w2 w')) :=
    fun W hW => (V.rtext_any ⟨#[]⟩ W (by decide)).mono fun _ _ ⟨he, hb⟩ => ⟨he, C.below_chain hW.out hb⟩
  have hB : Hid (Below w2.heap.size w2 w2) := Below.refl _ _
  rcases hcase with ⟨rfl, rfl⟩ | ⟨rfl, rfl⟩ | ⟨rfl, rfl⟩ | ⟨rfl, rfl⟩ | ⟨rfl, rfl⟩ | ⟨rfl, rfl⟩
  all_goals
    go_wp2_with (first | (go_at_call 24; refine Calls.mono (CP.out _ _ (by decide) (by decide) (by assumption)) ?_; clear hB; rintro e w8 ⟨rfl, hB⟩) | (go_at_call 25; refine Calls.mono (CT.out _ (by assumption)) ?_; clear hB; rintro e w8 ⟨rfl, hB⟩))
    refine Calls.mono (HPF.out _) ?_
    rintro e w9 ⟨rfl, hb9⟩
    have HB9 : Hid (Below w2.heap.size w2 w9) := C.below_chain (hB.out.alloc hB.out.size _) hb9
    clear hb9 hB
    go_wp2_with fail
    refine Calls.mono (HEN1.out _) ?_
    rintro e w10 ⟨rfl, hb10⟩
    have HB10 : Hid (Below w2.heap.size w2 w10) := C.below_chain (HB9.out.alloc HB9.out.size _) hb10
    clear hb10 HB9
    go_wp2_with fail
    refine Calls.mono (HDEC.out _) ?_
    rintro e w11 ⟨v11, rfl, ho11, hb11⟩
    obtain ⟨aM, cM, rfl, hcM, hRM⟩ := Recs.own (by rw [HNL.out]; exact ho11)
    rw [HNL.out] at hcM ⊢
    have HRM : Hid (Recs w11 aM L) := hRM
    have HB11 : Hid (Below w2.heap.size w2 w11) := C.below_chain HB10.out hb11
    have HRL3 : Hid (Recs w11 aL L) := Recs.below HRL2.out HB11.out
    clear ho11 hb11 hRM HB10
    go_wp2_with fail
    refine Calls.mono (HSAME.out _ _ _ _ _ HRM.out HRL3.out) ?_
    rintro e w12 ⟨rfl, hb12⟩
    go_wp2_with (first | (go_at_call 13; refine Calls.mono (V.err_any _ _) ?_; rintro e w19 ⟨rfl, rfl⟩) | (go_at_call 8; refine (awake_any _).mono ?_; rintro e w20 ⟨rfl, hb20⟩))
    go_ret
    exact ⟨rfl, C.below_chain (C.below_chain (C.below_chain HB2.out HB11.out) hb12) hb20⟩
end Go.Proofs.Ytmjmlccdgdakdaa.T
