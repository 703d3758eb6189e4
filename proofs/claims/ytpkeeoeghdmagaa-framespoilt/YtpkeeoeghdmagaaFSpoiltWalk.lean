-- PROVED: the walk of FrameSpoilt.
import Derived.Test.YtpkeeoeghdmagaaFAwake
import Derived.Test.YtpkeeoeghdmagaaCBytes
import Derived.Test.YtpkeeoeghdmagaaFSpoiltMath
import Derived.BigRegion
namespace Go.Proofs.Ytpkeeoeghdmagaa.F
open Go.RowKit
attribute [local go_sem ↓] Go.wp_at_zero Go.wp_at_succ
theorem putE_small (s : ByteArray) (h : s.size ≤ 4096) : putE s.data.toList = (Fm.put s.data.toList, 0) := by
  unfold putE; rw [if_neg (by rw [V.size_list]; omega)]
/-- Put of what is short enough. -/
theorem put_small (s : ByteArray) (h : s.size ≤ 4096) (w : World) :
    Calls Try.prog 9 #[.string s] w fun e w' => e = .returned (.tuple #[.string ⟨(Fm.put s.data.toList).toArray⟩, .int .i64 0]) ∧ Below w.heap.size w w' := by
  have := put_any s w
  rw [putE_small s h] at this
  exact this
set_option maxRecDepth 100000 in
set_option maxHeartbeats 2000000 in
theorem spoilt_walk (s m : ByteArray) (t Y : Nat) (ht : t < 65536) (hY : Y < 4294967296) (hs : s.size ≤ maxLen) (hm : m.size ≤ maxLen) (w : World) :
    Calls Try.prog 7 #[.string s, .string m, .int .u16 (t : Int), .int .u32 (Y : Int)] w fun e w' => e = .returned (.bool true) ∧ Below w.heap.size w w' := by
  unfold maxLen at hs hm
  by_cases k1 : 100 < s.size
  · go_enter Try.func7, Try.ntmps7
    go_wp2_with fail
    refine (awake_any _).mono ?_
    rintro e w1 ⟨rfl, hb⟩
    go_wp2
    go_ret
    exact ⟨rfl, hb⟩
  by_cases k2 : 100 < m.size
  · go_enter Try.func7, Try.ntmps7
    go_wp2_with fail
    refine (awake_any _).mono ?_
    rintro e w1 ⟨rfl, hb⟩
    go_wp2
    go_ret
    exact ⟨rfl, hb⟩
  by_cases k3 : Y = 0
  · subst k3
    go_enter Try.func7, Try.ntmps7
    go_wp2_with fail
    refine (awake_any _).mono ?_
    rintro e w1 ⟨rfl, hb⟩
    go_wp2
    go_ret
    exact ⟨rfl, hb⟩
  have k3' : ((Y : Int) == 0) = false := by rw [beq_eq_false_iff_ne]; omega
  have HP : Hid (_) := fun W => put_small s (by omega) W
  have HQ : Hid (_) := fun W => put_small m (by omega) W
  obtain ⟨P, hP⟩ : ∃ P : ByteArray, ByteArray.mk (Fm.put s.data.toList).toArray = P := ⟨_, rfl⟩
  obtain ⟨Q, hQ⟩ : ∃ Q : ByteArray, ByteArray.mk (Fm.put m.data.toList).toArray = Q := ⟨_, rfl⟩
  have eP : P.data.toList = Fm.put s.data.toList := by rw [← hP]
  have lP : P.size = (Vn.put (s.size : Int)).length + s.size + 4 := by
    rw [← hP, mk_size, Fm.put_length, V.size_list]
  have lQ : Q.size ≤ 120 := by
    have := (Fm.put_bounds m.data.toList).2
    rw [V.size_list] at this
    rw [← hQ, mk_size]; omega
  have hpl := Vn.put_len (s.size : Int)
  rw [hP] at HP
  rw [hQ] at HQ
  clear hP hQ
  by_cases h1 : (Vn.put (s.size : Int)).length = 1
  · have lP1 : P.size = s.size + 5 := by omega
    have lP' : (P.size : Int) = (s.size : Int) + 5 := by omega
    clear lP hpl
    go_enter Try.func7, Try.ntmps7
    go_wp2_with fail
    refine Calls.mono (HP.out _) ?_
    rintro e w1 ⟨rfl, hb1⟩
    go_wp2_with fail
    refine Calls.mono (HQ.out _) ?_
    rintro e w2 ⟨rfl, hb2⟩
    have hW2 : Hid (Below w.heap.size w w2) := C.below_chain hb1 hb2
    clear hb1 hb2 HP HQ
    obtain ⟨cap, w4, hcv, hM⟩ := C.Mine.ofText hW2.out P
    generalize w2.heap.size = B at hcv hM
    obtain ⟨k, hk⟩ : ∃ k, 8 + t % (8 * (s.size + 5) - 8 - 31) = k := ⟨_, rfl⟩
    have hk8 : 8 ≤ k := by omega
    have hkm : k ≤ 8 * (s.size + 5) - 32 := by
      have := Nat.mod_lt t (show 0 < 8 * (s.size + 5) - 8 - 31 by omega)
      omega
    have hkI : (8 : Int) + (t : Int) % (8 * ((s.size : Int) + 5) - 8 - 31) = (k : Int) := by
      rw [← hk]
      have : (8 * ((s.size : Int) + 5) - 8 - 31) = ((8 * (s.size + 5) - 8 - 31 : Nat) : Int) := by omega
      rw [this]; omega
    clear hk
    go_wp2_with (go_at_call 13; refine Calls.mono (V.err_any _ _) ?_; rintro e w3 ⟨rfl, rfl⟩)
    have HM0 : Hid (_) := hM
    clear hM hcv hkI
    go_loopw [15] (fun c wr => ∃ (i : Nat) (l : List UInt8), i ≤ 32 ∧ c = .int .i64 (i : Int) ∧ Hid (C.Mine w wr B l) ∧ l.length = s.size + 5 ∧ Hid (Cm.le l = Cm.le (Fm.put s.data.toList) ^^^ 2 ^ k * (Y % 2 ^ i))) (fun c _ => (32 - intOf c).toNat)
    case atStart => exact ⟨0, P.data.toList, by omega, rfl, HM0, by rw [V.size_list, lP1], by rw [eP, Nat.pow_zero, Nat.mod_one, Nat.mul_zero, Nat.xor_zero]; exact rfl⟩
    case round =>
      clear HM0
      obtain ⟨i, l, hi, rfl, HM, hll, HL⟩ := hrel
      by_cases hlt : i < 32
      · have hlt' : (i : Int) < 32 := by omega
        have hsum : (k : Int) + (i : Int) ≤ 3000 := by omega
        obtain ⟨b, hb⟩ : ∃ b, l[(k + i) / 8]? = some b := ⟨l[(k + i) / 8]'(by omega), List.getElem?_eq_getElem _⟩
        obtain ⟨c1, c2⟩ := HM.out.2.2.2 _ b hb
        obtain ⟨j, hj⟩ : ∃ j, (k + i) / 8 = j := ⟨_, rfl⟩
        obtain ⟨r, hr⟩ : ∃ r, (k + i) % 8 = r := ⟨_, rfl⟩
        rw [hj] at c1 c2
        have hw : IntKind.i64.wrap ((k : Int) + (i : Int)) = ((k + i : Nat) : Int) := by rw [IntKind.wrap_i64]; omega
        have hj1 : Int.tdiv ((k + i : Nat) : Int) 8 = (j : Int) := by rw [Int.tdiv_eq_ediv_of_nonneg (by omega)]; omega
        have hr1 : Int.tmod ((k + i : Nat) : Int) 8 = (r : Int) := by rw [Int.tmod_eq_emod_of_nonneg (by omega)]; omega
        have hj2 : (j : Int) < (s.size : Int) + 5 := by omega
        have hj3 : IntKind.i64.wrap (j : Int) = (j : Int) := by rw [IntKind.wrap_i64]; omega
        have hr2 : (r : Int) < 8 := by omega
        have hp8 : 2 ^ r < 256 := Nat.pow_lt_pow_right (m := r) (n := 8) (a := 2) (by decide) (by omega)
        have hv : Y / 2 ^ i % 2 * 2 ^ r < 256 := by
          rcases Nat.mod_two_eq_zero_or_one (Y / 2 ^ i) with h | h <;> rw [h] <;> omega
        obtain ⟨x, hx⟩ : ∃ x : UInt8, x.toNat = Y / 2 ^ i % 2 * 2 ^ r := ⟨UInt8.ofNat _, Cm.toNat_ofNat hv⟩
        have hq1 : bits .and .u32 ((Y : Int) / 2 ^ i) 1 = ((Y / 2 ^ i % 2 : Nat) : Int) := by
          have hy : Y / 2 ^ i < 4294967296 := Nat.lt_of_le_of_lt (Nat.div_le_self _ _) hY
          have := u32_and_nat (Y / 2 ^ i) 1 hy (by decide)
          rw [nat_mask1] at this
          rw [← this]
          congr 1
        have hxo : bits .xor .u8 (b.toNat : Int) (bits .and .u32 ((Y : Int) / 2 ^ i) 1 % 256 * 2 ^ r % 256) = ((b ^^^ x).toNat : Int) := by
          rw [hq1, show ((Y / 2 ^ i % 2 : Nat) : Int) % 256 = ((Y / 2 ^ i % 2 : Nat) : Int) by omega]
          have e : ((Y / 2 ^ i % 2 : Nat) : Int) * 2 ^ r % 256 = (x.toNat : Int) := by
            rw [hx]
            have : ((Y / 2 ^ i % 2 * 2 ^ r : Nat) : Int) = ((Y / 2 ^ i % 2 : Nat) : Int) * 2 ^ r := by simp
            rw [← this]; omega
          rw [e, UInt8.toNat_xor]
          exact u8_xor_nat _ _ b.toNat_lt x.toNat_lt
        have HL2 : Hid (Cm.le (l.set j (b ^^^ x)) = Cm.le (Fm.put s.data.toList) ^^^ 2 ^ k * (Y % 2 ^ (i + 1))) := (show _ = _ from by
          have := Cm.le_turn l (Fm.put s.data.toList) k i Y b x hb (by rw [hx, hr]) HL.out
          rw [hj] at this
          exact this)
        have HS : Hid (_) := fun W (h : C.Mine w W B l) => h.set j (by omega) (b ^^^ x)
        have hll2 : (l.set j (b ^^^ x)).length = s.size + 5 := by rw [List.length_set, hll]
        generalize l.set j (b ^^^ x) = l2 at HL2 HS hll2
        generalize b ^^^ x = v at hxo HS
        clear hx hv hp8 hb hj hr HL hq1 k3 k3' h1 eP
        generalize k + i = kk at hw hj1 hr1
        go_wp2
        go_region
        go_wp2
        exact ⟨⟨i + 1, l2, by omega, by simp, (HS.out _ HM.out).drew, hll2, HL2⟩, by simp [intOf]; omega⟩
      · have hlt' : ¬ ((i : Int) < 32) := by omega
        have hsl := V.size_list s
        have HG : Fm.all (l ++ Q.data.toList) = ([], 0, 5) :=
          Fm.spoilt s.data.toList l Q.data.toList k Y (by omega) (by rw [hsl]; exact h1) (by omega) hk8 (by omega) hY k3 (by
            have := HL.out
            rw [show i = 32 by omega, Nat.mod_eq_of_lt (show Y < 2 ^ 32 from hY)] at this
            exact this)
        have hcv := HM.out.conv cap
        rw [hll] at hcv
        have hLs : (ByteArray.mk l.toArray).size = s.size + 5 := by rw [mk_size, hll]
        have hcat : (ByteArray.mk l.toArray ++ Q).data.toList = l ++ Q.data.toList := by simp [ByteArray.data_append]
        have H8 : Hid (_) := fun W => all_any (ByteArray.mk l.toArray ++ Q) W (by rw [ByteArray.size_append, hLs]; omega)
        rw [hcat, HG] at H8
        clear HG HL hll hcat hsl
        generalize ByteArray.mk l.toArray = L at hcv H8 hLs
        have hLs' : (L.size : Int) = (s.size : Int) + 5 := by omega
        have hbM := HM.out.below
        clear HM
        go_wp2_with fail
        refine Calls.mono (H8.out _) ?_
        rintro e w5 ⟨v, rfl, ho5, hb5⟩
        obtain ⟨ao, cap5, rfl⟩ := own_len ho5
        clear ho5
        go_wp2_with (first | (go_at_call 13; refine Calls.mono (V.err_any _ _) ?_; rintro e w3 ⟨rfl, rfl⟩))
        refine (awake_any _).mono ?_
        rintro e w8 ⟨rfl, hb8⟩
        go_wp2
        go_ret
        exact ⟨rfl, C.below_chain (C.below_chain hbM hb5) hb8⟩
  · have h64 : (64 : Int) ≤ s.size := by
      by_cases h : s.size < 64
      · exact absurd (Fm.small_one _ h) h1
      · omega
    have lP' : ¬ ((P.size : Int) = (s.size : Int) + 5) := by omega
    clear hpl h1
    go_enter Try.func7, Try.ntmps7
    go_wp2_with fail
    refine Calls.mono (HP.out _) ?_
    rintro e w1 ⟨rfl, hb1⟩
    go_wp2_with fail
    refine Calls.mono (HQ.out _) ?_
    rintro e w2 ⟨rfl, hb2⟩
    have hW2 : Hid (Below w.heap.size w w2) := C.below_chain hb1 hb2
    clear hb1 hb2 HP HQ
    go_wp2_with (go_at_call 13; refine Calls.mono (V.err_any _ _) ?_; rintro e w3 ⟨rfl, rfl⟩)
    refine (awake_any _).mono ?_
    rintro e w8 ⟨rfl, hb8⟩
    go_wp2
    go_ret
    exact ⟨rfl, C.below_chain hW2.out hb8⟩
theorem spoilt_walk' (s m : ByteArray) (a b : Int) (hs : s.size ≤ maxLen) (hm : m.size ≤ maxLen) (ha : 0 ≤ a ∧ a ≤ 65535) (hb : 0 ≤ b ∧ b ≤ 4294967295) (w : World) :
    Calls Try.prog 7 #[.string s, .string m, .int .u16 a, .int .u32 b] w fun e w' => e = .returned (.bool true) ∧ Below w.heap.size w w' := by
  obtain ⟨x, rfl⟩ := Int.eq_ofNat_of_zero_le ha.1
  obtain ⟨y, rfl⟩ := Int.eq_ofNat_of_zero_le hb.1
  exact spoilt_walk s m x y (by omega) (by omega) hs hm w
end Go.Proofs.Ytpkeeoeghdmagaa.F
