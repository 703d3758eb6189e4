/- The walk of CrcBursts. -/
import Derived.Test.YtljbldcamihmiaaCBurstMath
import Derived.BigRegion
namespace Go.Proofs.Ytljbldcamihmiaa
open Go.RowKit
attribute [local go_sem ↓] Go.wp_at_zero Go.wp_at_succ
theorem conv_bytes (w : World) (P : ByteArray) : ∃ cap w1, (convert 9 35 (.string P)).run Try.prog w = .ok (.slice (some ⟨w.heap.size, 0, none⟩) P.size cap) w1 ∧
    (∀ j (h : j < P.size), w1.cell? ⟨w.heap.size, j, none⟩ = some (.int .u8 (P[j].toNat : Int))) ∧ (∀ j, j < P.size → w1.frozen? ⟨w.heap.size, j, none⟩ = false) ∧ Below w.heap.size w w1 ∧ w1.heap.size = w.heap.size + 1 := by
  refine ⟨_, _, run_bytes_of_string (P := Try.prog) w 9 35 5 P Try.underlying9 Try.underlying35 Try.underlying5, ?_, ?_, ?_, ?_⟩
  · intro j h
    have := World.cell?_alloc_mark w.drew (bytesRow P (grownCap w P.size 0 5)) 5 ((bytesRow P (grownCap w P.size 0 5)).size, (bytesRow P (grownCap w P.size 0 5)).size + 1) j
    rw [bytesRow_at P _ j h] at this
    exact this
  · intro j h
    have hs : P.size ≤ (bytesRow P (grownCap w P.size 0 5)).size := by
      have : (bytesRow P (grownCap w P.size 0 5)).size = P.data.size + (grownCap w P.size 0 5 - P.size) := by unfold bytesRow; simp
      rw [this]; exact Nat.le_add_right _ _
    have := World.frozen?_alloc_mark w.drew (bytesRow P (grownCap w P.size 0 5)) 5 (bytesRow P (grownCap w P.size 0 5)).size ((bytesRow P (grownCap w P.size 0 5)).size + 1) j
    rw [show w.heap.size = w.drew.heap.size from rfl, this]
    simp; omega
  · exact ((Below.refl _ w).drew).alloc (Nat.le_refl _) _
  · simp
theorem byte_at (s : ByteArray) (i : Nat) (h : i < s.size) : s.data.toList[i]? = some s[i] := by
  simp only [ByteArray.getElem_eq_getElem_data]
  rw [Array.getElem?_toList, Array.getElem?_eq_getElem]
theorem Mine.ofText {w W : World} (h : Below w.heap.size w W) (P : ByteArray) : ∃ cap w1, (convert 9 35 (.string P)).run Try.prog W = .ok (.slice (some ⟨W.heap.size, 0, none⟩) P.size cap) w1 ∧ Mine w w1 W.heap.size P.data.toList := by
  obtain ⟨cap, w1, hcv, hc, hf, hb, hz⟩ := conv_bytes W P
  refine ⟨cap, w1, hcv, below_chain h hb, h.size, by omega, fun j b hj => ?_⟩
  have hjl : j < P.size := by
    have := (List.getElem?_eq_some_iff.mp hj).1
    rw [size_list] at this
    exact this
  rw [byte_at P j hjl] at hj
  obtain rfl := Option.some.inj hj
  exact ⟨hc j hjl, hf j hjl⟩
set_option maxRecDepth 100000 in
set_option maxHeartbeats 1000000 in
theorem burst_walk (s : ByteArray) (t Y : Nat) (ht : t < 65536) (hY : Y < 4294967296) (hs : s.size ≤ maxLen) (w : World) :
    Calls Try.prog 4 #[.string s, .int .u16 (t : Int), .int .u32 (Y : Int)] w fun e w' => e = .returned (.bool true) ∧ Below w.heap.size w w' := by
  unfold maxLen at hs
  by_cases k1 : 300 < s.size
  · go_enter Try.func4, Try.ntmps4
    go_wp2_with fail
    refine (awake_any _).mono ?_
    rintro e w1 ⟨rfl, hb⟩
    go_wp2
    go_ret
    exact ⟨rfl, hb⟩
  have H12 : Hid (_) := put_any s w (by omega)
  obtain ⟨P, hP⟩ : ∃ P : ByteArray, ByteArray.mk (Cm.put s.data.toList).toArray = P := ⟨_, rfl⟩
  have lP : P.size = s.size + 4 := by
    have h1 : P.size = (Cm.put s.data.toList).length := by rw [← hP]; exact List.size_toArray ..
    have h2 := Cm.put_length s.data.toList
    have h3 := size_list s
    omega
  have eP : P.data.toList = Cm.put s.data.toList := by rw [← hP]
  rw [hP] at H12
  have G8 : ∀ W, Calls Try.prog 8 #[.string P] W fun e w' => e = .returned (.tuple #[.string s, .int .i64 0]) ∧ Below W.heap.size W w' := by
    intro W
    have := get_any P W (by omega)
    rw [eP, Cm.get_put] at this
    exact this
  have H8 : Hid (_) := G8
  clear G8 hP
  have lP' : (P.size : Int) = (s.size : Int) + 4 := by omega
  have hss : (s.toList == s.toList) = true := beq_self_eq_true _
  go_enter Try.func4, Try.ntmps4
  go_wp2_with fail
  refine Calls.mono H12.out ?_
  rintro e w1 ⟨rfl, hb1⟩
  go_wp2_with fail
  refine Calls.mono (H8.out _) ?_
  rintro e w2 ⟨rfl, hb2⟩
  have hW2 : Hid (Below w.heap.size w w2) := below_chain hb1 hb2
  clear hb1 hb2 H8 H12
  obtain ⟨cap, w4, hcv, hM⟩ := Mine.ofText hW2.out P
  generalize w2.heap.size = B at hcv hM
  obtain ⟨m, hm⟩ : ∃ m, P.size = m := ⟨_, rfl⟩
  obtain ⟨k, hk⟩ : ∃ k, t % (8 * m - 31) = k := ⟨_, rfl⟩
  have hkb : k ≤ 8 * m - 32 := by
    have := Nat.mod_lt t (show 0 < 8 * m - 31 by omega)
    omega
  have hkI : (t : Int) % (8 * ((s.size : Int) + 4) - 31) = (k : Int) := by
    rw [← hk, ← hm, lP]
    have : (8 * ((s.size : Int) + 4) - 31) = ((8 * (s.size + 4) - 31 : Nat) : Int) := by omega
    rw [this]; rfl
  have hkm : k ≤ 8 * (s.size + 4) - 32 := by omega
  clear hk hkb
  go_wp2_with (go_at_call 14; refine Calls.mono (err_any _ _) ?_; rintro e w3 ⟨rfl, rfl⟩)
  have HM0 : Hid (_) := hM
  rw [hkI]
  clear hM hcv hkI hss
  go_loopw [12] (fun c wr => ∃ (i : Nat) (l : List UInt8), i ≤ 32 ∧ c = .int .i64 (i : Int) ∧ Hid (Mine w wr B l) ∧ l.length = s.size + 4 ∧ Hid (Cm.le l = Cm.le (Cm.put s.data.toList) ^^^ 2 ^ k * (Y % 2 ^ i))) (fun c _ => (32 - intOf c).toNat)
  case atStart => exact ⟨0, P.data.toList, by omega, rfl, HM0, by rw [size_list, lP], by rw [eP, Nat.pow_zero, Nat.mod_one, Nat.mul_zero, Nat.xor_zero]; exact rfl⟩
  case round =>
    clear HM0
    obtain ⟨i, l, hi, rfl, HM, hll, HL⟩ := hrel
    by_cases hlt : i < 32
    · have hlt' : (i : Int) < 32 := by omega
      have hsum : (k : Int) + (i : Int) ≤ 3000 := by omega
      obtain ⟨b, hb⟩ : ∃ b, l[(k + i) / 8]? = some b := ⟨l[(k + i) / 8]'(by omega), List.getElem?_eq_getElem _⟩
      obtain ⟨c1, c2⟩ := HM.out.2.2.2 _ b hb
      obtain ⟨j, hj⟩ : ∃ j, (k + i) / 8 = j := ⟨_, rfl⟩
      obtain ⟨r, hr⟩ : ∃ r, (k + i) % 8 = r := ⟨_, rfl⟩
      rw [hj] at c1 c2
      have hw : IntKind.i64.wrap ((k : Int) + (i : Int)) = ((k + i : Nat) : Int) := by rw [IntKind.wrap_i64]; omega
      have hj1 : Int.tdiv ((k + i : Nat) : Int) 8 = (j : Int) := by rw [Int.tdiv_eq_ediv_of_nonneg (by omega)]; omega
      have hr1 : Int.tmod ((k + i : Nat) : Int) 8 = (r : Int) := by rw [Int.tmod_eq_emod_of_nonneg (by omega)]; omega
      have hj2 : (j : Int) < (s.size : Int) + 4 := by omega
      have hj3 : IntKind.i64.wrap (j : Int) = (j : Int) := by rw [IntKind.wrap_i64]; omega
      have hr2 : (r : Int) < 8 := by omega
      have hp8 : 2 ^ r < 256 := Nat.pow_lt_pow_right (m := r) (n := 8) (a := 2) (by decide) (by omega)
      have hv : Y / 2 ^ i % 2 * 2 ^ r < 256 := by
        rcases Nat.mod_two_eq_zero_or_one (Y / 2 ^ i) with h | h <;> rw [h] <;> omega
      obtain ⟨x, hx⟩ : ∃ x : UInt8, x.toNat = Y / 2 ^ i % 2 * 2 ^ r := ⟨UInt8.ofNat _, Cm.toNat_ofNat hv⟩
      have hq1 : bits .and .u32 ((Y : Int) / 2 ^ i) 1 = ((Y / 2 ^ i % 2 : Nat) : Int) := by
        have hy : Y / 2 ^ i < 4294967296 := Nat.lt_of_le_of_lt (Nat.div_le_self _ _) hY
        have := u32_and_nat (Y / 2 ^ i) 1 hy (by decide)
        rw [nat_mask1] at this
        rw [← this]
        congr 1
      have hxo : bits .xor .u8 (b.toNat : Int) (bits .and .u32 ((Y : Int) / 2 ^ i) 1 % 256 * 2 ^ r % 256) = ((b ^^^ x).toNat : Int) := by
        rw [hq1, show ((Y / 2 ^ i % 2 : Nat) : Int) % 256 = ((Y / 2 ^ i % 2 : Nat) : Int) by omega]
        have e : ((Y / 2 ^ i % 2 : Nat) : Int) * 2 ^ r % 256 = (x.toNat : Int) := by
          rw [hx]
          have : ((Y / 2 ^ i % 2 * 2 ^ r : Nat) : Int) = ((Y / 2 ^ i % 2 : Nat) : Int) * 2 ^ r := by simp
          rw [← this]; omega
        rw [e, UInt8.toNat_xor]
        exact u8_xor_nat _ _ b.toNat_lt x.toNat_lt
      have HL2 : Hid (Cm.le (l.set j (b ^^^ x)) = Cm.le (Cm.put s.data.toList) ^^^ 2 ^ k * (Y % 2 ^ (i + 1))) := (show _ = _ from by
        have := Cm.le_turn l (Cm.put s.data.toList) k i Y b x hb (by rw [hx, hr]) HL.out
        rw [hj] at this
        exact this)
      have HS : Hid (_) := fun W (h : Mine w W B l) => h.set j (by omega) (b ^^^ x)
      have hll2 : (l.set j (b ^^^ x)).length = s.size + 4 := by rw [List.length_set, hll]
      generalize l.set j (b ^^^ x) = l2 at HL2 HS hll2
      generalize b ^^^ x = v at hxo HS
      clear hx hv hp8 hb hj hr HL hq1
      generalize k + i = kk at hw hj1 hr1
      go_wp2
      go_region
      go_wp2
      exact ⟨⟨i + 1, l2, by omega, by simp, (HS.out _ HM.out).drew, hll2, HL2⟩, by simp [intOf]; omega⟩
    · have hlt' : ¬ ((i : Int) < 32) := by omega
      have HG : Cm.get l = if Y = 0 then (s.data.toList, 0) else ([], 5) :=
        Cm.get_burst s.data.toList l k Y (by rw [hll, Cm.put_length, size_list]) (by rw [Cm.put_length, size_list]; omega) hY (by
          have := HL.out
          rw [show i = 32 by omega, Nat.mod_eq_of_lt (show Y < 2 ^ 32 from hY)] at this
          exact this)
      have hcv := HM.out.conv cap
      rw [hll] at hcv
      have H8 : Hid (∀ W, Mine w W B l → Calls Try.prog 8 #[.string ⟨l.toArray⟩] W fun e w' => e = .returned (.tuple #[.string ⟨(Cm.get l).1.toArray⟩, .int .i64 ((Cm.get l).2 : Int)]) ∧ Below w.heap.size w w') := fun W hW =>
        (get_any ⟨l.toArray⟩ W (by have : (ByteArray.mk l.toArray).size = l.length := List.size_toArray ..
                                   omega)).mono fun _ _ ⟨he, hb⟩ => ⟨he, below_chain hW.below hb⟩
      generalize ByteArray.mk l.toArray = L at hcv H8
      have H3 : Hid (∀ W, Calls Try.prog 8 #[.string (P.extract 0 3)] W fun e w' => e = .returned (.tuple #[.string ⟨#[]⟩, .int .i64 3]) ∧ Below W.heap.size W w') := (show ∀ W, Calls Try.prog 8 #[.string (P.extract 0 3)] W fun e w' => e = .returned (.tuple #[.string ⟨#[]⟩, .int .i64 3]) ∧ Below W.heap.size W w' from by
        intro W
        have := get_any (P.extract 0 3) W (by simp [ByteArray.size_extract]; omega)
        rw [show Cm.get (P.extract 0 3).data.toList = ([], 3) by
          unfold Cm.get; rw [if_pos]; rw [size_list]; simp [ByteArray.size_extract]; omega] at this
        exact this)
      rw [HG] at H8
      clear HG HL hll
      by_cases hY0 : Y = 0
      · rw [if_pos hY0] at H8
        subst hY0
        go_wp2_with fail
        refine Calls.mono (H8.out _ HM.out) ?_
        rintro e w5 ⟨rfl, hb5⟩
        go_wp2_with fail
        refine Calls.mono (H3.out _) ?_
        rintro e w6 ⟨rfl, hb6⟩
        go_wp2_with (first | (go_at_call 14; refine Calls.mono (err_any _ _) ?_; rintro e w3 ⟨rfl, rfl⟩))
        refine (awake_any _).mono ?_
        rintro e w8 ⟨rfl, hb8⟩
        go_wp2
        go_ret
        exact ⟨rfl, below_chain (below_chain hb5 hb6) hb8⟩
      · rw [if_neg hY0] at H8
        have hne : ((Y : Int) == 0) = false := by rw [beq_eq_false_iff_ne]; omega
        go_wp2_with fail
        refine Calls.mono (H8.out _ HM.out) ?_
        rintro e w5 ⟨rfl, hb5⟩
        go_wp2_with fail
        refine Calls.mono (H3.out _) ?_
        rintro e w6 ⟨rfl, hb6⟩
        go_wp2_with (first | (go_at_call 14; refine Calls.mono (err_any _ _) ?_; rintro e w3 ⟨rfl, rfl⟩))
        refine (awake_any _).mono ?_
        rintro e w8 ⟨rfl, hb8⟩
        go_wp2
        go_ret
        exact ⟨rfl, below_chain (below_chain hb5 hb6) hb8⟩
theorem burst_walk' (s : ByteArray) (a b : Int) (hs : s.size ≤ maxLen) (ha : 0 ≤ a ∧ a ≤ 65535) (hb : 0 ≤ b ∧ b ≤ 4294967295) (w : World) :
    Calls Try.prog 4 #[.string s, .int .u16 a, .int .u32 b] w fun e w' => e = .returned (.bool true) ∧ Below w.heap.size w w' := by
  obtain ⟨x, rfl⟩ := Int.eq_ofNat_of_zero_le ha.1
  obtain ⟨y, rfl⟩ := Int.eq_ofNat_of_zero_le hb.1
  exact burst_walk s x y (by omega) (by omega) hs w
end Go.Proofs.Ytljbldcamihmiaa
