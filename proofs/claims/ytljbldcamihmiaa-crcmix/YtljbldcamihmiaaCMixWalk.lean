/- The walk of CrcMix. -/
import Derived.Test.YtljbldcamihmiaaCRow
namespace Go.Proofs.Ytljbldcamihmiaa
open Go.RowKit
attribute [local go_sem ↓] Go.wp_at_zero Go.wp_at_succ
/-- The first i of z, zeros behind them. -/
def fillTo (z : List UInt8) (i : Nat) : List UInt8 := z.take i ++ List.replicate (z.length - i) 0
theorem fillTo_zero (z : List UInt8) : fillTo z 0 = List.replicate z.length 0 := by simp [fillTo]
theorem fillTo_all (z : List UInt8) : fillTo z z.length = z := by simp [fillTo]
theorem fillTo_length (z : List UInt8) (i : Nat) (h : i ≤ z.length) : (fillTo z i).length = z.length := by simp [fillTo]; omega
theorem fillTo_set (z : List UInt8) (i : Nat) (h : i < z.length) (x : UInt8) (hx : z[i]? = some x) : (fillTo z i).set i x = fillTo z (i + 1) := by
  unfold fillTo
  have e : z.length - i = (z.length - (i + 1)) + 1 := by omega
  rw [List.set_append_right _ _ (by simp; omega), show i - (z.take i).length = 0 by simp; omega, e, List.replicate_succ, List.set_cons_zero, List.take_add_one, hx]
  simp
theorem byte_at (s : ByteArray) (i : Nat) (h : i < s.size) : s.data.toList[i]? = some s[i] := by
  simp only [ByteArray.getElem_eq_getElem_data]
  rw [Array.getElem?_toList, Array.getElem?_eq_getElem]
theorem sum_mine (w : World) (B : Nat) (l : List UInt8) : ∀ W (T : ByteArray), T.size ≤ 1000 → Mine w W B l → Calls Try.prog 10 #[.string T] W fun e w' => e = .returned (.int .u32 ((Cm.sum T.data.toList : Nat) : Int)) ∧ Mine w w' B l :=
  fun W T hT hW => (sum_any T W (by unfold maxLen; omega)).mono fun _ _ ⟨he, hb⟩ => ⟨he, hW.go hb⟩
set_option maxRecDepth 100000 in
set_option maxHeartbeats 1000000 in
theorem mix_walk (s t u : ByteArray) (w : World) :
    Calls Try.prog 5 #[.string s, .string t, .string u] w fun e w' => e = .returned (.bool true) ∧ Below w.heap.size w w' := by
  obtain ⟨n, n1, n2, n3, n4, hmin⟩ := run_min4 s.size t.size u.size
  have hmk := fun W => run_make_bytes W n (by omega)
  obtain ⟨z, hz⟩ : ∃ z, List.zipWith (· ^^^ ·) (List.zipWith (· ^^^ ·) (s.data.toList.take n) (t.data.toList.take n)) (u.data.toList.take n) = z := ⟨_, rfl⟩
  have hzl : z.length = n := by
    rw [← hz]; simp; omega
  have hza : ∀ i (h1 : i < s.size) (h2 : i < t.size) (h3 : i < u.size), i < n → z[i]? = some (s[i] ^^^ t[i] ^^^ u[i]) := by
    intro i h1 h2 h3 hi
    rw [← hz]
    simp [List.getElem?_zipWith, hi, byte_at s i h1, byte_at t i h2, byte_at u i h3]
  go_enter Try.func5, Try.ntmps5
  go_wp2
  have HM : Hid (_) := Mine.make w n
  go_loopw [9] (fun c wr => ∃ i : Nat, i ≤ n ∧ c = .int .i64 (i : Int) ∧ Hid (Mine w wr w.heap.size (fillTo z i))) (fun c _ => ((n : Int) - intOf c).toNat)
  case atStart => exact ⟨0, by omega, rfl, by rw [fillTo_zero, hzl]; exact HM.out⟩
  case round =>
    clear HM
    obtain ⟨i, hi, rfl, HM⟩ := hrel
    by_cases hlt : i < n
    · have hlt' : (i : Int) < (n : Int) := by omega
      have b1 : (i : Int) < (s.size : Int) := by omega
      have b2 : (i : Int) < (t.size : Int) := by omega
      have b3 : (i : Int) < (u.size : Int) := by omega
      have hi64 : (i : Int) + 1 ≤ 9223372036854775807 := by omega
      have HZ : Hid (_) := hza i (by omega) (by omega) (by omega) hlt
      obtain ⟨a, ha⟩ : ∃ a, s[i] = a := ⟨_, rfl⟩
      obtain ⟨b, hb⟩ : ∃ b, t[i] = b := ⟨_, rfl⟩
      obtain ⟨c, hc⟩ : ∃ c, u[i] = c := ⟨_, rfl⟩
      rw [ha, hb, hc] at HZ
      obtain ⟨p, hp, hx1, hx2⟩ : ∃ p : Nat, p < 256 ∧ bits .xor .u8 (a.toNat : Int) (b.toNat : Int) = (p : Int) ∧ bits .xor .u8 (p : Int) (c.toNat : Int) = ((a ^^^ b ^^^ c).toNat : Int) := by
        have h1 : a.toNat ^^^ b.toNat < 256 := Nat.xor_lt_two_pow (n := 8) a.toNat_lt b.toNat_lt
        refine ⟨a.toNat ^^^ b.toNat, h1, u8_xor_nat _ _ a.toNat_lt b.toNat_lt, ?_⟩
        rw [UInt8.toNat_xor, UInt8.toNat_xor]
        exact u8_xor_nat _ _ h1 c.toNat_lt
      generalize a ^^^ b ^^^ c = q at HZ hx2
      obtain ⟨v, hv⟩ : ∃ v, (fillTo z i)[i]? = some v := ⟨(fillTo z i)[i]'(by rw [fillTo_length z i (by omega)]; omega), List.getElem?_eq_getElem _⟩
      obtain ⟨c1, c2⟩ := HM.out.2.2.2 i v hv
      have HS : Hid (∀ W, Mine w W w.heap.size (fillTo z i) → Mine w (W.setCell ⟨w.heap.size, i, none⟩ (.int .u8 (q.toNat : Int))) w.heap.size (fillTo z (i + 1))) := (show ∀ W, Mine w W w.heap.size (fillTo z i) → Mine w (W.setCell ⟨w.heap.size, i, none⟩ (.int .u8 (q.toNat : Int))) w.heap.size (fillTo z (i + 1)) from by
        intro W hW
        have := hW.set i (by rw [fillTo_length z i (by omega)]; omega) q
        rw [fillTo_set z i (by omega) q HZ.out] at this
        exact this)
      clear hv hza hz HZ
      go_wp2
      go_region
      go_wp2
      exact ⟨⟨i + 1, by omega, by simp, (HS.out _ HM.out).drew⟩, by simp [intOf]; omega⟩
    · have hlt' : ¬ ((i : Int) < (n : Int)) := by omega
      have hM : Mine w wr w.heap.size z := by
        have := HM.out
        rw [show i = z.length by omega, fillTo_all] at this
        exact this
      clear HM hza
      have hcv : ∀ W, Mine w W w.heap.size z → (convert 35 9 (.slice (some ⟨w.heap.size, 0, none⟩) n n)).run Try.prog W = .ok (.string ⟨z.toArray⟩) W := fun W h => by
        have := h.conv n
        rw [hzl] at this
        exact this
      have G10 : Hid (_) := sum_mine w w.heap.size z
      have G7 : Hid (∀ W, Mine w W w.heap.size z → Calls Try.prog 7 #[] W fun e w' => e = .returned (.bool true) ∧ Mine w w' w.heap.size z) := fun W hW => (awake_any W).mono fun _ _ ⟨he, hb⟩ => ⟨he, hW.go hb⟩
      obtain ⟨T1, hT1⟩ : ∃ T, s.extract 0 n = T := ⟨_, rfl⟩
      obtain ⟨T2, hT2⟩ : ∃ T, t.extract 0 n = T := ⟨_, rfl⟩
      obtain ⟨T3, hT3⟩ : ∃ T, u.extract 0 n = T := ⟨_, rfl⟩
      have e1 := extract_first s n
      have e2 := extract_first t n
      have e3 := extract_first u n
      rw [hT1] at e1
      rw [hT2] at e2
      rw [hT3] at e3
      have e4 : (ByteArray.mk z.toArray).data.toList = z := rfl
      have hsum := Cm.sum_mix (s.data.toList.take n) (t.data.toList.take n) (u.data.toList.take n) (by simp; omega) (by simp; omega)
      rw [hz, ← e1, ← e2, ← e3, ← e4] at hsum
      have z1 : T1.size ≤ 1000 := by rw [← hT1]; simp [ByteArray.size_extract]; omega
      have z2 : T2.size ≤ 1000 := by rw [← hT2]; simp [ByteArray.size_extract]; omega
      have z3 : T3.size ≤ 1000 := by rw [← hT3]; simp [ByteArray.size_extract]; omega
      have z4 : (ByteArray.mk z.toArray).size ≤ 1000 := by
        have : (ByteArray.mk z.toArray).size = z.length := List.size_toArray ..
        omega
      generalize ByteArray.mk z.toArray = T4 at hcv hsum z4
      have y1 := Cm.sum_lt T1.data.toList
      have y2 := Cm.sum_lt T2.data.toList
      have y3 := Cm.sum_lt T3.data.toList
      obtain ⟨x1, hx1⟩ : ∃ x, Cm.sum T1.data.toList = x := ⟨_, rfl⟩
      obtain ⟨x2, hx2⟩ : ∃ x, Cm.sum T2.data.toList = x := ⟨_, rfl⟩
      obtain ⟨x3, hx3⟩ : ∃ x, Cm.sum T3.data.toList = x := ⟨_, rfl⟩
      obtain ⟨x4, hx4⟩ : ∃ x, Cm.sum T4.data.toList = x := ⟨_, rfl⟩
      rw [hx1, hx2, hx3, hx4] at hsum
      rw [hx1] at y1
      rw [hx2] at y2
      rw [hx3] at y3
      have y12 : x1 ^^^ x2 < 4294967296 := Nat.xor_lt_two_pow (n := 32) y1 y2
      have o1 := u32_xor_nat x1 x2 y1 y2
      have o2 := u32_xor_nat (x1 ^^^ x2) x3 y12 y3
      rw [hsum] at o2
      generalize x1 ^^^ x2 = x12 at o1 o2
      have c1 : (n : Int) ≤ (s.size : Int) := by omega
      have c2 : (n : Int) ≤ (t.size : Int) := by omega
      have c3 : (n : Int) ≤ (u.size : Int) := by omega
      have c0 : (0 : Int) ≤ (n : Int) := by omega
      clear e1 e2 e3 hsum y12 hz hzl hmk hmin e4
      go_wp2
      go_region_held3 (fun W => Mine w W w.heap.size z) (first | assumption | exact Mine.drew (by assumption)) (first | (go_at_call 10; refine Calls.mono (G10.out _ _ (by first | exact z1 | exact z2 | exact z3 | exact z4) (by assumption)) ?_; rintro e w7 ⟨rfl, hW7⟩) | (go_at_call 7; refine Calls.mono (G7.out _ (by assumption)) ?_; rintro e w7 ⟨rfl, hW7⟩))
      go_wp2
      go_ret
      exact ⟨rfl, hW7.below⟩
end Go.Proofs.Ytljbldcamihmiaa
