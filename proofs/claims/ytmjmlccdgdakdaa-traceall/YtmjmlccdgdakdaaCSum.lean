/- crc.Sum: the sum of any bytes; nothing that was there has turned. -/
import Derived.Test.YtmjmlccdgdakdaaCTable
namespace Go.Proofs.Ytmjmlccdgdakdaa.C
open Go.RowKit
theorem u32_mask4 (x : Nat) (hx : x < 4294967296) : bits .and .u32 (x : Int) 15 = ((x % 16 : Nat) : Int) := by
  have := u32_and_nat x 15 hx (by decide)
  rw [nat_mask4] at this
  exact this
theorem run_snoc (c : Nat) (l : List UInt8) (a : UInt8) : Cm.run c (l ++ [a]) = Cm.halves 8 (Cm.run c l ^^^ a.toNat) := by
  rw [Cm.run_append]; rfl
theorem take_snoc (s : ByteArray) (k : Nat) (h : k < s.size) : s.data.toList.take (k + 1) = s.data.toList.take k ++ [s[k]] := by
  rw [List.take_add_one]
  congr 1
  have : s.data.toList[k]? = some s[k] := by
    simp only [ByteArray.getElem_eq_getElem_data]
    rw [Array.getElem?_toList, Array.getElem?_eq_getElem]
  rw [this]; rfl

theorem nib_facts (x : Nat) (hx : x < 4294967296) : ∃ r t y : Nat, bits .and .u32 (x : Int) 15 = (r : Int) ∧ (r : Int) < 16 ∧ tab[r]? = some (.int .u32 (t : Int)) ∧
    bits .xor .u32 ((x : Int) / 16) (t : Int) = (y : Int) ∧ y = Cm.halves 4 x ∧ y < 4294967296 := by
  have ht : Cm.halves 4 (x % 16) < 4294967296 := Cm.halves_lt 4 (by omega)
  refine ⟨x % 16, Cm.halves 4 (x % 16), Cm.halves 4 x, u32_mask4 x hx, by omega, tab_at _ (by omega), ?_, rfl, Cm.halves_lt 4 hx⟩
  have := u32_xor_nat (x / 16) (Cm.halves 4 (x % 16)) (by omega) ht
  rw [Cm.nibble x, ← this]
  rw [show ((x / 16 : Nat) : Int) = (x : Int) / 16 by omega]

set_option maxRecDepth 100000 in
set_option maxHeartbeats 1000000 in
theorem sum_any (s : ByteArray) (w : World) (hs : s.size ≤ maxLen) :
    Calls Try.prog 68 #[.string s] w fun e w' => e = .returned (.int .u32 ((Cm.sum s.data.toList : Nat) : Int)) ∧ Below w.heap.size w w' := by
  have hM := table_any w
  have hsm : (s.size : Int) ≤ 9223372036854775807 := by have := hs; simp only [maxLen] at this; omega
  have hsz : tab.size = 16 := tabUpto_size 16
  have hsc : (storeCells ⟨w.heap.size + 1, 0, none⟩ tab.toList 0).run Try.prog ((w.alloc (.cells tab 118)).alloc (.cells #[.int .u32 0, .int .u32 0, .int .u32 0, .int .u32 0, .int .u32 0, .int .u32 0, .int .u32 0, .int .u32 0, .int .u32 0, .int .u32 0, .int .u32 0, .int .u32 0, .int .u32 0, .int .u32 0, .int .u32 0, .int .u32 0] 118)) = .ok () ((w.alloc (.cells tab 118)).alloc (.cells tab 118)) := by
    have := run_storeCells_new (P := Try.prog) (w.alloc (.cells tab 118)) 118 #[.int .u32 0, .int .u32 0, .int .u32 0, .int .u32 0, .int .u32 0, .int .u32 0, .int .u32 0, .int .u32 0, .int .u32 0, .int .u32 0, .int .u32 0, .int .u32 0, .int .u32 0, .int .u32 0, .int .u32 0, .int .u32 0] tab (by rw [hsz]; kernel_rfl) (by rw [hsz]; rfl) (tabUpto_one 16)
    rw [show (w.alloc (.cells tab 118)).heap.size = w.heap.size + 1 from Array.size_push _] at this
    exact this
  go_enter Try.func68, Try.ntmps68
  go_wp2_with (go_at_call 69; refine Calls.mono hM ?_; rintro e w1 ⟨rfl, rfl⟩)
  go_loop [4, 9] (fun n c => ∃ i : Nat, i ≤ s.size ∧ c = .int .i64 (i : Int) ∧ n = .int .u32 ((Cm.run Cm.ones (s.data.toList.take i) : Nat) : Int)) (fun _ c => ((s.size : Int) - intOf c).toNat)
  case atStart => exact ⟨0, by omega, rfl, rfl⟩
  case round =>
    obtain ⟨i, hi, rfl, rfl⟩ := hrel
    by_cases hlt : i < s.size
    · have hlt' : (i : Int) < (s.size : Int) := by omega
      have hi64 : (i : Int) + 1 ≤ 9223372036854775807 := by omega
      have htk := take_snoc s i hlt
      have hc := Cm.run_lt (c := Cm.ones) (by decide) (s.data.toList.take i)
      obtain ⟨c, hcd⟩ : ∃ c, Cm.run Cm.ones (s.data.toList.take i) = c := ⟨_, rfl⟩
      rw [hcd] at hc
      rw [hcd]
      obtain ⟨a, ha⟩ : ∃ a, s[i] = a := ⟨_, rfl⟩
      have ha256 := a.toNat_lt
      obtain ⟨x, hx, hxd, hx2⟩ : ∃ x : Nat, bits .xor .u32 (c : Int) (a.toNat : Int) = (x : Int) ∧ x = c ^^^ a.toNat ∧ x < 4294967296 :=
        ⟨_, u32_xor_nat c a.toNat hc (by omega), rfl, Nat.xor_lt_two_pow (n := 32) hc (by omega)⟩
      obtain ⟨r, t, y, h1, h2, h3, h4, h5, h6⟩ := nib_facts x hx2
      obtain ⟨q, v, z, g1, g2, g3, g4, g5, g6⟩ := nib_facts y h6
      have HZ : Hid (Cm.run Cm.ones (s.data.toList.take (i + 1)) = z) := (show Cm.run Cm.ones (s.data.toList.take (i + 1)) = z from by
        rw [htk, run_snoc, hcd, ha, Cm.eight, g5, h5, hxd])
      clear hxd h5 g5 htk hcd hM hsc hc
      go_wp2
      go_round
      case rel => exact ⟨i + 1, by omega, by simp, by rw [HZ.out]⟩
      case measure => simp [intOf]; omega
    · have hlt' : ¬ ((i : Int) < (s.size : Int)) := by omega
      have hB : Below w.heap.size w ((w.alloc (.cells tab 118)).alloc (.cells tab 118)) := ((Below.refl _ _).alloc (Nat.le_refl _) _).alloc (by rw [show (w.alloc (.cells tab 118)).heap.size = w.heap.size + 1 from Array.size_push _]; omega) _
      have hc := Cm.run_lt (c := Cm.ones) (by decide) (s.data.toList.take i)
      have hR : Cm.sum s.data.toList = Cm.run Cm.ones (s.data.toList.take i) ^^^ 4294967295 := by
        rw [List.take_of_length_le (by rw [Array.length_toList]; show s.size ≤ i; omega)]; rfl
      generalize Cm.run Cm.ones (s.data.toList.take i) = c at hc hR ⊢
      have HR : Hid (_) := hR
      clear hR hM hsc
      go_wp2
      go_ret
      exact ⟨ret_int (by rw [HR.out, Nat.xor_comm]; exact u32_xor_nat 4294967295 c (by decide) hc), hB⟩
end Go.Proofs.Ytmjmlccdgdakdaa.C
