/- The reference s Put and Text by their contracts. -/
import Derived.Test.YtmjmlccdgdakdaaVGet
namespace Go.Proofs.Ytmjmlccdgdakdaa.V
open Go.RowKit
theorem zig_neg2 (n : Int) (h1 : -9223372036854775808 ≤ n) (h : n < 0) : 2 * (-(n + 1)) + 1 = (Vn.zig n : Int) := by
  unfold Vn.zig; rw [if_neg (by omega)]; omega
set_option maxHeartbeats 400000 in
theorem unsigned_any (n : Int) (w : World) (h1 : -9223372036854775808 ≤ n) (h2 : n ≤ 9223372036854775807) :
    Calls Try.prog 39 #[.int .i64 n] w fun e w' => e = .returned (.int .u64 (Vn.zig n : Int)) ∧ w' = w := by
  by_cases h : 0 ≤ n
  · have HZ : Hid ((Vn.zig n : Int) = 2 * n) := by unfold Vn.zig; rw [if_pos h]; exact (by omega : ((2 * n).toNat : Int) = 2 * n)
    go_enter Try.func39, Try.ntmps39
    go_wp2
    go_ret
    exact ⟨ret_int HZ.out.symm, rfl⟩
  · have h' : n < 0 := by omega
    have HZ : Hid (_) := zig_neg2 n h1 h'
    go_enter Try.func39, Try.ntmps39
    go_wp2
    go_ret
    exact ⟨ret_int HZ.out, rfl⟩
set_option maxRecDepth 100000 in
set_option maxHeartbeats 400000 in
theorem rput_any (n : Int) (w : World) (h1 : -9223372036854775808 ≤ n) (h2 : n ≤ 9223372036854775807) :
    Calls Try.prog 24 #[.int .i64 n] w fun e w' => e = .returned (.string ⟨(Vn.put n).toArray⟩) ∧ Below w.heap.size w w' := by
  obtain ⟨i0, hi, hz0, hz1, hz2⟩ := info_parts Try.info5
  have hzl := Vn.zig_lt n h1 h2
  go_enter Try.func24, Try.ntmps24
  go_wp2_with ((go_at_call 39; refine (unsigned_any _ _ h1 h2).mono ?_; rintro e w' ⟨rfl, rfl⟩))
  go_loopw [3, 4] (fun u b wr => ∃ (l : List UInt8) (U k : Nat), u = .int .u64 (U : Int) ∧ Vn.put n = l ++ Vn.encF k U ∧ l.length + k = 10 ∧ 0 < k ∧ U < 128 ^ k ∧ U < 18446744073709551616 ∧
      wr.ownsRow w'.heap.size 5 1 b l.length (l.map fun c => Value.int .u8 (c.toNat : Int)) ∧ Below w'.heap.size w' wr) (fun u _ _ => (intOf u).toNat)
  case atStart => exact ⟨[], Vn.zig n, 10, rfl, rfl, rfl, by omega, by omega, hzl, World.ownsRow_nil _ _ _ _, Below.refl _ _⟩
  case round =>
    obtain ⟨l, U, k, rfl, hput, hlk, hk0, hUk, hU, hown1, hbel1⟩ := hrel
    have HP : Hid (_) := hput
    have HK : Hid (_) := hUk
    have hU2 : (U : Int) ≤ 18446744073709551615 := by omega
    have hsz := hbel1.size
    clear hput hUk hU hzl
    by_cases hlt : U < 128
    · have hlast := encF_last hlt hk0
      have HL : Hid (Vn.put n = l ++ [UInt8.ofNat U]) := (show Vn.put n = l ++ [UInt8.ofNat U] from by rw [HP.out, hlast])
      have hml := map_last l U U rfl (by omega)
      clear hlast
      have HM : Hid (_) := hml
      clear hml
      go_wp2_with (at_builtin; refine wpList_append_own _ rfl _ _ 50 rfl w'.heap.size 5 i0 (.int .u8 0) 1 1 Try.underlying50 hi hz0 hz1 hz2 rfl (by decide) _ _ _ rfl (hown1.alloc _) ⟨wr.heap.size, 0, none⟩ 1 1 [.int .u8 (U : Int)] rfl rfl (one_cell _ _ _) (by intro u hu; simp at hu; subst hu; rfl) (by unfold maxLen; omega) (by omega) (by simp; omega) ?_; intro v2 w2 hown2 hgrow2 _; have hb2 := (hbel1.alloc hsz _).grown hgrow2 (by simp; omega) (own_row hown1); clear hgrow2; rw [HM.out] at hown2; obtain ⟨g, cap, rfl, _, hcv⟩ := own_conv (dst := 9) Try.underlying50 Try.underlying5 Try.underlying9 hown2 (by omega); clear hown2)
      go_ret
      exact ⟨ret_str HL.out.symm, hb2⟩
    · obtain ⟨k', rfl, hk1, hst, hd⟩ := encF_step hlt HK.out
      have HL : Hid (Vn.put n = (l ++ [UInt8.ofNat (U % 128 + 128)]) ++ Vn.encF k' (U / 128)) := (show Vn.put n = (l ++ [UInt8.ofNat (U % 128 + 128)]) ++ Vn.encF k' (U / 128) from by rw [HP.out, hst]; simp)
      have hml := map_last l (U % 128 + 128) (bits .or .u8 ((U : Int) % 256) 128) (by rw [u8_or128 (by omega) (by omega)]; omega) (by omega)
      have HM : Hid (_) := hml
      have HD : Hid (_) := hd
      clear hml hst hd HK HP
      go_wp2_with (at_builtin; refine wpList_append_own _ rfl _ _ 50 rfl w'.heap.size 5 i0 (.int .u8 0) 1 1 Try.underlying50 hi hz0 hz1 hz2 rfl (by decide) _ _ _ rfl (hown1.alloc _) ⟨wr.heap.size, 0, none⟩ 1 1 [.int .u8 (bits .or .u8 ((U : Int) % 256) 128)] rfl rfl (one_cell _ _ _) (by intro u hu; simp at hu; subst hu; rfl) (by unfold maxLen; omega) (by omega) (by simp; omega) ?_; intro v2 w2 hown2 hgrow2 _; have hb2 := (hbel1.alloc hsz _).grown hgrow2 (by simp; omega) (own_row hown1); clear hgrow2)
      rw [HM.out] at hown2
      go_roundw
      case rel => exact ⟨l ++ [UInt8.ofNat (U % 128 + 128)], U / 128, k', by go_num, HL.out, by simp; omega, hk1, HD.out, by omega, by simpa using hown2, hb2⟩
      case measure => simp [intOf]; omega
end Go.Proofs.Ytmjmlccdgdakdaa.V
