/- What the functions of package vint do, each by a contract: the bytes of a number; what bytes say. -/
import Derived.Test.YtmjmlccdgdakdaaVMath
import Derived.Test.YtmjmlccdgdakdaaRows
import Derived.WalkSpells
import Derived.WalkLawsBesides
namespace Go.Proofs.Ytmjmlccdgdakdaa.V
open Go.RowKit

theorem ret_int {k : IntKind} {a b : Int} (h : a = b) : Ending.returned (.int k a) = .returned (.int k b) := by rw [h]
theorem ret_bool {a b : Bool} (h : a = b) : Ending.returned (.bool a) = .returned (.bool b) := by rw [h]

theorem u64_wrap_eq (x : Int) : IntKind.u64.wrap x = x % 18446744073709551616 := by
  simp [IntKind.wrap, IntKind.signed, IntKind.bits]
theorem zig_neg (n : Int) (h1 : -9223372036854775808 ≤ n) (h : n < 0) : IntKind.u64.wrap (IntKind.u64.wrap (-IntKind.u64.wrap (2 * IntKind.u64.wrap n)) - 1) = (Vn.zig n : Int) := by
  simp only [u64_wrap_eq]
  unfold Vn.zig
  rw [if_neg (by omega)]
  omega

set_option maxHeartbeats 400000 in
theorem fold_any (n : Int) (w : World) (h1 : -9223372036854775808 ≤ n) (h2 : n ≤ 9223372036854775807) :
    Calls Try.prog 40 #[.int .i64 n] w fun e w' => e = .returned (.int .u64 (Vn.zig n : Int)) ∧ w' = w := by
  by_cases h : 0 ≤ n
  · have HZ : Hid ((Vn.zig n : Int) = 2 * n) := by unfold Vn.zig; rw [if_pos h]; exact (by omega : ((2 * n).toNat : Int) = 2 * n)
    go_enter Try.func40, Try.ntmps40
    go_wp2
    go_ret
    exact ⟨ret_int HZ.out.symm, rfl⟩
  · have h' : n < 0 := by omega
    have HZ : Hid (_) := zig_neg n h1 h'
    go_enter Try.func40, Try.ntmps40
    go_wp2
    go_ret
    exact ⟨ret_int HZ.out, rfl⟩

set_option maxHeartbeats 400000 in
theorem unfold_any (u : Nat) (w : World) (h2 : (u : Int) ≤ 18446744073709551615) :
    Calls Try.prog 61 #[.int .u64 u] w fun e w' => e = .returned (.int .i64 (Vn.unzig u)) ∧ w' = w := by
  by_cases h : u % 2 = 0
  · have HZ : Hid (Vn.unzig u = (u : Int) / 2) := by unfold Vn.unzig; rw [if_pos h]; exact (by omega : ((u / 2 : Nat) : Int) = (u : Int) / 2)
    have hb : ((u : Int) % 2 == 0) = true := by rw [beq_iff_eq]; omega
    clear h
    go_enter Try.func61, Try.ntmps61
    go_wp2
    go_ret
    exact ⟨ret_int HZ.out.symm, rfl⟩
  · have HZ : Hid (Vn.unzig u = -((u : Int) / 2) - 1) := by unfold Vn.unzig; rw [if_neg h]; exact (by omega : -((u / 2 : Nat) : Int) - 1 = -((u : Int) / 2) - 1)
    have hb : ((u : Int) % 2 == 0) = false := by rw [beq_eq_false_iff_ne]; omega
    clear h
    go_enter Try.func61, Try.ntmps61
    go_wp2
    go_ret
    exact ⟨ret_int HZ.out.symm, rfl⟩

/-- May b, below 128, be the last byte, with i ahead of it? -/
def mayB (b i : Int) : Bool := !((decide (0 < i) && decide (b = 0)) || (decide (9 ≤ i) && decide (1 < b)))
set_option maxHeartbeats 400000 in
theorem mayEnd_any (b i : Int) (w : World) :
    Calls Try.prog 67 #[.int .u8 b, .int .i64 i] w fun e w' => e = .returned (.bool (mayB b i)) ∧ w' = w := by
  by_cases h1 : 0 < i
  · by_cases h2 : b = 0
    · have hb : (b == 0) = true := by simpa using h2
      have HM : Hid (mayB b i = false) := (show mayB b i = false from by unfold mayB; simp [h1, h2])
      clear h2
      go_enter Try.func67, Try.ntmps67
      go_wp2
      go_ret
      exact ⟨ret_bool HM.out.symm, rfl⟩
    · have hb : (b == 0) = false := by simpa using h2
      by_cases h3 : i < 9
      · have HM : Hid (mayB b i = true) := (show mayB b i = true from by unfold mayB; simp [h1, h2]; omega)
        clear h2
        go_enter Try.func67, Try.ntmps67
        go_wp2
        go_ret
        exact ⟨ret_bool HM.out.symm, rfl⟩
      · by_cases h4 : b ≤ 1
        · have HM : Hid (mayB b i = true) := (show mayB b i = true from by unfold mayB; simp [h1, h2]; omega)
          clear h2
          go_enter Try.func67, Try.ntmps67
          go_wp2
          go_ret
          exact ⟨ret_bool HM.out.symm, rfl⟩
        · have HM : Hid (mayB b i = false) := (show mayB b i = false from by unfold mayB; simp [h1, h2]; omega)
          clear h2
          go_enter Try.func67, Try.ntmps67
          go_wp2
          go_ret
          exact ⟨ret_bool HM.out.symm, rfl⟩
  · have HM : Hid (mayB b i = true) := (show mayB b i = true from by unfold mayB; simp; omega)
    have h9 : i < 9 := by omega
    go_enter Try.func67, Try.ntmps67
    go_wp2
    go_ret
    exact ⟨ret_bool HM.out.symm, rfl⟩

end Go.Proofs.Ytmjmlccdgdakdaa.V
