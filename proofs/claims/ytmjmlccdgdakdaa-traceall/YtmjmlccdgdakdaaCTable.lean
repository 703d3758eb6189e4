/- crc.table: the sixteen half bytes, each four times halved, in an array of its own. -/
import Derived.Test.YtmjmlccdgdakdaaCHalf
namespace Go.Proofs.Ytmjmlccdgdakdaa.C
open Go.RowKit
def tabUpto (i : Nat) : Array Value := ((List.range 16).map fun j => Value.int .u32 (if j < i then ((Cm.halves 4 j : Nat) : Int) else 0)).toArray
theorem tabUpto_size (i : Nat) : (tabUpto i).size = 16 := by simp [tabUpto]
theorem tabUpto_at (i j : Nat) (hj : j < 16) : (tabUpto i)[j]? = some (.int .u32 (if j < i then ((Cm.halves 4 j : Nat) : Int) else 0)) := by
  simp [tabUpto, hj]
theorem tabUpto_set (i : Nat) (hi : i < 16) : (tabUpto i).setIfInBounds i (.int .u32 ((Cm.halves 4 i : Nat) : Int)) = tabUpto (i + 1) := by
  apply Array.ext_getElem?
  intro j
  rw [Array.getElem?_setIfInBounds, tabUpto_size]
  by_cases hj : j < 16
  · rw [tabUpto_at _ j hj, tabUpto_at _ j hj]
    by_cases h : i = j
    · subst h; simp [hi]
    · simp only [h, if_false]
      by_cases h2 : j < i
      · simp [h2, show j < i + 1 by omega]
      · simp [h2, show ¬ j < i + 1 by omega]
  · have h1 : i ≠ j := by omega
    have h2 : ∀ k, (tabUpto k)[j]? = none := fun k => by simp [tabUpto, hj]
    simp [h1, h2]
theorem tabUpto_zero : tabUpto 0 = #[.int .u32 0, .int .u32 0, .int .u32 0, .int .u32 0, .int .u32 0, .int .u32 0, .int .u32 0, .int .u32 0, .int .u32 0, .int .u32 0, .int .u32 0, .int .u32 0, .int .u32 0, .int .u32 0, .int .u32 0, .int .u32 0] := by
  simp [tabUpto, List.range, List.range.loop]
theorem tabUpto_one (i : Nat) : (tabUpto i).all (·.oneCell') = true := by
  simp [tabUpto, Value.oneCell']
theorem halves_next (m k : Nat) : Cm.halves (m + 1) k = Cm.half (Cm.halves m k) := by
  rw [Cm.halves_add m 1]; rfl
def tab : Array Value := tabUpto 16
theorem tab_at (j : Nat) (hj : j < 16) : tab[j]? = some (.int .u32 ((Cm.halves 4 j : Nat) : Int)) := by
  unfold tab; rw [tabUpto_at _ j hj]; simp [hj]

theorem tab_lit : tab = #[.int .u32 0, .int .u32 274646895, .int .u32 549293790, .int .u32 820201905, .int .u32 1098587580, .int .u32 1361435347, .int .u32 1640403810, .int .u32 1905808397, .int .u32 2197175160, .int .u32 2460548119, .int .u32 2722870694, .int .u32 2987750089, .int .u32 3280807620, .int .u32 3553878443, .int .u32 3811616794, .int .u32 4084100981] := by kernel_rfl

set_option maxRecDepth 100000 in
set_option maxHeartbeats 1000000 in
theorem table_any (w : World) :
    Calls Try.prog 69 #[.int .u32 2197175160] w fun e w' => e = .returned (.agg tab) ∧ w' = w.alloc (.cells tab 118) := by
  go_enter Try.func69, Try.ntmps69
  go_wp2
  rw [← tabUpto_zero]
  go_loopw [5] (fun c wr => ∃ i : Nat, i ≤ 16 ∧ c = .int .i64 (i : Int) ∧ wr = w.alloc (.cells (tabUpto i) 118)) (fun c _ => (16 - intOf c).toNat)
  case atStart => exact ⟨0, by omega, rfl, rfl⟩
  case round =>
    obtain ⟨i, hi, rfl, rfl⟩ := hrel
    by_cases hlt : i < 16
    · have hlt' : (i : Int) < 16 := by omega
      go_wp2
      go_loop [4, 10] (fun v c => ∃ m : Nat, m ≤ 4 ∧ c = .int .i64 (m : Int) ∧ v = .int .u32 ((Cm.halves m i : Nat) : Int)) (fun _ c => (4 - intOf c).toNat)
      case atStart => exact ⟨0, by omega, rfl, rfl⟩
      case round =>
        obtain ⟨m, hm, rfl, rfl⟩ := hrel
        by_cases hlm : m < 4
        · have hlm' : (m : Int) < 4 := by omega
          have H : Hid (_) := half_any (Cm.halves m i) (w.alloc (.cells (tabUpto i) 118)) (Cm.halves_lt m (by omega))
          go_wp2_with (go_at_call 70; refine Calls.mono (H.out) ?_; rintro e w1 ⟨rfl, rfl⟩)
          go_round
          case rel => exact ⟨m + 1, by omega, by simp, by rw [halves_next]⟩
          case measure => simp [intOf]; omega
        · have hlm' : ¬ ((m : Int) < 4) := by omega
          have hset : (tabUpto i).setIfInBounds i (.int .u32 ((Cm.halves m i : Nat) : Int)) = tabUpto (i + 1) := by
            obtain rfl : m = 4 := by omega
            exact tabUpto_set i hlt
          clear hlm
          have hcell : (tabUpto i)[i]? = some (.int .u32 0) := by rw [tabUpto_at i i hlt]; simp
          go_wp2
          go_roundw
          case rel => exact ⟨i + 1, by omega, by simp, by rw [← hset]⟩
          case measure => simp [intOf]; omega
    · have hlt' : ¬ ((i : Int) < 16) := by omega
      have ht : tabUpto i = tab := by obtain rfl : i = 16 := by omega
                                      rfl
      rw [ht]
      clear hlt ht
      rw [tab_lit]
      go_wp2
      refine bodyPost_ret (v := .agg tab) ?_ rfl ⟨rfl, by rw [tab_lit]⟩
      rw [tab_lit]
      simp [results, Try.results69, go_sem]
end Go.Proofs.Ytmjmlccdgdakdaa.C
