-- PROVED: a book that is new; how many cells it has; whether there is a cell; how many pages live; an error's number.
import Derived.Test.YtmipgpkeegggpaaPTurn
namespace Go.Proofs.Ytmipgpkeegggpaa.P
open Go.RowKit
set_option linter.unusedVariables false
theorem blk1 {w : World} {b : Nat} {x : Value} {t : TypeId} (h : w.heap[b]? = some (.cells #[x] t)) :
    w.cell? ⟨b, 0, none⟩ = some x ∧ w.frozen? ⟨b, 0, none⟩ = false ∧ b < w.heap.size :=
  ⟨by simp [World.cell?, h], by simp [World.frozen?, h], heap_lt h⟩
theorem blk4 {w : World} {b : Nat} {x y z u : Value} {t : TypeId} (h : w.heap[b]? = some (.cells #[x, y, z, u] t)) :
    w.cell? ⟨b, 0, none⟩ = some x ∧ w.cell? ⟨b, 1, none⟩ = some y ∧ w.cell? ⟨b, 2, none⟩ = some z ∧ w.cell? ⟨b, 3, none⟩ = some u ∧
    w.frozen? ⟨b, 0, none⟩ = false ∧ w.frozen? ⟨b, 1, none⟩ = false ∧ w.frozen? ⟨b, 2, none⟩ = false ∧ w.frozen? ⟨b, 3, none⟩ = false ∧ b < w.heap.size := by
  refine ⟨?_, ?_, ?_, ?_, ?_, ?_, ?_, ?_, heap_lt h⟩ <;> simp [World.cell?, World.frozen?, h]
theorem err_any (n : Int) (w : World) : Calls Try.prog 12 #[.int .i64 n] w fun e w' => e = .returned (.int .i64 n) ∧ w' = w := by
  go_enter Try.func12, Try.ntmps12
  go_wp2
  go_ret
  exact ⟨rfl, rfl⟩
theorem new_any (w : World) : Calls Try.prog 25 #[] w fun e w' => e = .returned (.pointer (some ⟨w.heap.size + 1, 0, none⟩)) ∧
    w' = (w.alloc (.cells #[.int .i64 0] 83)).alloc (.cells #[.bool true, .int .i64 0, .slice none 0 0, .pointer (some ⟨w.heap.size, 0, none⟩)] 86) := by
  go_enter Try.func25, Try.ntmps25
  go_wp2
  go_ret
  exact ⟨by simp, rfl⟩
theorem len_none (w : World) : Calls Try.prog 37 #[.pointer none] w fun e w' => e = .returned (.int .i64 0) ∧ w' = w := by
  go_enter Try.func37, Try.ntmps37
  go_wp2
  go_ret
  exact ⟨rfl, rfl⟩
theorem len_any {w : World} {b : Nat} {o : Bool} {n : Int} {r f : Value} (h : w.heap[b]? = some (.cells #[.bool o, .int .i64 n, r, f] 86)) :
    Calls Try.prog 37 #[.pointer (some ⟨b, 0, none⟩)] w fun e w' => e = .returned (.int .i64 n) ∧ w' = w := by
  obtain ⟨b0, b1, b2, b3, f0, f1, f2, f3, hl⟩ := blk4 h
  clear h
  go_enter Try.func37, Try.ntmps37
  go_wp2
  go_ret
  exact ⟨rfl, rfl⟩
theorem has_none (i : Int) (w : World) : Calls Try.prog 47 #[.pointer none, .int .i64 i] w fun e w' => e = .returned (.bool false) ∧ w' = w := by
  by_cases h0 : 0 ≤ i
  · have h0' : ¬ i < 0 := by omega
    go_enter Try.func47, Try.ntmps47
    go_wp2_with (go_at_call 37; refine (len_none _).mono ?_; rintro e w' ⟨rfl, rfl⟩)
    go_ret
    exact ⟨by simp; omega, rfl⟩
  · go_enter Try.func47, Try.ntmps47
    go_wp2_with (go_at_call 37; refine (len_none _).mono ?_; rintro e w' ⟨rfl, rfl⟩)
    go_ret
    exact ⟨rfl, rfl⟩
theorem has_any {w : World} {b : Nat} {o : Bool} {n : Int} {r f : Value} (h : w.heap[b]? = some (.cells #[.bool o, .int .i64 n, r, f] 86)) (i : Int) :
    Calls Try.prog 47 #[.pointer (some ⟨b, 0, none⟩), .int .i64 i] w fun e w' => e = .returned (.bool (decide (0 ≤ i ∧ i < n))) ∧ w' = w := by
  have HL : Hid (_) := len_any h
  clear h
  by_cases h0 : 0 ≤ i
  · by_cases h1 : i < n
    · go_enter Try.func47, Try.ntmps47
      go_wp2_with (go_at_call 37; refine Calls.mono HL.out ?_; rintro e w' ⟨rfl, rfl⟩)
      go_ret
      exact ⟨by simp [h0, h1], rfl⟩
    · go_enter Try.func47, Try.ntmps47
      go_wp2_with (go_at_call 37; refine Calls.mono HL.out ?_; rintro e w' ⟨rfl, rfl⟩)
      go_ret
      exact ⟨by simp; omega, rfl⟩
  · go_enter Try.func47, Try.ntmps47
    go_wp2_with (go_at_call 37; refine Calls.mono HL.out ?_; rintro e w' ⟨rfl, rfl⟩)
    go_ret
    exact ⟨by simp; omega, rfl⟩
theorem live_none (w : World) : Calls Try.prog 44 #[.pointer none] w fun e w' => e = .returned (.int .i64 0) ∧ w' = w := by
  go_enter Try.func44, Try.ntmps44
  go_wp2
  go_ret
  exact ⟨rfl, rfl⟩
theorem live_any {w : World} {b g : Nat} {o r n : Value} {l : Int} (h : w.heap[b]? = some (.cells #[o, n, r, .pointer (some ⟨g, 0, none⟩)] 86)) (hf : w.heap[g]? = some (.cells #[.int .i64 l] 83)) :
    Calls Try.prog 44 #[.pointer (some ⟨b, 0, none⟩)] w fun e w' => e = .returned (.int .i64 l) ∧ w' = w := by
  obtain ⟨b0, b1, b2, b3, f0, f1, f2, f3, hl⟩ := blk4 h
  obtain ⟨g0, g1, gl⟩ := blk1 hf
  clear h hf
  go_enter Try.func44, Try.ntmps44
  go_wp2
  go_ret
  exact ⟨rfl, rfl⟩
end Go.Proofs.Ytmipgpkeegggpaa.P
