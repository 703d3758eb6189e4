/- The levels' nodes by their contracts: logic's, binary's. -/
import Derived.Test.YtoeolonbkeldoaaDoorPsD
import Derived.BigRegion
namespace Go.Proofs.YtoeolonbkeldoaaDoor.R
open Go.RowKit
open L (tkA)
set_option linter.unusedVariables false
/-- Texts lie from an address on. -/
def TxIn (W : World) (g off : Nat) (T : List (List UInt8)) : Prop := g < W.heap.size ∧ ∀ j (h : j < T.length), W.cell? ⟨g, off + j, none⟩ = some (.string ⟨T[j].toArray⟩)
theorem TxIn.below {W W' : World} {g off : Nat} {T : List (List UInt8)} (h : TxIn W g off T) (hb : Below W.heap.size W W') : TxIn W' g off T := ⟨Nat.lt_of_lt_of_le h.1 hb.size, fun j hj => (hb.cell h.1).trans (h.2 j hj)⟩
set_option maxRecDepth 100000 in
set_option maxHeartbeats 2000000 in
theorem index_any {w : World} {g off cap : Nat} {T : List (List UInt8)} (m : List UInt8) (h : TxIn w g off T) (hl : T.length ≤ 100) (hc : T.length ≤ cap) :
    Calls Tryd.prog 113 #[.slice (some ⟨g, off, none⟩) T.length cap, .string ⟨m.toArray⟩] w fun e w' => ∃ i : Int, e = .returned (.int .i64 i) ∧ (decide (i ≥ 0) = decide (m ∈ T)) ∧ w' = w := by
  have H : Hid (_) := h
  clear h
  go_enter Tryd.func113, Tryd.ntmps113
  go_wp2_with fail
  go_loop [8] (fun i => ∃ k : Nat, k ≤ T.length ∧ i = .int .i64 (k : Int) ∧ Hid (∀ j (h : j < T.length), j < k → m ≠ T[j])) (fun i => T.length - (intOf i).toNat)
  case atStart => exact ⟨0, by omega, rfl, fun j h h' => absurd h' (by omega)⟩
  case round =>
    obtain ⟨k, hk, rfl, HA⟩ := hrel
    by_cases hlt : k < T.length
    · have hlt' : (k : Int) < T.length := by omega
      have hcell := H.out.2 k hlt
      by_cases he : m = T[k]
      · have hm : m ∈ T := by rw [he]; exact List.getElem_mem _
        have HM : Hid (m ∈ T) := hm
        rw [← he] at hcell
        clear HA he hm H
        go_wp2_with fail
        go_ret
        exact ⟨_, rfl, ⟨fun _ => HM.out, fun _ => by omega⟩, rfl⟩
      · have HA' : Hid (∀ j (h : j < T.length), j < k + 1 → m ≠ T[j]) := fun j h h' => by
          by_cases e : j = k
          · subst e; exact he
          · exact HA.out j h (by omega)
        have hne : (m == T[k]) = false := by simpa using he
        clear HA he H
        generalize T[k] = tk at *
        go_wp2_with fail
        go_round
        case rel => exact ⟨k + 1, by omega, by go_num, HA'⟩
        case measure => simp [intOf]; omega
    · have hlt' : ¬ (k : Int) < T.length := by omega
      have HM : Hid (¬ m ∈ T) := fun hm => by
        obtain ⟨j, hj, e⟩ := List.getElem_of_mem hm
        exact HA.out j hj (by omega) e.symm
      clear HA H
      go_wp2_with fail
      go_ret
      exact ⟨_, rfl, ⟨fun h => absurd h (by decide), fun h => absurd h HM.out⟩, rfl⟩
set_option maxRecDepth 100000 in
set_option maxHeartbeats 2000000 in
theorem contains_any {w : World} {g off cap : Nat} {T : List (List UInt8)} (m : List UInt8) (h : TxIn w g off T) (hl : T.length ≤ 100) (hc : T.length ≤ cap) :
    Calls Tryd.prog 112 #[.slice (some ⟨g, off, none⟩) T.length cap, .string ⟨m.toArray⟩] w fun e w' => e = .returned (.bool (decide (m ∈ T))) ∧ w' = w := by
  have HI : Hid (_) := index_any m h hl hc
  clear h
  go_enter Tryd.func112, Tryd.ntmps112
  go_wp2_with fail
  refine Calls.mono HI.out ?_
  rintro e w1 ⟨i, rfl, hi, rfl⟩
  go_wp2_with fail
  go_ret
  exact ⟨rfl, rfl⟩
set_option maxRecDepth 100000 in
set_option maxHeartbeats 2000000 in
theorem binary_any {w : World} {g off cap : Nat} {T : List (List UInt8)} (m : List UInt8) (h : TxIn w g off T) (hl : T.length ≤ 100) (hc : T.length ≤ cap) :
    Calls Tryd.prog 111 #[.slice (some ⟨g, off, none⟩) T.length cap, .string ⟨m.toArray⟩] w fun e w' => e = .returned (.tuple #[.agg #[.int .i64 15, .int .i64 0, .string ⟨m.toArray⟩, .slice none 0 0, .slice none 0 0, .int .i64 0], .bool (decide (m ∈ T))]) ∧ Below w.heap.size w w' := by
  have HI : Hid (∀ W, Below w.heap.size w W → _) := fun W hW => contains_any (w := W) m (h.below hW) hl hc
  clear h
  go_enter Tryd.func111, Tryd.ntmps111
  go_wp2_with fail
  refine Calls.mono (HI.out _ ((Below.refl _ _).alloc (Nat.le_refl _) _)) ?_
  rintro e w1 ⟨rfl, rfl⟩
  go_wp2_with fail
  refine bodyPost_ret (v := .tuple #[.agg #[.int .i64 15, .int .i64 0, .string ⟨m.toArray⟩, .slice none 0 0, .slice none 0 0, .int .i64 0], .bool (decide (m ∈ T))]) (by simp [results, Tryd.results111, go_sem, *]) rfl ⟨rfl, ?_⟩
  repeat (first | with_reducible exact Below.refl _ _ | (with_reducible refine Below.setCell ?_ (by first | exact Nat.le_refl _ | omega | simp) _) | (with_reducible refine Below.alloc ?_ (by first | exact Nat.le_refl _ | omega | simp | (simp; omega)) _))
set_option maxRecDepth 100000 in
set_option maxHeartbeats 2000000 in
theorem logic_any {w : World} (sign : List UInt8) (k : Nat) (m : List UInt8) :
    Calls Tryd.prog 110 #[.agg #[.string ⟨sign.toArray⟩, .int .i64 (k : Int)], .string ⟨m.toArray⟩] w fun e w' => e = .returned (.tuple #[.agg #[.int .i64 (k : Int), .int .i64 0, .string ⟨#[]⟩, .slice none 0 0, .slice none 0 0, .int .i64 0], .bool (decide (m = sign))]) ∧ Below w.heap.size w w' := by
  have hq : (m == sign) = decide (m = sign) := by by_cases h : m = sign <;> simp [h]
  go_enter Tryd.func110, Tryd.ntmps110
  go_wp2_with fail
  go_region
  all_goals
    go_wp2_with fail
    refine bodyPost_ret (v := .tuple #[.agg #[.int .i64 (k : Int), .int .i64 0, .string ⟨#[]⟩, .slice none 0 0, .slice none 0 0, .int .i64 0], .bool (decide (m = sign))]) (by simp [results, Tryd.results110, go_sem, *]) rfl ⟨rfl, ?_⟩
    repeat (first | with_reducible exact Below.refl _ _ | (with_reducible refine Below.drew ?_) | (with_reducible refine Below.setCell ?_ (by first | exact Nat.le_refl _ | omega | simp) _) | (with_reducible refine Below.alloc ?_ (by first | exact Nat.le_refl _ | omega | simp | (simp; omega)) _))
end Go.Proofs.YtoeolonbkeldoaaDoor.R
