/- The reference's small functions: kinds of bytes, words, signs. -/
import Derived.Test.YtbciecmikcloaaaDoorLSkip
import Derived.Test.YtbciecmikcloaaaDoorLxR
import Derived.BigRegion
namespace Go.Proofs.YtbciecmikcloaaaDoor.L
open Go.RowKit
set_option linter.unusedVariables false
theorem rdigit_any (c : UInt8) (w : World) : Calls Tryd.prog 22 #[.int .u8 (c.toNat : Int)] w fun e w' => e = .returned (.bool (Lx.digit c)) ∧ w' = w := by
  have H : Hid (Lx.digit c = (decide (48 ≤ (c.toNat : Int)) && decide ((c.toNat : Int) ≤ 57))) := by
    unfold Lx.digit; congr 1 <;> (apply decide_eq_decide.2; omega)
  generalize (c.toNat : Int) = n at H ⊢
  by_cases h1 : 48 ≤ n
  all_goals
    by_cases h2 : n ≤ 57
    all_goals
      go_enter Tryd.func22, Tryd.ntmps22
      go_wp2
      go_ret
      exact ⟨ret_bool (by rw [H.out]; simp [h1, h2]), rfl⟩
theorem rletter_any (c : UInt8) (w : World) : Calls Tryd.prog 25 #[.int .u8 (c.toNat : Int)] w fun e w' => e = .returned (.bool (Lx.letter c)) ∧ w' = w := by
  have H : Hid (Lx.letter c = ((decide (97 ≤ (c.toNat : Int)) && decide ((c.toNat : Int) ≤ 122)) || (decide (65 ≤ (c.toNat : Int)) && decide ((c.toNat : Int) ≤ 90)) || decide ((c.toNat : Int) = 95) || decide ((c.toNat : Int) = 36))) := by
    unfold Lx.letter; congr 1; congr 1; congr 1; congr 1
    all_goals first | (apply decide_eq_decide.2; omega) | (congr 1 <;> (apply decide_eq_decide.2; omega))
  generalize (c.toNat : Int) = n at H ⊢
  by_cases h5 : n = 95
  · subst h5
    go_enter Tryd.func25, Tryd.ntmps25
    go_wp2
    go_ret
    exact ⟨ret_bool (by rw [H.out]; rfl), rfl⟩
  by_cases h6 : n = 36
  · subst h6
    go_enter Tryd.func25, Tryd.ntmps25
    go_wp2
    go_ret
    exact ⟨ret_bool (by rw [H.out]; rfl), rfl⟩
  have e5 : (n == 95) = false := by simpa using h5
  have e6 : (n == 36) = false := by simpa using h6
  by_cases h1 : 97 ≤ n
  all_goals
    by_cases h2 : n ≤ 122
    all_goals
      by_cases h3 : 65 ≤ n
      all_goals
        by_cases h4 : n ≤ 90
        all_goals
          first
          | (exfalso; omega)
          | (go_enter Tryd.func25, Tryd.ntmps25
             go_wp2
             go_ret
             exact ⟨ret_bool (by rw [H.out]; simp [h1, h2, h3, h4, h5, h6]), rfl⟩)
def strV (L : List (List UInt8)) : Array Value := (L.map fun s => .string ⟨s.toArray⟩).toArray
theorem words_any (w : World) : Calls Tryd.prog 28 #[] w fun e w' => e = .returned (.slice (some ⟨w.heap.size, 0, none⟩) 19 19) ∧ w' = w.alloc (.cells (strV Lx.words) 9) := by
  go_enter Tryd.func28, Tryd.ntmps28
  go_wp2
  go_ret
  exact ⟨rfl, rfl⟩
theorem osigns_any (w : World) : Calls Tryd.prog 26 #[] w fun e w' => e = .returned (.slice (some ⟨w.heap.size, 0, none⟩) 26 26) ∧ w' = w.alloc (.cells (strV Lx.osigns) 9) := by
  go_enter Tryd.func26, Tryd.ntmps26
  go_wp2
  go_ret
  exact ⟨rfl, rfl⟩
theorem strV_cell (L : List (List UInt8)) (w : World) (t : TypeId) (k : Nat) (h : k < L.length) : (w.alloc (.cells (strV L) t)).cell? ⟨w.heap.size, k, none⟩ = some (.string ⟨(L[k]'h).toArray⟩) := by
  have e : (strV L)[k]? = some (.string ⟨(L[k]'h).toArray⟩) := by simp [strV, h]
  have e2 : (w.alloc (.cells (strV L) t)).heap[w.heap.size]? = some (.cells (strV L) t) := by
    show (w.heap.push _)[w.heap.size]? = _
    simp
  unfold World.cell?
  rw [e2]
  exact e
/-- Texts that lie in a row. -/
def Lies (w : World) (b : Nat) (L : List (List UInt8)) : Prop := b < w.heap.size ∧ ∀ k (h : k < L.length), w.cell? ⟨b, k, none⟩ = some (.string ⟨(L[k]'h).toArray⟩)
theorem Lies.below {w w' : World} {b : Nat} {L : List (List UInt8)} (h : Lies w b L) (hb : Below w.heap.size w w') : Lies w' b L :=
  ⟨Nat.lt_of_lt_of_le h.1 hb.size, fun k hk => by rw [hb.cell h.1]; exact h.2 k hk⟩
theorem lies_alloc (L : List (List UInt8)) (w : World) (t : TypeId) : Lies (w.alloc (.cells (strV L) t)) w.heap.size L := ⟨by simp, fun k h => strV_cell L w t k h⟩
theorem bytes_beq (a b : List UInt8) : ((⟨a.toArray⟩ : ByteArray).toList == (⟨b.toArray⟩ : ByteArray).toList) = (a == b) := by
  rw [ByteArray.toList_eq, ByteArray.toList_eq]
set_option maxHeartbeats 400000 in
theorem in_any (b n cap : Nat) (L : List (List UInt8)) (s : ByteArray) (w : World) (hl : Lies w b L) (hn : n = L.length) (h1 : n ≤ 1000) (h2 : n ≤ cap) :
    Calls Tryd.prog 27 #[.slice (some ⟨b, 0, none⟩) n cap, .string s] w fun e w' => e = .returned (.bool (L.contains s.data.toList)) ∧ w' = w := by
  have HL : Hid (∀ k (h : k < L.length), w.cell? ⟨b, k, none⟩ = some (.string ⟨(L[k]'h).toArray⟩)) := hl.2
  clear hl
  obtain ⟨B, hB⟩ : ∃ B, L.contains s.data.toList = B := ⟨_, rfl⟩
  rw [hB]
  have HB : Hid (_) := hB
  clear hB
  go_enter Tryd.func27, Tryd.ntmps27
  go_wp2
  go_loop [5] (fun i => ∃ k : Nat, k ≤ n ∧ i = .int .i64 k ∧ Hid (∀ j (h : j < L.length), j < k → L[j] ≠ s.data.toList)) (fun i => n - (intOf i).toNat)
  case atStart => exact ⟨0, Nat.zero_le _, rfl, fun j h h' => absurd h' (by omega)⟩
  case round =>
    obtain ⟨k, hk, rfl, HA⟩ := hrel
    by_cases hlt : k < n
    · have hlt' : (k : Int) < n := by omega
      have hc := HL.out k (by omega)
      have hb : (L[k]'(by omega) == s.toList) = (L[k]'(by omega) == s.data.toList) := by
        rw [ByteArray.toList_eq]
      by_cases he : L[k]'(by omega) = s.data.toList
      · rw [beq_iff_eq.2 he] at hb
        have HR : Hid (B = true) := HB.out.symm.trans (List.contains_iff_mem.2 (he ▸ List.getElem_mem _))
        clear he HA HL
        generalize L[k]'(by omega) = T at *
        go_wp2
        go_ret
        exact ⟨ret_bool HR.out.symm, rfl⟩
      · rw [beq_eq_false_iff_ne.2 he] at hb
        have HE : Hid (_) := he
        clear he
        generalize hT : L[k]'(by omega) = T at *
        have HT : Hid (_) := hT
        clear hT HL
        go_wp2
        go_round
        case rel => exact ⟨k + 1, by omega, by go_num, fun j h h' => by
          by_cases e : j = k
          · subst e; rw [HT.out]; exact HE.out
          · exact HA.out j h (by omega)⟩
        case measure => simp [intOf]; omega
    · have hlt' : ¬ (k : Int) < n := by omega
      have HR : Hid (B = false) := by
        show _ = _
        rw [← HB.out]
        refine Bool.eq_false_iff.2 fun hm => ?_
        rw [List.contains_iff_mem] at hm
        obtain ⟨j, hj, e⟩ := List.getElem_of_mem hm
        exact HA.out j hj (by omega) e
      go_wp2
      go_ret
      exact ⟨ret_bool HR.out.symm, rfl⟩
theorem rword_any (s : ByteArray) (w : World) : Calls Tryd.prog 16 #[.string s] w fun e w' => e = .returned (.bool (Lx.isWord s.data.toList)) ∧ Below w.heap.size w w' := by
  have HI : Hid (_) := in_any w.heap.size 19 19 Lx.words s (w.alloc (.cells (strV Lx.words) 9)) (lies_alloc _ _ _) rfl (by omega) (by omega)
  have HW : Hid (_) := words_any w
  show Calls _ _ _ _ fun e w' => e = .returned (.bool (Lx.words.contains s.data.toList)) ∧ _
  generalize Lx.words.contains s.data.toList = B at *
  generalize strV Lx.words = V at *
  go_enter Tryd.func16, Tryd.ntmps16
  go_wp2_with (first | (go_at_call 28; refine Calls.mono HW.out ?_; rintro e w' ⟨rfl, rfl⟩) | (go_at_call 27; refine Calls.mono HI.out ?_; rintro e w' ⟨rfl, rfl⟩))
  go_ret
  exact ⟨rfl, (Below.refl _ _).alloc (Nat.le_refl _) _⟩
end Go.Proofs.YtbciecmikcloaaaDoor.L
