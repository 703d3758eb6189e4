/- lex.value and lex.IsWord by their contracts. -/
import Derived.Test.YtoeolonbkeldoaaDoorLSkip
namespace Go.Proofs.YtoeolonbkeldoaaDoor.L
open Go.RowKit
set_option linter.unusedVariables false
theorem take_snoc (s : ByteArray) (k : Nat) (h : k < s.size) : s.data.toList.take (k + 1) = s.data.toList.take k ++ [s[k]] := by
  rw [List.take_succ_eq_append_getElem (by rw [size_list]; exact h)]; rfl
def valV (l : List UInt8) : Value := if Lx.valB l then .tuple #[.int .i64 (Lx.val l : Int), .bool true] else .tuple #[.int .i64 0, .bool false]
theorem valB_nil : Lx.valB [] = false := rfl
set_option maxRecDepth 100000 in
set_option maxHeartbeats 1000000 in
theorem value_any (s : ByteArray) (w : World) (hs : s.size ≤ 1000000) (hdig : ∀ j (h : j < s.size), Lx.digit s[j] = true) :
    Calls Tryd.prog 38 #[.string s] w fun e w' => e = .returned (valV s.data.toList) ∧ w' = w := by
  by_cases h0 : s.size = 0
  · have e : s = ⟨#[]⟩ := empty_of h0
    subst e
    go_enter Tryd.func38, Tryd.ntmps38
    go_wp2
    go_ret2
    exact ⟨rfl, rfl⟩
  have hpos : 0 < s.size := by omega
  have hne : s.toList.isEmpty = false := by
    rw [ByteArray.toList_eq]
    cases hl : s.data.toList with
    | nil => have := size_list s; rw [hl] at this; simp at this; omega
    | cons c l => rfl
  have hh : (s.data.toList.head?.map (·.toNat)) = some s[0].toNat := by
    have := drop_at s 0 hpos
    rw [List.drop_zero] at this
    rw [this]; rfl
  have hb : Lx.valB s.data.toList = (!(decide (s[0].toNat = 48) && decide (1 < s.size)) && decide (Lx.val s.data.toList ≤ 2147483647)) := by
    have hne' : s.data.toList.isEmpty = false := by rw [← ByteArray.toList_eq]; exact hne
    unfold Lx.valB
    rw [hh, size_list, hne']
    simp
  by_cases hz : s[0].toNat = 48 ∧ 1 < s.size
  · have hc : ((s[0].toNat : Int) == 48) = true := by rw [beq_iff_eq]; omega
    have h1 : (1 : Int) < s.size := by omega
    have HV : Hid (valV s.data.toList = .tuple #[.int .i64 0, .bool false]) := by
      show _ = _
      unfold valV
      rw [hb]
      simp [hz.1, hz.2]
    clear hb hh hdig hz
    go_enter Tryd.func38, Tryd.ntmps38
    go_wp2
    go_ret2
    exact ⟨by rw [HV.out]; rfl, rfl⟩
  · have HB : Hid (Lx.valB s.data.toList = decide (Lx.val s.data.toList ≤ 2147483647)) := by
      show _ = _
      rw [hb]
      by_cases a : s[0].toNat = 48 <;> by_cases b : 1 < s.size <;> simp [a, b]
      exact absurd ⟨a, b⟩ hz
    have hD : Hid (_) := hdig
    clear hb hh hdig
    have hways : (((s[0].toNat : Int) == 48) = false) ∨ (((s[0].toNat : Int) == 48) = true ∧ ¬ (1 : Int) < s.size) := by
      by_cases a : s[0].toNat = 48
      · exact .inr ⟨by rw [beq_iff_eq]; omega, by omega⟩
      · exact .inl (by rw [beq_eq_false_iff_ne]; omega)
    clear hz
    rcases hways with hw1 | ⟨hw1, hw2⟩
    all_goals
      go_enter Tryd.func38, Tryd.ntmps38
      go_wp2
      go_loop [2, 19] (fun n i => ∃ k : Nat, k ≤ s.size ∧ i = .int .i64 k ∧ n = .int .i64 (Lx.val (s.data.toList.take k) : Int) ∧ Lx.val (s.data.toList.take k) ≤ 2147483647) (fun _ i => s.size - (intOf i).toNat)
      case atStart => exact ⟨0, by omega, rfl, rfl, by rw [List.take_zero]; decide⟩
      case round =>
        obtain ⟨k, hk, rfl, rfl, hv⟩ := hrel
        by_cases hlt : k < s.size
        · have hlt' : (k : Int) < s.size := by omega
          have hdk := hD.out k hlt
          have hsn := Lx.val_snoc (s.data.toList.take k) s[k]
          rw [← take_snoc s k hlt] at hsn
          have hle := Lx.val_take s.data.toList (k + 1)
          unfold Lx.digit at hdk
          simp only [Bool.and_eq_true, decide_eq_true_eq] at hdk
          have hd1 : (48 : Int) ≤ s[k].toNat := by omega
          have hd2 : (s[k].toNat : Int) ≤ 57 := by omega
          have HS : Hid (Lx.val (s.data.toList.take (k + 1)) = 10 * Lx.val (s.data.toList.take k) + (s[k].toNat - 48)) := hsn
          have HL : Hid (Lx.val (s.data.toList.take (k + 1)) ≤ Lx.val s.data.toList) := hle
          clear hsn hle hdk
          obtain ⟨v1, HE⟩ : ∃ v1, Hid (Lx.val (s.data.toList.take (k + 1)) = v1) := ⟨_, rfl⟩
          rw [HE.out] at HS HL
          generalize Lx.val (s.data.toList.take k) = v at HS hv ⊢
          have hv' : (v : Int) ≤ 2147483647 := by omega
          have hv0 : (0 : Int) ≤ v := by omega
          have hw : IntKind.u8.wrap ((s[k].toNat : Int) - 48) = (s[k].toNat : Int) - 48 := by
            simp [IntKind.wrap, IntKind.signed, IntKind.bits]; omega
          by_cases hbig : v1 ≤ 2147483647
          · have hbig' : 10 * (v : Int) + ((s[k].toNat : Int) - 48) ≤ 2147483647 := by have := HS.out; omega
            go_wp2
            go_round
            case rel => exact ⟨k + 1, by omega, by go_num, by rw [HE.out]; exact congrArg (Value.int .i64) (by have := HS.out; omega), by rw [HE.out]; exact hbig⟩
            case measure => simp [intOf]; omega
          · have hbig' : ¬ 10 * (v : Int) + ((s[k].toNat : Int) - 48) ≤ 2147483647 := by have := HS.out; omega
            have HV : Hid (valV s.data.toList = .tuple #[.int .i64 0, .bool false]) := by
              show _ = _
              unfold valV
              rw [HB.out]
              have := HL.out
              simp; omega
            go_wp2
            go_ret2
            exact ⟨by rw [HV.out]; rfl, rfl⟩
        · have hlt' : ¬ (k : Int) < s.size := by omega
          have HT : Hid (s.data.toList.take k = s.data.toList) := List.take_of_length_le (by rw [size_list]; omega)
          rw [HT.out] at hv ⊢
          have HV : Hid (valV s.data.toList = .tuple #[.int .i64 (Lx.val s.data.toList : Int), .bool true]) := by
            show _ = _
            unfold valV
            rw [HB.out]
            simp [hv]
          go_wp2
          go_ret2
          exact ⟨by rw [HV.out]; rfl, rfl⟩
end Go.Proofs.YtoeolonbkeldoaaDoor.L
