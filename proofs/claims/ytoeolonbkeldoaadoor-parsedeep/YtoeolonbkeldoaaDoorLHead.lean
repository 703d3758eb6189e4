/- lex.head, lex.begins, lex.commentSize, lex.value by their contracts. -/
import Derived.Test.YtoeolonbkeldoaaDoorLSmall
namespace Go.Proofs.YtoeolonbkeldoaaDoor.L
open Go.RowKit
set_option linter.unusedVariables false
theorem mk_list (s : ByteArray) : (⟨s.data.toList.toArray⟩ : ByteArray) = s := by
  obtain ⟨⟨l⟩⟩ := s
  rfl
theorem empty_of {s : ByteArray} (h : s.size = 0) : s = ⟨#[]⟩ := by
  obtain ⟨⟨l⟩⟩ := s
  have : l.length = 0 := h
  rw [List.length_eq_zero_iff.1 this]
set_option maxHeartbeats 400000 in
theorem head_digit (s : ByteArray) (w : World) (hs : s.size ≤ 281474976710656) :
    Calls Tryd.prog 36 #[.string s, .func (.func 37) #[] #[]] w fun e w' => e = .returned (.string ⟨(s.data.toList.take (Lx.hd Lx.digit s.data.toList)).toArray⟩) ∧ w' = w := by
  go_enter Tryd.func36, Tryd.ntmps36
  go_wp2
  go_loop [8] (fun i => ∃ k : Nat, k ≤ s.size ∧ i = .int .i64 k ∧ Hid (∀ j (h : j < s.size), j < k → Lx.digit s[j] = true)) (fun i => s.size - (intOf i).toNat)
  case atStart => exact ⟨0, Nat.zero_le _, rfl, fun j h h' => absurd h' (by omega)⟩
  case round =>
    obtain ⟨k, hk, rfl, HA⟩ := hrel
    by_cases hlt : k < s.size
    · have hlt' : (k : Int) < s.size := by omega
      have H : Hid (_) := fun W => digit_any s[k] W
      by_cases hp : Lx.digit s[k] = true
      · rw [hp] at H
        have HP : Hid (_) := hp
        clear hp
        go_wp2_with (go_at_call 37; refine Calls.mono (H.out _) ?_; rintro e w' ⟨rfl, rfl⟩)
        go_round
        case rel => exact ⟨k + 1, by omega, by go_num, fun j h h' => by
          by_cases e : j = k
          · subst e; exact HP.out
          · exact HA.out j h (by omega)⟩
        case measure => simp [intOf]; omega
      · have hp' : Lx.digit s[k] = false := by simpa using hp
        rw [hp'] at H
        have HP : Hid (Lx.hd Lx.digit s.data.toList = k) := Lx.hd_eq _ _ _ (by rw [size_list]; exact hk) (fun j h h' => HA.out j (by rw [size_list] at h; exact h) h') (fun h => hp')
        clear hp hp'
        go_wp2_with (go_at_call 37; refine Calls.mono (H.out _) ?_; rintro e w' ⟨rfl, rfl⟩)
        go_ret
        refine ⟨?_, rfl⟩
        rw [HP.out]
        have := extract_eq s 0 k
        rw [Nat.zero_add, List.drop_zero] at this
        exact congrArg (fun x => Ending.returned (.string x)) this
    · have hlt' : ¬ (k : Int) < s.size := by omega
      have HP : Hid (Lx.hd Lx.digit s.data.toList = s.size) := Lx.hd_eq _ _ _ (by rw [size_list]; exact Nat.le_refl _) (fun j h h' => HA.out j (by rw [size_list] at h; exact h) (by omega)) (fun h => absurd h (by rw [size_list]; omega))
      go_wp2
      go_ret
      refine ⟨?_, rfl⟩
      rw [HP.out, ← size_list, List.take_length, mk_list]
      rfl
set_option maxHeartbeats 400000 in
theorem head_ofName (s : ByteArray) (w : World) (hs : s.size ≤ 281474976710656) :
    Calls Tryd.prog 36 #[.string s, .func (.func 40) #[] #[]] w fun e w' => e = .returned (.string ⟨(s.data.toList.take (Lx.hd Lx.ofName s.data.toList)).toArray⟩) ∧ w' = w := by
  go_enter Tryd.func36, Tryd.ntmps36
  go_wp2
  go_loop [8] (fun i => ∃ k : Nat, k ≤ s.size ∧ i = .int .i64 k ∧ Hid (∀ j (h : j < s.size), j < k → Lx.ofName s[j] = true)) (fun i => s.size - (intOf i).toNat)
  case atStart => exact ⟨0, Nat.zero_le _, rfl, fun j h h' => absurd h' (by omega)⟩
  case round =>
    obtain ⟨k, hk, rfl, HA⟩ := hrel
    by_cases hlt : k < s.size
    · have hlt' : (k : Int) < s.size := by omega
      have H : Hid (_) := fun W => ofName_any s[k] W
      by_cases hp : Lx.ofName s[k] = true
      · rw [hp] at H
        have HP : Hid (_) := hp
        clear hp
        go_wp2_with (go_at_call 40; refine Calls.mono (H.out _) ?_; rintro e w' ⟨rfl, rfl⟩)
        go_round
        case rel => exact ⟨k + 1, by omega, by go_num, fun j h h' => by
          by_cases e : j = k
          · subst e; exact HP.out
          · exact HA.out j h (by omega)⟩
        case measure => simp [intOf]; omega
      · have hp' : Lx.ofName s[k] = false := by simpa using hp
        rw [hp'] at H
        have HP : Hid (Lx.hd Lx.ofName s.data.toList = k) := Lx.hd_eq _ _ _ (by rw [size_list]; exact hk) (fun j h h' => HA.out j (by rw [size_list] at h; exact h) h') (fun h => hp')
        clear hp hp'
        go_wp2_with (go_at_call 40; refine Calls.mono (H.out _) ?_; rintro e w' ⟨rfl, rfl⟩)
        go_ret
        refine ⟨?_, rfl⟩
        rw [HP.out]
        have := extract_eq s 0 k
        rw [Nat.zero_add, List.drop_zero] at this
        exact congrArg (fun x => Ending.returned (.string x)) this
    · have hlt' : ¬ (k : Int) < s.size := by omega
      have HP : Hid (Lx.hd Lx.ofName s.data.toList = s.size) := Lx.hd_eq _ _ _ (by rw [size_list]; exact Nat.le_refl _) (fun j h h' => HA.out j (by rw [size_list] at h; exact h) (by omega)) (fun h => absurd h (by rw [size_list]; omega))
      go_wp2
      go_ret
      refine ⟨?_, rfl⟩
      rw [HP.out, ← size_list, List.take_length, mk_list]
      rfl
set_option maxHeartbeats 400000 in
theorem begins_ofName (s : ByteArray) (w : World) (hs : s.size ≤ 281474976710656) :
    Calls Tryd.prog 39 #[.string s, .func (.func 40) #[] #[]] w fun e w' => e = .returned (.bool (Lx.beg Lx.ofName s.data.toList)) ∧ w' = w := by
  by_cases h0 : s.size = 0
  · have e : s = ⟨#[]⟩ := empty_of h0
    subst e
    go_enter Tryd.func39, Tryd.ntmps39
    go_wp2
    go_ret
    exact ⟨rfl, rfl⟩
  · have hpos : 0 < s.size := by omega
    have HB : Hid (Lx.beg Lx.ofName s.data.toList = Lx.ofName s[0]) := by
      show _ = _
      have := at_list s 0 hpos
      cases hl : s.data.toList with
      | nil => have := size_list s; rw [hl] at this; simp at this; omega
      | cons c l => simp only [Lx.beg]; rw [← this]; congr 1; simp [hl]
    have hne : s.toList.isEmpty = false := by rw [ByteArray.toList_eq]; cases hl : s.data.toList with
      | nil => have := size_list s; rw [hl] at this; simp at this; omega
      | cons c l => rfl
    have H : Hid (_) := fun W => ofName_any s[0] W
    rw [HB.out]
    clear HB h0
    generalize Lx.ofName s[0] = b at H ⊢
    go_enter Tryd.func39, Tryd.ntmps39
    go_wp2_with (go_at_call 40; refine Calls.mono (H.out _) ?_; rintro e w' ⟨rfl, rfl⟩)
    go_ret
    exact ⟨rfl, rfl⟩
set_option maxHeartbeats 400000 in
theorem begins_letter (s : ByteArray) (w : World) (hs : s.size ≤ 281474976710656) :
    Calls Tryd.prog 39 #[.string s, .func (.func 45) #[] #[]] w fun e w' => e = .returned (.bool (Lx.beg Lx.letter s.data.toList)) ∧ w' = w := by
  by_cases h0 : s.size = 0
  · have e : s = ⟨#[]⟩ := empty_of h0
    subst e
    go_enter Tryd.func39, Tryd.ntmps39
    go_wp2
    go_ret
    exact ⟨rfl, rfl⟩
  · have hpos : 0 < s.size := by omega
    have HB : Hid (Lx.beg Lx.letter s.data.toList = Lx.letter s[0]) := by
      show _ = _
      have := at_list s 0 hpos
      cases hl : s.data.toList with
      | nil => have := size_list s; rw [hl] at this; simp at this; omega
      | cons c l => simp only [Lx.beg]; rw [← this]; congr 1; simp [hl]
    have hne : s.toList.isEmpty = false := by rw [ByteArray.toList_eq]; cases hl : s.data.toList with
      | nil => have := size_list s; rw [hl] at this; simp at this; omega
      | cons c l => rfl
    have H : Hid (_) := fun W => letter_any s[0] W
    rw [HB.out]
    clear HB h0
    generalize Lx.letter s[0] = b at H ⊢
    go_enter Tryd.func39, Tryd.ntmps39
    go_wp2_with (go_at_call 45; refine Calls.mono (H.out _) ?_; rintro e w' ⟨rfl, rfl⟩)
    go_ret
    exact ⟨rfl, rfl⟩
end Go.Proofs.YtoeolonbkeldoaaDoor.L
