/- The law LexTexts: its walk. -/
import Derived.Test.YtbciecmikcloaaaDoorLAllWalk
import Derived.Test.YtbciecmikcloaaaDoorLQuote
namespace Go.Proofs.YtbciecmikcloaaaDoor.L
open Go.RowKit
set_option linter.unusedVariables false
theorem str_self (s : ByteArray) : (⟨s.data.toList.toArray⟩ : ByteArray).toList = s.toList := by rw [mk_list]
set_option maxRecDepth 100000 in
set_option maxHeartbeats 4000000 in
theorem lexTexts_core (s b : ByteArray) (w : World) (z1 z2 : Nat) (Q : ByteArray) (hs : ¬ 200 < s.size) (hb : ¬ 50 < b.size) (hQ : Q.size ≤ 500) (ok : Bool) (hok : ok = true → ∀ j (h : j < s.size), (32 ≤ s[j].toNat ∧ s[j].toNat ≤ 126) ∨ s[j].toNat = 10)
    (hok2 : ok = false → ∃ j, ∃ h : j < s.size, ¬ ((32 ≤ s[j].toNat ∧ s[j].toNat ≤ 126) ∨ s[j].toNat = 10))
    (HQ : Hid (∀ W, Below w.heap.size w W → Calls Tryd.prog 18 #[.string s] W fun e w' => e = .returned (.string Q) ∧ Below w.heap.size w w' ∧ Below W.heap.size W w'))
    (HN1 : Hid (ok = true → ∀ W, Below w.heap.size w W → Calls Tryd.prog 10 #[.string (Q ++ b), .int .i64 0] W fun e w' => e = .returned (.agg #[.int .i64 2, .string s, .int .i64 0, .int .i64 0, .bool false]) ∧ Below w.heap.size w w'))
    (HN2 : Hid (ok = true → ∀ W, Below w.heap.size w W → Calls Tryd.prog 10 #[.string (⟨#[32, 32, 10]⟩ ++ Q), .int .i64 1] W fun e w' => e = .returned (.agg #[.int .i64 2, .string s, .int .i64 0, .int .i64 3, .bool true]) ∧ Below w.heap.size w w' ∧ Below W.heap.size W w'))
    (HK : Hid (∀ W, Below w.heap.size w W → Calls Tryd.prog 9 #[] W fun e w' => e = .returned (.bool true) ∧ Below w.heap.size w w')) :
    Calls Tryd.prog 6 #[.string s, .string b] w fun e w' => e = .returned (.bool true) ∧ Below w.heap.size w w' := by
  have hs' : ¬ (200 : Int) < s.size := by omega
  have hb' : ¬ (50 : Int) < b.size := by omega
  have hf1 : ¬ 9223372036854775807 < Q.size + b.size := by omega
  have hf2 : ¬ 9223372036854775807 < 3 + Q.size := by omega
  have hf3 : ¬ 9223372036854775807 < (⟨#[32, 32, 10]⟩ : ByteArray).size + Q.size := by show ¬ _ < 3 + Q.size; omega
  have HOK : Hid (_) := hok
  have HOK2 : Hid (_) := hok2
  clear hok hok2
  go_enter Tryd.func6, Tryd.ntmps6
  go_wp2_with fail
  go_loop [5] (fun i => ∃ k : Nat, k ≤ s.size ∧ i = .int .i64 (k : Int) ∧ Hid (∀ j (h : j < s.size), j < k → (32 ≤ s[j].toNat ∧ s[j].toNat ≤ 126) ∨ s[j].toNat = 10)) (fun i => s.size - (intOf i).toNat)
  case atStart => exact ⟨0, by omega, rfl, fun j h h' => absurd h' (by omega)⟩
  case round =>
    obtain ⟨k, hk, rfl, HA⟩ := hrel
    by_cases hlt : k < s.size
    · have hlt' : (k : Int) < s.size := by omega
      have HA' : Hid ((32 ≤ s[k].toNat ∧ s[k].toNat ≤ 126) ∨ s[k].toNat = 10 → Hid (∀ j (h : j < s.size), j < k + 1 → (32 ≤ s[j].toNat ∧ s[j].toNat ≤ 126) ∨ s[j].toNat = 10)) := fun h0 j h h' => by
        by_cases e : j = k
        · subst e; exact h0
        · exact HA.out j h (by omega)
      by_cases h1 : s[k].toNat < 32
      · have h1' : (s[k].toNat : Int) < 32 := by omega
        by_cases h3 : s[k].toNat = 10
        · have e3 : ((s[k].toNat : Int) == 10) = true := by rw [beq_iff_eq]; omega
          have HN : Hid (_) := HA'.out (.inr h3)
          clear HA HA' HQ HN1 HN2 HK h3
          go_wp2_with fail
          go_round
          case rel => exact ⟨k + 1, by omega, by go_num, HN⟩
          case measure => simp [intOf]; omega
        · have e3 : ((s[k].toNat : Int) == 10) = false := by rw [beq_eq_false_iff_ne]; omega
          clear HA HA' HQ HN1 HN2 h3
          go_wp2_with fail
          refine Calls.mono (HK.out _ (Below.refl _ _)) ?_
          rintro e w1 ⟨rfl, hb1⟩
          go_wp2_with fail
          go_ret
          exact ⟨rfl, hb1⟩
      have h1' : ¬ (s[k].toNat : Int) < 32 := by omega
      by_cases h2 : 126 < s[k].toNat
      · have h2' : (126 : Int) < s[k].toNat := by omega
        have e3 : ((s[k].toNat : Int) == 10) = false := by rw [beq_eq_false_iff_ne]; omega
        clear HA HA' HQ HN1 HN2
        go_wp2_with fail
        refine Calls.mono (HK.out _ (Below.refl _ _)) ?_
        rintro e w1 ⟨rfl, hb1⟩
        go_wp2_with fail
        go_ret
        exact ⟨rfl, hb1⟩
      · have h2' : ¬ (126 : Int) < s[k].toNat := by omega
        have HN : Hid (_) := HA'.out (.inl ⟨by omega, by omega⟩)
        clear HA HA' HQ HN1 HN2 HK
        go_wp2_with fail
        go_round
        case rel => exact ⟨k + 1, by omega, by go_num, HN⟩
        case measure => simp [intOf]; omega
    · have hlt' : ¬ (k : Int) < s.size := by omega
      have hok : ok = true := by
        cases ok with
        | true => rfl
        | false =>
          obtain ⟨j, h, hn⟩ := HOK2.out rfl
          exact absurd (HA.out j h (by omega)) hn
      have HM1 : Hid (_) := HN1.out hok
      have HM2 : Hid (_) := HN2.out hok
      clear HA HOK HOK2 HN1 HN2 hok
      go_wp2_with fail
      refine Calls.mono (HQ.out _ (Below.refl _ _)) ?_
      rintro e w1 ⟨rfl, hb1, _⟩
      go_wp2_with fail
      refine Calls.mono (HM1.out _ hb1) ?_
      rintro e w2 ⟨rfl, hb2⟩
      clear HM1 hb1
      have hz2 := hb2.size
      have hX : (w2.alloc (.cells #[.int .i64 2, .string s, .int .i64 0, .int .i64 0, .bool false] 24)).heap[w2.heap.size]? = some (.cells #[.int .i64 2, .string s, .int .i64 0, .int .i64 0, .bool false] 24 (0, 0)) := Array.getElem?_push_size
      go_wp2_with fail
      refine Calls.mono (HQ.out _ (hb2.alloc hz2 _)) ?_
      rintro e w3 ⟨rfl, hb3, hc3⟩
      have hz3 := hc3.size
      rw [alloc_size] at hz3
      have hX3 := (hc3.block w2.heap.size (by rw [alloc_size]; omega)).trans hX
      clear HQ hc3 hX hb2
      go_wp2_with fail
      refine Calls.mono (HM2.out _ hb3) ?_
      rintro e w4 ⟨rfl, hb4, hc4⟩
      have hz4 := hc4.size
      have hX4 := (hc4.block w2.heap.size (by omega)).trans hX3
      clear HM2 hc4 hX3 hb3
      obtain ⟨q0, q1, q2, q3, q4, f0, f1, f2, f3, f4, hlt4⟩ := cells5h hX4
      clear hX4
      go_wp2_with fail
      refine Calls.mono (HK.out _ (hb4.alloc (by omega) _)) ?_
      rintro e w5 ⟨rfl, hb5⟩
      go_wp2_with fail
      go_ret
      exact ⟨rfl, hb5⟩
theorem lexTexts_walk (s b : ByteArray) (w : World) (hg : Sig w) :
    Calls Tryd.prog 6 #[.string s, .string b] w fun e w' => e = .returned (.bool true) ∧ Below w.heap.size w w' := by
  by_cases h1 : 200 < s.size
  · have h1' : (200 : Int) < s.size := by omega
    have HK : Hid (_) := kit_awake hg
    clear hg
    go_enter Tryd.func6, Tryd.ntmps6
    go_wp2_with fail
    refine Calls.mono (HK.out _ (Below.refl _ _)) ?_
    rintro e w1 ⟨rfl, hb1⟩
    go_wp2_with fail
    go_ret
    exact ⟨rfl, hb1⟩
  by_cases h2 : 50 < b.size
  · have h1' : ¬ (200 : Int) < s.size := by omega
    have h2' : (50 : Int) < b.size := by omega
    have HK : Hid (_) := kit_awake hg
    clear hg
    go_enter Tryd.func6, Tryd.ntmps6
    go_wp2_with fail
    refine Calls.mono (HK.out _ (Below.refl _ _)) ?_
    rintro e w1 ⟨rfl, hb1⟩
    go_wp2_with fail
    go_ret
    exact ⟨rfl, hb1⟩
  have hq : (Lx.qt s.data.toList).length ≤ 500 := by
    have := Lx.body_len s.data.toList
    rw [size_list] at this
    unfold Lx.qt
    simp only [List.length_cons, List.length_append, List.length_nil]; omega
  have hok : (∀ j (h : j < s.size), (32 ≤ s[j].toNat ∧ s[j].toNat ≤ 126) ∨ s[j].toNat = 10) → ∀ c ∈ s.data.toList, (32 ≤ c.toNat ∧ c.toNat ≤ 126) ∨ c.toNat = 10 := fun h c hc => by
    obtain ⟨j, hj, rfl⟩ := List.getElem_of_mem hc
    rw [size_list] at hj
    exact h j hj
  refine lexTexts_core s b w 0 0 ⟨(Lx.qt s.data.toList).toArray⟩ h1 h2 hq (decide (∀ j (h : j < s.size), (32 ≤ s[j].toNat ∧ s[j].toNat ≤ 126) ∨ s[j].toNat = 10)) (fun h => of_decide_eq_true h) (fun h => ?_)
    (fun W hW => (rquote_any s W (by omega)).mono (by rintro e w' ⟨rfl, hb⟩; exact ⟨rfl, hW.trans (hb.mono hW.size), hb⟩)) (fun h W hW => ?_) (fun h W hW => ?_) (kit_awake hg)
  · have := of_decide_eq_false h
    simp only [Classical.not_forall] at this
    exact this
  · obtain ⟨z, hz⟩ := tok_quoted s.data.toList b.data.toList (hok (of_decide_eq_true h))
    have e : (⟨(Lx.qt s.data.toList).toArray⟩ ++ b : ByteArray).data.toList = Lx.qt s.data.toList ++ b.data.toList := by simp
    have hn := Next_any (⟨(Lx.qt s.data.toList).toArray⟩ ++ b) 0 W (by rw [ByteArray.size_append]; show (Lx.qt s.data.toList).length + _ ≤ _; omega) (hg.below hW)
    rw [show plc 0 (⟨(Lx.qt s.data.toList).toArray⟩ ++ b : ByteArray).size = 0 by simp [plc], e, hz] at hn
    refine hn.mono ?_
    rintro e w' ⟨rfl, hb⟩
    exact ⟨by simp [tkA], hW.trans (hb.mono hW.size)⟩
  · obtain ⟨z, hz⟩ := tok_quoted3 s.data.toList (hok (of_decide_eq_true h))
    have e : (⟨#[32, 32, 10]⟩ ++ ⟨(Lx.qt s.data.toList).toArray⟩ : ByteArray).data.toList = [32, 32, 10] ++ Lx.qt s.data.toList := by simp
    have hn := Next_any (⟨#[32, 32, 10]⟩ ++ ⟨(Lx.qt s.data.toList).toArray⟩) 1 W (by rw [ByteArray.size_append]; show 3 + (Lx.qt s.data.toList).length ≤ _; omega) (hg.below hW)
    rw [show plc 1 (⟨#[32, 32, 10]⟩ ++ ⟨(Lx.qt s.data.toList).toArray⟩ : ByteArray).size = 1 by (unfold plc; rw [ByteArray.size_append]; show min 1 (3 + _) = 1; omega), e, hz] at hn
    refine hn.mono ?_
    rintro e w' ⟨rfl, hb⟩
    exact ⟨by simp [tkA], hW.trans (hb.mono hW.size), hb⟩
end Go.Proofs.YtbciecmikcloaaaDoor.L
