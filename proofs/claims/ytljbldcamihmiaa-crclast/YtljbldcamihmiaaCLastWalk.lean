/- The walk of CrcLast. -/
import Derived.Test.YtljbldcamihmiaaCAwake
namespace Go.Proofs.Ytljbldcamihmiaa
open Go.RowKit
attribute [local go_sem ↓] Go.wp_at_zero Go.wp_at_succ
theorem conv1 (W : World) (b : Nat) (a : UInt8) (h : W.cell? ⟨b, 0, none⟩ = some (.int .u8 (a.toNat : Int))) : (convert 35 9 (.slice (some ⟨b, 0, none⟩) 1 1)).run Try.prog W = .ok (.string ⟨#[a]⟩) W := by
  refine run_convert_bytes_back (P := Try.prog) W 35 9 5 ⟨b, 0, none⟩ 1 [a] Try.underlying35 Try.underlying5 Try.underlying9 ?_
  intro j hj
  have hj' : j < 1 := hj
  obtain rfl : j = 0 := by omega
  simpa [Addr.add] using h
theorem held_alloc {w W : World} {o : Obj} (h : Hid (Below w.heap.size w W)) : Hid (Below w.heap.size w (W.alloc o)) := h.out.alloc h.out.size o
theorem held_drew {w W : World} (h : Hid (Below w.heap.size w W)) : Hid (Below w.heap.size w W.drew) := h.out.drew
/-- The sum, while what was there is held. -/
theorem sum_held (w : World) : ∀ W (T : ByteArray), T.size ≤ 1000 → Hid (Below w.heap.size w W) → Calls Try.prog 10 #[.string T] W fun e w' => e = .returned (.int .u32 ((Cm.sum T.data.toList : Nat) : Int)) ∧ Hid (Below w.heap.size w w') ∧ ∀ p : Addr, p.block < W.heap.size → w'.cell? p = W.cell? p := by
  intro W T hT hW
  exact (sum_any T W (by unfold maxLen; omega)).mono fun _ _ ⟨he, hb⟩ => ⟨he, below_chain hW hb, fun p hp => hb.cell hp⟩
theorem one_more (s : ByteArray) (a : UInt8) (hs : s.size ≤ 300) : ∃ sa TA : ByteArray, (∀ W b, W.cell? ⟨b, 0, none⟩ = some (.int .u8 (a.toNat : Int)) → (convert 35 9 (.slice (some ⟨b, 0, none⟩) 1 1)).run Try.prog W = .ok (.string sa) W) ∧
    sa.size = 1 ∧ s ++ sa = TA ∧ TA.size ≤ 1000 ∧ TA.data.toList = s.data.toList ++ [a] := by
  have e : (s ++ ByteArray.mk #[a]).data.toList = s.data.toList ++ [a] := by rw [ByteArray.data_append]; simp
  have l : (s ++ ByteArray.mk #[a]).size = s.size + 1 := by rw [ByteArray.size_append]; rfl
  exact ⟨ByteArray.mk #[a], s ++ ByteArray.mk #[a], fun W b h => conv1 W b a h, rfl, rfl, by omega, e⟩
/-- A text with its sum: its sum is what each such text has. -/
theorem put_sum (w : World) (s : ByteArray) (hs : s.size ≤ 300) : ∃ P : ByteArray, Hid (∀ W, Hid (Below w.heap.size w W) → Calls Try.prog 12 #[.string s] W fun e w' => e = .returned (.string P) ∧ Hid (Below w.heap.size w w')) ∧ P.size ≤ 1000 ∧ Cm.sum P.data.toList = Cm.rest ^^^ Cm.ones := by
  refine ⟨⟨(Cm.put s.data.toList).toArray⟩, ?_, ?_, Cm.sum_put _⟩
  · delta Hid
    intro W hW
    exact (put_any s W (by omega)).mono fun _ _ ⟨he, hb⟩ => ⟨he, below_chain hW hb⟩
  · have h1 : (ByteArray.mk (Cm.put s.data.toList).toArray).size = (Cm.put s.data.toList).length := List.size_toArray ..
    have h2 := Cm.put_length s.data.toList
    have h3 := size_list s
    omega
set_option maxRecDepth 100000 in
set_option maxHeartbeats 1000000 in
theorem last_walk (s t : ByteArray) (a b : UInt8) (hs : s.size ≤ maxLen) (ht : t.size ≤ maxLen) (w : World) :
    Calls Try.prog 6 #[.string s, .string t, .int .u8 (a.toNat : Int), .int .u8 (b.toNat : Int)] w fun e w' => e = .returned (.bool true) ∧ Below w.heap.size w w' := by
  unfold maxLen at ht hs
  by_cases k1 : 300 < s.size
  · go_enter Try.func6, Try.ntmps6
    go_wp2_with fail
    refine (awake_any _).mono ?_
    rintro e w1 ⟨rfl, hb⟩
    go_wp2
    go_ret
    exact ⟨rfl, hb⟩
  by_cases k2 : 300 < t.size
  · go_enter Try.func6, Try.ntmps6
    go_wp2_with fail
    refine (awake_any _).mono ?_
    rintro e w1 ⟨rfl, hb⟩
    go_wp2
    go_ret
    exact ⟨rfl, hb⟩
  obtain ⟨sa, TA, hca, l1, hTA, lTA, eTA⟩ := one_more s a (by omega)
  obtain ⟨sb, TB, hcb, l2, hTB, lTB, eTB⟩ := one_more s b (by omega)
  have G1 : Hid (_) := sum_held w
  have hxy : ((Cm.sum TA.data.toList : Int) == (Cm.sum TB.data.toList : Int)) = ((a.toNat : Int) == (b.toNat : Int)) := by
    rw [eTA, eTB]
    by_cases h : a = b
    · rw [h]; simp
    · have h1 : Cm.sum (s.data.toList ++ [a]) ≠ Cm.sum (s.data.toList ++ [b]) := fun e => h (Cm.sum_last _ _ _ e)
      have h2 : a.toNat ≠ b.toNat := fun e => h (UInt8.toNat_inj.mp e)
      rw [show ((Cm.sum (s.data.toList ++ [a]) : Int) == (Cm.sum (s.data.toList ++ [b]) : Int)) = false by rw [beq_eq_false_iff_ne]; omega]
      symm; rw [beq_eq_false_iff_ne]; omega
  obtain ⟨x, hx⟩ : ∃ x, Cm.sum TA.data.toList = x := ⟨_, rfl⟩
  obtain ⟨y, hy⟩ : ∃ y, Cm.sum TB.data.toList = y := ⟨_, rfl⟩
  rw [hx, hy] at hxy
  clear eTA eTB
  obtain ⟨P, hP, lP, zP⟩ := put_sum w s (by omega)
  obtain ⟨R, hR, lR, zR⟩ := put_sum w t (by omega)
  generalize Cm.rest ^^^ Cm.ones = z at zP zR
  have G7 : Hid (∀ W, Hid (Below w.heap.size w W) → Calls Try.prog 7 #[] W fun e w' => e = .returned (.bool true) ∧ Hid (Below w.heap.size w w')) := fun W hW => (awake_any W).mono fun _ _ ⟨he, hb⟩ => ⟨he, below_chain hW hb⟩
  have q1 : w.heap.size < w.heap.size + 1 + 1 := by omega
  have q2 : w.heap.size < w.heap.size + 2 := by omega
  have m3 : ¬ (9223372036854775807 < s.size + 1) := by omega
  have k1' : ¬ ((300 : Int) < (s.size : Int)) := by omega
  have k2' : ¬ ((300 : Int) < (t.size : Int)) := by omega
  go_enter Try.func6, Try.ntmps6
  go_wp2
  have hW0 : Hid (Below w.heap.size w w) := Below.refl _ _
  rename_i Q K hKd
  have hK : ∀ (v4 v5 v6 v7 v8 v11 v12 v13 v14 v15 v16 v17 v18 v19 v20 v21 v22 v23 v24 v25 v26 v27 v28 v29 v30 v31 v32 v33 v34 v35 v36 v37 v38 v39 v40 v41 v42 v43 v44 v45 v46 v47 v48 v49 v50 : Value) (W : World), Hid (Below w.heap.size w W) → K { tmps := #[.string s, .string t, .int .u8 (a.toNat : Int), .int .u8 (b.toNat : Int), v4, v5, v6, v7, v8, .int .u32 (x : Int), .int .u32 (y : Int), v11, v12, v13, v14, v15, v16, v17, v18, v19, v20, v21, v22, v23, v24, v25, v26, v27, v28, v29, v30, v31, v32, v33, v34, v35, v36, v37, v38, v39, v40, v41, v42, v43, v44, v45, v46, v47, v48, v49, v50], defers := [] } W := by
    clear hca hcb hTA hTB lTA lTB
    intros
    rename_i W hW
    apply hKd
    go_wp2_with fail
    refine Calls.mono (hP.out _ (by assumption)) ?_
    rintro e w1 ⟨rfl, hW1⟩
    go_wp2_with fail
    refine Calls.mono (G1.out _ _ lP (by assumption)) ?_
    rintro e w2 ⟨rfl, hW2, hk⟩
    clear hk
    go_wp2_with fail
    refine Calls.mono (hR.out _ (by assumption)) ?_
    rintro e w3 ⟨rfl, hW3⟩
    go_wp2_with fail
    refine Calls.mono (G1.out _ _ lR (by assumption)) ?_
    rintro e w4 ⟨rfl, hW4, hk⟩
    clear hk
    go_wp2_with fail
    refine Calls.mono (G7.out _ (by assumption)) ?_
    rintro e w5 ⟨rfl, hW5⟩
    go_wp2
    go_ret
    exact ⟨rfl, hW5.out⟩
  clear hKd hP hR G7 zP zR lP lR
  go_region_with (first | (go_at_call 10; refine Calls.mono (G1.out _ _ (by first | exact lTA | exact lTB) (by repeat (first | assumption | refine held_alloc ?_ | refine held_drew ?_))) ?_; rintro e w7 ⟨rfl, hW7, hk7⟩))
  all_goals exact hK _ _ _ _ _ _ _ _ _ _ _ _ _ _ _ _ _ _ _ _ _ _ _ _ _ _ _ _ _ _ _ _ _ _ _ _ _ _ _ _ _ _ _ _ _ _ (by assumption)
theorem u8_of {a : Int} (h0 : 0 ≤ a) (h1 : a ≤ 255) : ∃ x : UInt8, a = (x.toNat : Int) := ⟨UInt8.ofNat a.toNat, by rw [Cm.toNat_ofNat (by omega)]; omega⟩
theorem last_walk' (s t : ByteArray) (a b : Int) (hs : s.size ≤ maxLen) (ht : t.size ≤ maxLen) (ha : 0 ≤ a ∧ a ≤ 255) (hb : 0 ≤ b ∧ b ≤ 255) (w : World) :
    Calls Try.prog 6 #[.string s, .string t, .int .u8 a, .int .u8 b] w fun e w' => e = .returned (.bool true) ∧ Below w.heap.size w w' := by
  obtain ⟨x, rfl⟩ := u8_of ha.1 ha.2
  obtain ⟨y, rfl⟩ := u8_of hb.1 hb.2
  exact last_walk s t x y hs ht w
end Go.Proofs.Ytljbldcamihmiaa
