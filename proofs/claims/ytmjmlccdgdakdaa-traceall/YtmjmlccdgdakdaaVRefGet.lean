/- The reference s Get by its contract. -/
import Derived.Test.YtmjmlccdgdakdaaVRefPut
import Derived.Deep.RegionHeld3
import Derived.Deep.DrawnRows
import Derived.OpenShut
namespace Go.Proofs.Ytmjmlccdgdakdaa.V
open Go.RowKit
attribute [local go_sem ↓] Go.wp_at_zero Go.wp_at_succ
theorem and_one (U : Nat) (h : U < 18446744073709551616) : bits .and .u64 (U : Int) 1 = (U : Int) % 2 := by
  have e := (bits_nat .u64 64 (by decide) wraps_u64 U 1 (by omega) (by omega)).1
  rw [Nat.and_one_is_mod] at e
  have e2 : bits .and .u64 (U : Int) 1 = ((U % 2 : Nat) : Int) := e
  rw [e2]; omega
theorem or_some (acc c : Int) (i : Nat) : ∃ U : Nat, bits .or .u64 acc (IntKind.u64.wrap (IntKind.u64.wrap (bits .and .u8 c 127) * 2 ^ (7 * i))) = (U : Int) ∧ U < 18446744073709551616 := by
  have h := bounds_u64 (wf_bits .or .u64 acc (IntKind.u64.wrap (IntKind.u64.wrap (bits .and .u8 c 127) * 2 ^ (7 * i))))
  exact ⟨(bits .or .u64 acc (IntKind.u64.wrap (IntKind.u64.wrap (bits .and .u8 c 127) * 2 ^ (7 * i)))).toNat, by omega, by omega⟩
theorem rputO (n : Int) (w : World) (h1 : -9223372036854775808 ≤ n) (h2 : n ≤ 9223372036854775807) :
    Calls Try.prog 24 #[.int .i64 n] w fun e w' => e = .returned (.string ⟨(Vn.put n).toArray⟩) ∧ Below w.heap.size w w' := rput_any n w h1 h2
theorem cmp_yes {s : ByteArray} {i0 c V : Nat} (n : Int) (hn : n = Vn.unzig V) (hu : Vn.getU (s.data.toList.drop i0) = (V, c, 0)) (P : ByteArray) (hP : P = ⟨(Vn.put n).toArray⟩) : (P.toList == (s.extract i0 (i0 + c)).toList) = true := by
  have h := (Vn.getU_ok hu).2.2.2.2
  have e : P = s.extract i0 (i0 + c) := by
    rw [hP, extract_eq, ← h, hn]
    unfold Vn.put
    rw [Vn.zig_unzig]
  rw [e]; simp
theorem cmp_no {s : ByteArray} {i0 c : Nat} (n : Int) (h1 : -9223372036854775808 ≤ n) (h2 : n ≤ 9223372036854775807) (hu : Vn.getU (s.data.toList.drop i0) = (0, 0, 4)) (P : ByteArray) (hP : P = ⟨(Vn.put n).toArray⟩) : (P.toList == (s.extract i0 (i0 + c)).toList) = false := by
  rw [beq_eq_false_iff_ne]
  intro e0
  have e := Go.WideShapes.bytes_inj (by rw [← ByteArray.toList_eq, ← ByteArray.toList_eq]; exact e0 : P.data.toList = (s.extract i0 (i0 + c)).data.toList)
  rw [hP, extract_eq] at e
  have e1 : Vn.put n = (s.data.toList.drop i0).take c := by
    have := congrArg (fun x : ByteArray => x.data.toList) e
    simpa using this
  have h := Vn.getU_put n ((s.data.toList.drop i0).drop c) h1 h2
  rw [e1, List.take_append_drop, hu] at h
  simp at h
theorem res_cells {w w1 : World} (hB : Below (w.heap.size + 1) (w.alloc (.cells #[.int .i64 0, .int .i64 0, .int .i64 0] 65)) w1) :
    w1.cell? ⟨w.heap.size, 0, none⟩ = some (.int .i64 0) ∧ w1.cell? ⟨w.heap.size, 1, none⟩ = some (.int .i64 0) ∧ w1.cell? ⟨w.heap.size, 2, none⟩ = some (.int .i64 0) ∧
    w1.frozen? ⟨w.heap.size, 0, none⟩ = false ∧ w1.frozen? ⟨w.heap.size, 1, none⟩ = false ∧ w1.frozen? ⟨w.heap.size, 2, none⟩ = false := by
  refine ⟨?_, ?_, ?_, ?_, ?_, ?_⟩
  · rw [hB.cell (Nat.lt_succ_self _)]; simp
  · rw [hB.cell (Nat.lt_succ_self _)]; simp
  · rw [hB.cell (Nat.lt_succ_self _)]; simp
  · rw [hB.frozen (Nat.lt_succ_self _)]; simp
  · rw [hB.frozen (Nat.lt_succ_self _)]; simp
  · rw [hB.frozen (Nat.lt_succ_self _)]; simp
/-- What Get answers, as the struct that the reference hands back. -/
def numOf (r : Int × Nat × Nat) : Value := .agg #[.int .i64 r.1, .int .i64 (r.2.1 : Int), .int .i64 (r.2.2 : Int)]
set_option maxRecDepth 100000 in
set_option maxHeartbeats 1000000 in
theorem rget_any (s : ByteArray) (p : Int) (w : World) (hs : s.size ≤ maxLen) :
    Calls Try.prog 29 #[.string s, .int .i64 p] w fun e w' => e = .returned (numOf (Vn.get s.data.toList p)) ∧ Below w.heap.size w w' := by
  have hsz := size_list s
  generalize hr : Vn.get s.data.toList p = r
  have HR : Hid (_) := hr
  clear hr
  unfold maxLen at hs
  by_cases h1 : p < 0
  · have HV : Hid (r = (0, 0, 1)) := (show r = (0, 0, 1) from by rw [← HR.out]; unfold Vn.get; rw [if_pos (.inl h1)])
    clear hsz HR
    go_enter Try.func29, Try.ntmps29
    go_wp2
    refine bodyPost_ret (v := .agg #[.int .i64 0, .int .i64 0, .int .i64 1]) (by simp [results, Try.results29, go_sem]) rfl ⟨by rw [HV.out]; rfl, ?_⟩
    exact (Below.refl _ _).alloc (Nat.le_refl _) _
  by_cases h2 : (s.size : Int) < p
  · have HV : Hid (r = (0, 0, 1)) := (show r = (0, 0, 1) from by rw [← HR.out]; unfold Vn.get; rw [if_pos (.inr (by omega))])
    clear hsz HR
    go_enter Try.func29, Try.ntmps29
    go_wp2
    refine bodyPost_ret (v := .agg #[.int .i64 0, .int .i64 0, .int .i64 1]) (by simp [results, Try.results29, go_sem]) rfl ⟨by rw [HV.out]; rfl, ?_⟩
    exact (Below.refl _ _).alloc (Nat.le_refl _) _
  obtain ⟨i0, rfl⟩ := Int.eq_ofNat_of_zero_le (show 0 ≤ p by omega)
  have h0 : i0 ≤ s.size := by omega
  generalize hu : Vn.getU (s.data.toList.drop i0) = u
  have HU : Hid (_) := hu
  have HE : Hid (r = if u.2.2 = 0 then (Vn.unzig u.1, i0 + u.2.1, 0) else (0, 0, u.2.2)) := (show _ = _ from by rw [← HR.out]; unfold Vn.get; rw [if_neg (by omega), Int.toNat_natCast, hu])
  clear hu hsz HR
  go_enter Try.func29, Try.ntmps29
  go_wp2
  go_loop [5, 6] (fun t y => ∃ (i : Nat) (U : Int), i ≤ 10 ∧ y = .int .i64 (i : Int) ∧ t = .int .u64 U ∧ (i = 10 → u = (0, 0, 4)) ∧ (i < 10 → i0 + i ≤ s.size ∧ ∃ acc : Nat, U = acc ∧ acc < 2 ^ (7 * i) ∧ u = Vn.dec (10 - i) i acc (s.data.toList.drop (i0 + i)))) (fun _ y => 10 - (intOf y).toNat)
  case atStart => exact ⟨0, 0, by omega, rfl, rfl, by omega, fun _ => ⟨h0, 0, rfl, by simp, HU.out.symm⟩⟩
  case round =>
    obtain ⟨i, U, hi, rfl, rfl, hten, hless⟩ := hrel
    have HT : Hid (_) := hten
    have HL : Hid (_) := hless
    clear hten hless
    by_cases h10 : i < 10
    · obtain ⟨hle, acc, rfl, hacc, hdec⟩ := HL.out h10
      have HA : Hid (_) := hacc
      have HD : Hid (_) := hdec
      clear hacc hdec HL HT
      by_cases hend : i0 + i = s.size
      · have HV : Hid (r = (0, 0, 3)) := (show r = (0, 0, 3) from by rw [HE.out, HD.out, drop_end s _ hend, d_end _ _ h10]; rfl)
        have hb : (s.size : Int) ≤ (i0 : Int) + (i : Int) := by omega
        clear hend
        go_wp2_with fail
        refine bodyPost_ret (v := .agg #[.int .i64 0, .int .i64 0, .int .i64 3]) (by simp [results, Try.results29, go_sem]) rfl ⟨by rw [HV.out]; rfl, ?_⟩
        exact (Below.refl _ _).alloc (Nat.le_refl _) _
      · have hb : (i0 : Int) + (i : Int) < (s.size : Int) := by omega
        have hlt : i0 + i < s.size := by omega
        have hbl := s[i0 + i].toNat_lt
        have HS : Hid (u = Vn.dec (10 - i) i acc (s[i0 + i] :: s.data.toList.drop (i0 + (i + 1)))) := (show u = Vn.dec (10 - i) i acc (s[i0 + i] :: s.data.toList.drop (i0 + (i + 1))) from by rw [HD.out, drop_step s _ hlt]; rfl)
        clear hend HD
        by_cases hc : 128 ≤ (s[i0 + i].toNat : Int)
        · have HV : Hid (_) := HS.out.trans (d_more _ _ _ _ h10 hc)
          go_wp2_with fail
          go_round
          case rel =>
            refine ⟨i + 1, _, by omega, by go_num, rfl, ?_, ?_⟩
            · intro h; rw [HV.out, h]; simp [Vn.dec]
            · intro h
              exact ⟨by omega, _, orv acc i _ h10 HA.out hbl (.inl (by omega)), acc_step HA.out, HV.out⟩
          case measure => simp [intOf]; omega
        · have hc2 : (s[i0 + i].toNat : Int) < 128 := by omega
          obtain ⟨V, hV, hVb⟩ := or_some (acc : Int) (s[i0 + i].toNat : Int) i
          have HVV : Hid (_) := hV
          have hand := and_one V hVb
          have hVb2 : (V : Int) ≤ 18446744073709551615 := by omega
          clear hc hVb
          have HWW : Hid (_) := HS.out.trans (d_last _ _ _ _ h10 hc2)
          cases hm : mayB s[i0 + i].toNat i with
          | true =>
            have hVe : V = acc + s[i0 + i].toNat % 128 * 2 ^ (7 * i) := by
              have h := orv acc i _ h10 HA.out hbl (may_fit hm (by omega))
              rw [hV] at h
              exact_mod_cast h
            have HW : Hid (u = (V, i + 1, 0)) := (show u = (V, i + 1, 0) from by rw [HWW.out, if_pos hm, hVe])
            clear hm hVe HWW HS
            by_cases hodd : V % 2 = 1
            · have hbo : ((V : Int) % 2 == 1) = true := by rw [beq_iff_eq]; omega
              have hsl1 : (0 : Int) ≤ (i0 : Int) + (i : Int) + 1 := by omega
              have hsl2 : (i0 : Int) + (i : Int) + 1 ≤ (s.size : Int) := by omega
              have hsl3 : (i0 : Int) ≤ (i0 : Int) + (i : Int) + 1 := by omega
              have hw1 : IntKind.i64.wrap ((i0 : Int) + (i : Int)) = (i0 : Int) + (i : Int) := by rw [IntKind.wrap_i64]; omega
              have hw2 : IntKind.i64.wrap ((i0 : Int) + (i : Int) + 1) = (i0 : Int) + (i : Int) + 1 := by rw [IntKind.wrap_i64]; omega
              obtain ⟨P, hP⟩ : ∃ P : ByteArray, P = ⟨(Vn.put (-((V : Int) / 2) - 1)).toArray⟩ := ⟨_, rfl⟩
              have CP : Hid (∀ w, Calls Try.prog 24 #[.int .i64 (-((V : Int) / 2) - 1)] w fun e w' => e = .returned (.string P) ∧ Below w.heap.size w w') := fun w => by rw [hP]; exact rput_any _ w (by omega) (by omega)
              have hn : -((V : Int) / 2) - 1 = Vn.unzig V := by unfold Vn.unzig; rw [if_neg (by omega)]; omega
              have HN : Hid (r = (-((V : Int) / 2) - 1, i0 + i + 1, 0)) := (show _ = _ from by rw [HE.out, HW.out, if_pos rfl, hn]; rfl)
              have hne : (P.toList == (s.extract i0 ((i0 : Int) + (i : Int) + 1).toNat).toList) = true := by
                rw [show ((i0 : Int) + (i : Int) + 1).toNat = i0 + i + 1 by omega]
                exact cmp_yes _ hn (HU.out.trans HW.out) P hP
              clear hP hn
              go_wp2_with fail
              go_region_held3 (fun w' => True) (trivial) (first | (go_at_call 24; refine Calls.mono (CP.out _) ?_; rintro e w1 ⟨rfl, hb1⟩))
              have hB : Below (w.heap.size + 1) (w.alloc (.cells #[.int .i64 0, .int .i64 0, .int .i64 0] 65)) w1 := ⟨hb1.os, hb1.tape, hb1.output, hb1.size, fun k hk => hb1.block k (by simpa using hk)⟩
              obtain ⟨q0, q1, q2, f0, f1, f2⟩ := res_cells hB
              have hBB := ((Below.refl w.heap.size w).alloc (Nat.le_refl _) (.cells #[.int .i64 0, .int .i64 0, .int .i64 0] 65)).trans (hB.mono (Nat.le_succ _))
              clear hb1 hB
              go_wp2_with fail
              refine bodyPost_ret (v := .agg #[.int .i64 (-((V : Int) / 2) - 1), .int .i64 ((i0 : Int) + (i : Int) + 1), .int .i64 0]) (by simp [results, Try.results29, go_sem, q0, q1, q2]) rfl ⟨by rw [HN.out]; rfl, ?_⟩
              exact ((hBB.setCell (Nat.le_refl _) _).setCell (Nat.le_refl _) _).setCell (Nat.le_refl _) _
            · have hbo : ((V : Int) % 2 == 1) = false := by rw [beq_eq_false_iff_ne]; omega
              have hsl1 : (0 : Int) ≤ (i0 : Int) + (i : Int) + 1 := by omega
              have hsl2 : (i0 : Int) + (i : Int) + 1 ≤ (s.size : Int) := by omega
              have hsl3 : (i0 : Int) ≤ (i0 : Int) + (i : Int) + 1 := by omega
              have hw1 : IntKind.i64.wrap ((i0 : Int) + (i : Int)) = (i0 : Int) + (i : Int) := by rw [IntKind.wrap_i64]; omega
              have hw2 : IntKind.i64.wrap ((i0 : Int) + (i : Int) + 1) = (i0 : Int) + (i : Int) + 1 := by rw [IntKind.wrap_i64]; omega
              obtain ⟨P, hP⟩ : ∃ P : ByteArray, P = ⟨(Vn.put ((V : Int) / 2)).toArray⟩ := ⟨_, rfl⟩
              have CP : Hid (∀ w, Calls Try.prog 24 #[.int .i64 ((V : Int) / 2)] w fun e w' => e = .returned (.string P) ∧ Below w.heap.size w w') := fun w => by rw [hP]; exact rput_any _ w (by omega) (by omega)
              have hn : (V : Int) / 2 = Vn.unzig V := by unfold Vn.unzig; rw [if_pos (by omega)]; omega
              have HN : Hid (r = ((V : Int) / 2, i0 + i + 1, 0)) := (show _ = _ from by rw [HE.out, HW.out, if_pos rfl, hn]; rfl)
              have hne : (P.toList == (s.extract i0 ((i0 : Int) + (i : Int) + 1).toNat).toList) = true := by
                rw [show ((i0 : Int) + (i : Int) + 1).toNat = i0 + i + 1 by omega]
                exact cmp_yes _ hn (HU.out.trans HW.out) P hP
              clear hP hn
              go_wp2_with fail
              go_region_held3 (fun w' => True) (trivial) (first | (go_at_call 24; refine Calls.mono (CP.out _) ?_; rintro e w1 ⟨rfl, hb1⟩))
              have hB : Below (w.heap.size + 1) (w.alloc (.cells #[.int .i64 0, .int .i64 0, .int .i64 0] 65)) w1 := ⟨hb1.os, hb1.tape, hb1.output, hb1.size, fun k hk => hb1.block k (by simpa using hk)⟩
              obtain ⟨q0, q1, q2, f0, f1, f2⟩ := res_cells hB
              have hBB := ((Below.refl w.heap.size w).alloc (Nat.le_refl _) (.cells #[.int .i64 0, .int .i64 0, .int .i64 0] 65)).trans (hB.mono (Nat.le_succ _))
              clear hb1 hB
              go_wp2_with fail
              refine bodyPost_ret (v := .agg #[.int .i64 ((V : Int) / 2), .int .i64 ((i0 : Int) + (i : Int) + 1), .int .i64 0]) (by simp [results, Try.results29, go_sem, q0, q1, q2]) rfl ⟨by rw [HN.out]; rfl, ?_⟩
              exact ((hBB.setCell (Nat.le_refl _) _).setCell (Nat.le_refl _) _).setCell (Nat.le_refl _) _
          | false =>
            have HW : Hid (u = (0, 0, 4)) := (show u = (0, 0, 4) from by rw [HWW.out, if_neg (by rw [hm]; simp)])
            clear hm HWW HS
            by_cases hodd : V % 2 = 1
            · have hbo : ((V : Int) % 2 == 1) = true := by rw [beq_iff_eq]; omega
              have hsl1 : (0 : Int) ≤ (i0 : Int) + (i : Int) + 1 := by omega
              have hsl2 : (i0 : Int) + (i : Int) + 1 ≤ (s.size : Int) := by omega
              have hsl3 : (i0 : Int) ≤ (i0 : Int) + (i : Int) + 1 := by omega
              have hw1 : IntKind.i64.wrap ((i0 : Int) + (i : Int)) = (i0 : Int) + (i : Int) := by rw [IntKind.wrap_i64]; omega
              have hw2 : IntKind.i64.wrap ((i0 : Int) + (i : Int) + 1) = (i0 : Int) + (i : Int) + 1 := by rw [IntKind.wrap_i64]; omega
              obtain ⟨P, hP⟩ : ∃ P : ByteArray, P = ⟨(Vn.put (-((V : Int) / 2) - 1)).toArray⟩ := ⟨_, rfl⟩
              have CP : Hid (∀ w, Calls Try.prog 24 #[.int .i64 (-((V : Int) / 2) - 1)] w fun e w' => e = .returned (.string P) ∧ Below w.heap.size w w') := fun w => by rw [hP]; exact rput_any _ w (by omega) (by omega)
              have HN : Hid (r = (0, 0, 4)) := (show _ = _ from by rw [HE.out, HW.out]; rfl)
              have hne : (P.toList == (s.extract i0 ((i0 : Int) + (i : Int) + 1).toNat).toList) = false := by
                rw [show ((i0 : Int) + (i : Int) + 1).toNat = i0 + i + 1 by omega]
                exact cmp_no (c := i + 1) _ (by omega) (by omega) (HU.out.trans HW.out) P hP
              clear hP
              go_wp2_with fail
              go_region_held3 (fun w' => True) (trivial) (first | (go_at_call 24; refine Calls.mono (CP.out _) ?_; rintro e w1 ⟨rfl, hb1⟩))
              have hB : Below (w.heap.size + 1) (w.alloc (.cells #[.int .i64 0, .int .i64 0, .int .i64 0] 65)) w1 := ⟨hb1.os, hb1.tape, hb1.output, hb1.size, fun k hk => hb1.block k (by simpa using hk)⟩
              obtain ⟨q0, q1, q2, f0, f1, f2⟩ := res_cells hB
              have hBB := ((Below.refl w.heap.size w).alloc (Nat.le_refl _) (.cells #[.int .i64 0, .int .i64 0, .int .i64 0] 65)).trans (hB.mono (Nat.le_succ _))
              clear hb1 hB
              go_wp2_with fail
              refine bodyPost_ret (v := .agg #[.int .i64 0, .int .i64 0, .int .i64 4]) (by simp [results, Try.results29, go_sem, q0, q1, q2]) rfl ⟨by rw [HN.out]; rfl, ?_⟩
              exact ((hBB.setCell (Nat.le_refl _) _).setCell (Nat.le_refl _) _).setCell (Nat.le_refl _) _
            · have hbo : ((V : Int) % 2 == 1) = false := by rw [beq_eq_false_iff_ne]; omega
              have hsl1 : (0 : Int) ≤ (i0 : Int) + (i : Int) + 1 := by omega
              have hsl2 : (i0 : Int) + (i : Int) + 1 ≤ (s.size : Int) := by omega
              have hsl3 : (i0 : Int) ≤ (i0 : Int) + (i : Int) + 1 := by omega
              have hw1 : IntKind.i64.wrap ((i0 : Int) + (i : Int)) = (i0 : Int) + (i : Int) := by rw [IntKind.wrap_i64]; omega
              have hw2 : IntKind.i64.wrap ((i0 : Int) + (i : Int) + 1) = (i0 : Int) + (i : Int) + 1 := by rw [IntKind.wrap_i64]; omega
              obtain ⟨P, hP⟩ : ∃ P : ByteArray, P = ⟨(Vn.put ((V : Int) / 2)).toArray⟩ := ⟨_, rfl⟩
              have CP : Hid (∀ w, Calls Try.prog 24 #[.int .i64 ((V : Int) / 2)] w fun e w' => e = .returned (.string P) ∧ Below w.heap.size w w') := fun w => by rw [hP]; exact rput_any _ w (by omega) (by omega)
              have HN : Hid (r = (0, 0, 4)) := (show _ = _ from by rw [HE.out, HW.out]; rfl)
              have hne : (P.toList == (s.extract i0 ((i0 : Int) + (i : Int) + 1).toNat).toList) = false := by
                rw [show ((i0 : Int) + (i : Int) + 1).toNat = i0 + i + 1 by omega]
                exact cmp_no (c := i + 1) _ (by omega) (by omega) (HU.out.trans HW.out) P hP
              clear hP
              go_wp2_with fail
              go_region_held3 (fun w' => True) (trivial) (first | (go_at_call 24; refine Calls.mono (CP.out _) ?_; rintro e w1 ⟨rfl, hb1⟩))
              have hB : Below (w.heap.size + 1) (w.alloc (.cells #[.int .i64 0, .int .i64 0, .int .i64 0] 65)) w1 := ⟨hb1.os, hb1.tape, hb1.output, hb1.size, fun k hk => hb1.block k (by simpa using hk)⟩
              obtain ⟨q0, q1, q2, f0, f1, f2⟩ := res_cells hB
              have hBB := ((Below.refl w.heap.size w).alloc (Nat.le_refl _) (.cells #[.int .i64 0, .int .i64 0, .int .i64 0] 65)).trans (hB.mono (Nat.le_succ _))
              clear hb1 hB
              go_wp2_with fail
              refine bodyPost_ret (v := .agg #[.int .i64 0, .int .i64 0, .int .i64 4]) (by simp [results, Try.results29, go_sem, q0, q1, q2]) rfl ⟨by rw [HN.out]; rfl, ?_⟩
              exact ((hBB.setCell (Nat.le_refl _) _).setCell (Nat.le_refl _) _).setCell (Nat.le_refl _) _
    · have HV : Hid (u = (0, 0, 4)) := HT.out (by omega)
      have HN : Hid (r = (0, 0, 4)) := (show _ = _ from by rw [HE.out, HV.out]; rfl)
      clear HT HL
      go_wp2_with fail
      refine bodyPost_ret (v := .agg #[.int .i64 0, .int .i64 0, .int .i64 4]) (by simp [results, Try.results29, go_sem]) rfl ⟨by rw [HN.out]; rfl, ?_⟩
      exact (Below.refl _ _).alloc (Nat.le_refl _) _
end Go.Proofs.Ytmjmlccdgdakdaa.V
