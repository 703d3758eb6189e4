-- PROVED: the walk of FrameLimits.
import Derived.Test.YtpkeeoeghdmagaaFAwake
import Derived.Test.YtpkeeoeghdmagaaCBytes
import Derived.Test.YtpkeeoeghdmagaaVRefPut
import Derived.Test.YtpkeeoeghdmagaaCRef
import Derived.BigRegion
namespace Go.Proofs.Ytpkeeoeghdmagaa.Fm
theorem all_big (t : List UInt8) (h : 4096 < t.length) (h2 : t.length ≤ 1000000) : all (put t) = ([], 0, 4) := by
  have hg := Vn.getU_put (t.length : Int) (Cm.put t) (by omega) (by omega)
  have ho : one (put t) = ([], 0, 4) := by
    unfold one put
    rw [hg]
    simp only [if_true, unzig_len]
    unfold body
    rw [if_pos (by omega)]
  have := put_bounds t
  rw [all_err (fun h => by rw [h] at this; simp at this) (by rw [ho]; decide), ho]
theorem all_neg (l : List UInt8) : all (Vn.put (-1) ++ l) = ([], 0, 4) := by
  have hg := Vn.getU_put (-1) l (by omega) (by omega)
  have hz : Vn.unzig (Vn.zig (-1)) = -1 := Vn.unzig_zig _
  have ho : one (Vn.put (-1) ++ l) = ([], 0, 4) := by
    unfold one
    rw [hg]
    simp only [if_true, hz]
    unfold body
    rw [if_pos (by omega)]
  have := Vn.put_len (-1)
  rw [all_err (fun h => by have h2 := congrArg List.length h; simp at h2; rw [h2.1] at this; simp at this) (by rw [ho]; decide), ho]
end Go.Proofs.Ytpkeeoeghdmagaa.Fm
namespace Go.Proofs.Ytpkeeoeghdmagaa.F
open Go.RowKit
attribute [local go_sem ↓] Go.wp_at_zero Go.wp_at_succ
/-- All of what says that it is k long, and is. -/
theorem all_k (k : Nat) (Z : ByteArray) (hZ : Z.size = k) (hk : k ≤ 5000) (W : World) :
    Calls Try.prog 11 #[.string ((⟨(Vn.put (k : Int)).toArray⟩ : ByteArray) ++ ⟨(Cm.put Z.data.toList).toArray⟩)] W fun e w' => ∃ ao cap U, e = .returned (.tuple #[.slice ao (if k ≤ 4096 then 1 else 0) cap, .int .i64 U, .int .i64 (if k ≤ 4096 then 0 else 4)]) ∧ Below W.heap.size W w' := by
  have hln := V.size_list Z
  have hpz : Fm.put Z.data.toList = Vn.put (k : Int) ++ Cm.put Z.data.toList := by unfold Fm.put; rw [hln, hZ]
  have hpb := (Fm.put_bounds Z.data.toList).2
  rw [cat_eq, ← hpz]
  have := all_any ⟨(Fm.put Z.data.toList).toArray⟩ W (by rw [mk_size]; omega)
  rw [mk_list (Fm.put Z.data.toList)] at this
  by_cases h : k ≤ 4096
  · have ha := Fm.all_whole [Z.data.toList] (by simp; omega)
    rw [show Fm.puts [Z.data.toList] = Fm.put Z.data.toList from List.append_nil _] at ha
    rw [ha] at this
    refine this.mono ?_
    rintro e w' ⟨v, rfl, ho, hb⟩
    obtain ⟨ao, cap, rfl⟩ := own_len ho
    exact ⟨ao, cap, ((Fm.put Z.data.toList).length : Int), by simp [h], hb⟩
  · rw [Fm.all_big Z.data.toList (by omega) (by omega)] at this
    refine this.mono ?_
    rintro e w' ⟨v, rfl, ho, hb⟩
    obtain ⟨ao, cap, rfl⟩ := own_len ho
    exact ⟨ao, cap, 0, by simp [h], hb⟩
theorem all_n (T : List UInt8) (hT : T.length ≤ 100) (W : World) :
    Calls Try.prog 11 #[.string ((⟨(Vn.put (-1)).toArray⟩ : ByteArray) ++ ⟨T.toArray⟩)] W fun e w' => ∃ ao cap, e = .returned (.tuple #[.slice ao 0 cap, .int .i64 0, .int .i64 4]) ∧ Below W.heap.size W w' := by
  rw [cat_eq]
  have hl := (Vn.put_len (-1)).2
  have := all_any ⟨(Vn.put (-1) ++ T).toArray⟩ W (by rw [mk_size, List.length_append]; omega)
  rw [mk_list, Fm.all_neg] at this
  refine this.mono ?_
  rintro e w' ⟨v, rfl, ho, hb⟩
  obtain ⟨ao, cap, rfl⟩ := own_len ho
  exact ⟨ao, cap, rfl, hb⟩
theorem held_alloc {w W : World} (h : Below w.heap.size w W) (o : Obj) : Below w.heap.size w (W.alloc o) := h.alloc h.size o
/-- A row of noughts as a text, other calls between. -/
theorem conv_later (k : Nat) (W w' : World) (hb : Below (W.alloc (.cells (madeCells #[.int .u8 0] k) 5)).drew.heap.size (W.alloc (.cells (madeCells #[.int .u8 0] k) 5)).drew w') :
    (convert 41 9 (.slice (some ⟨W.heap.size, 0, none⟩) k k)).run Try.prog w' = .ok (.string ⟨(List.replicate k (0 : UInt8)).toArray⟩) w' := by
  have := ((C.Mine.make W k).drew.go hb).conv k
  rw [List.length_replicate] at this
  exact this
theorem conv_drew (k : Nat) (W : World) : (convert 41 9 (.slice (some ⟨W.heap.size, 0, none⟩) k k)).run Try.prog (W.alloc (.cells (madeCells #[.int .u8 0] k) 5)).drew = .ok (.string ⟨(List.replicate k (0 : UInt8)).toArray⟩) (W.alloc (.cells (madeCells #[.int .u8 0] k) 5)).drew :=
  conv_later k W _ (Below.refl _ _)
set_option maxRecDepth 100000 in
set_option maxHeartbeats 2000000 in
theorem limits_walk (n : Nat) (hn : n < 256) (w : World) :
    Calls Try.prog 5 #[.int .u8 (n : Int)] w fun e w' => e = .returned (.bool true) ∧ Below w.heap.size w w' := by
  obtain ⟨k, hk⟩ : ∃ k, 4093 + n % 7 = k := ⟨_, rfl⟩
  have hkI : (4093 : Int) + (n : Int) % 7 = (k : Int) := by omega
  have hk1 : k ≤ 4099 := by omega
  have hk0 : (0 : Int) ≤ (k : Int) := by omega
  clear hk
  have hmk := fun W => C.run_make_bytes W k (by omega)
  have hcv := fun (W : World) => C.Mine.conv (C.Mine.make W k) k
  rw [List.length_replicate] at hcv
  have HAF : Hid (_) := conv_later k
  have hcd := conv_drew k
  obtain ⟨Z, hZ⟩ : ∃ Z : ByteArray, ByteArray.mk (List.replicate k (0 : UInt8)).toArray = Z := ⟨_, rfl⟩
  rw [hZ] at hcv HAF hcd
  have hZs : Z.size = k := by rw [← hZ, mk_size, List.length_replicate]
  clear hZ
  have hln := V.size_list Z
  have HP : Hid (_) := fun W => put_any Z W
  have hput : putE Z.data.toList = (if k ≤ 4096 then ((Fm.put Z.data.toList, 0) : List UInt8 × Nat) else ([], 6)) := by
    unfold putE
    by_cases h : k ≤ 4096
    · rw [if_pos h, if_neg (by omega)]
    · rw [if_neg h, if_pos (by omega)]
  rw [hput] at HP
  have HA : Hid (_) := fun W => V.rput_any (k : Int) W (by omega) (by omega)
  have HB : Hid (_) := fun W => C.rput_any Z W (by omega)
  have hsA : (⟨(Vn.put (k : Int)).toArray⟩ : ByteArray).size ≤ 10 := by rw [mk_size]; exact (Vn.put_len _).2
  have hsB : (⟨(Cm.put Z.data.toList).toArray⟩ : ByteArray).size ≤ 5000 := by rw [mk_size, Cm.put_length]; omega
  have HC : Hid (_) := fun W => all_k k Z hZs (by omega) W
  have HN : Hid (_) := fun W => V.rput_any (-1) W (by omega) (by omega)
  have hsN : (⟨(Vn.put (-1)).toArray⟩ : ByteArray).size ≤ 10 := by rw [mk_size]; exact (Vn.put_len _).2
  have HD : Hid (_) := fun W => all_n [97, 98, 99, 100, 101, 102, 103, 104] (by decide) W
  clear hput hln
  generalize (⟨(Vn.put (k : Int)).toArray⟩ : ByteArray) = A at HA HC hsA
  generalize (⟨(Cm.put Z.data.toList).toArray⟩ : ByteArray) = B at HB HC hsB
  generalize hNN : (⟨(Vn.put (-1)).toArray⟩ : ByteArray) = N at HN HD hsN
  clear hNN
  by_cases hg : k ≤ 4096
  · simp only [hg, if_true] at HP HC
    have hg' : (k : Int) ≤ 4096 := by omega
    generalize (⟨(Fm.put Z.data.toList).toArray⟩ : ByteArray) = S at HP
    go_enter Try.func5, Try.ntmps5
    go_wp2_with fail
    refine Calls.mono (HP.out _) ?_
    rintro e w1 ⟨rfl, hb1⟩
    have hW1 : Hid (_) := ((Below.refl w.heap.size w).alloc (Nat.le_refl _) _).trans (hb1.mono (by simp))
    clear hb1
    go_wp2_with fail
    rename_i Q1 K1 hK1
    go_region_with (first | (go_at_call 16; refine Calls.mono (HA.out _) ?_; rintro e w2 ⟨rfl, hb2⟩; try have haf := HAF.out _ _ hb2) | (go_at_call 17; refine Calls.mono (HB.out _) ?_; rintro e w3 ⟨rfl, hb3⟩) | (go_at_call 11; refine Calls.mono (HC.out _) ?_; rintro e w4 ⟨ao, cap, U, rfl, hb4⟩))
    all_goals
      have hW4 : Hid (Below w.heap.size w w4) := (show Below w.heap.size w w4 from by
        repeat (first | exact hW1.out | refine Below.drew ?_ | refine held_alloc ?_ _ | refine C.below_chain ?_ hb4 | refine C.below_chain ?_ hb3 | refine C.below_chain ?_ hb2))
      clear hb2 hb3 hb4 hmk hcv hcd HAF
      try clear haf
      go_wp2_with fail
      refine Calls.mono (HN.out _) ?_
      rintro e w5 ⟨rfl, hb5⟩
      go_wp2_with fail
      refine Calls.mono (HD.out _) ?_
      rintro e w6 ⟨ao6, cap6, rfl, hb6⟩
      go_wp2_with (go_at_call 13; refine Calls.mono (V.err_any _ _) ?_; rintro e w7 ⟨rfl, rfl⟩)
      refine (awake_any _).mono ?_
      rintro e w8 ⟨rfl, hb8⟩
      go_wp2
      go_ret
      exact ⟨rfl, C.below_chain (C.below_chain (C.below_chain hW4.out hb5) hb6) hb8⟩
  · simp only [hg, if_false] at HP HC
    have hg' : ¬ ((k : Int) ≤ 4096) := by omega
    go_enter Try.func5, Try.ntmps5
    go_wp2_with fail
    refine Calls.mono (HP.out _) ?_
    rintro e w1 ⟨rfl, hb1⟩
    have hW1 : Hid (_) := ((Below.refl w.heap.size w).alloc (Nat.le_refl _) _).trans (hb1.mono (by simp))
    clear hb1
    go_wp2_with fail
    rename_i Q1 K1 hK1
    go_region_with (first | (go_at_call 16; refine Calls.mono (HA.out _) ?_; rintro e w2 ⟨rfl, hb2⟩; try have haf := HAF.out _ _ hb2) | (go_at_call 17; refine Calls.mono (HB.out _) ?_; rintro e w3 ⟨rfl, hb3⟩) | (go_at_call 11; refine Calls.mono (HC.out _) ?_; rintro e w4 ⟨ao, cap, U, rfl, hb4⟩))
    all_goals
      have hW4 : Hid (Below w.heap.size w w4) := (show Below w.heap.size w w4 from by
        repeat (first | exact hW1.out | refine Below.drew ?_ | refine held_alloc ?_ _ | refine C.below_chain ?_ hb4 | refine C.below_chain ?_ hb3 | refine C.below_chain ?_ hb2))
      clear hb2 hb3 hb4 hmk hcv hcd HAF
      try clear haf
      go_wp2_with fail
      refine Calls.mono (HN.out _) ?_
      rintro e w5 ⟨rfl, hb5⟩
      go_wp2_with fail
      refine Calls.mono (HD.out _) ?_
      rintro e w6 ⟨ao6, cap6, rfl, hb6⟩
      go_wp2_with (go_at_call 13; refine Calls.mono (V.err_any _ _) ?_; rintro e w7 ⟨rfl, rfl⟩)
      refine (awake_any _).mono ?_
      rintro e w8 ⟨rfl, hb8⟩
      go_wp2
      go_ret
      exact ⟨ret_bool (by simp; omega), C.below_chain (C.below_chain (C.below_chain hW4.out hb5) hb6) hb8⟩
theorem limits_walk' (a : Int) (ha : 0 ≤ a ∧ a ≤ 255) (w : World) :
    Calls Try.prog 5 #[.int .u8 a] w fun e w' => e = .returned (.bool true) ∧ Below w.heap.size w w' := by
  obtain ⟨x, rfl⟩ := Int.eq_ofNat_of_zero_le ha.1
  exact limits_walk x (by omega) w
end Go.Proofs.Ytpkeeoeghdmagaa.F
