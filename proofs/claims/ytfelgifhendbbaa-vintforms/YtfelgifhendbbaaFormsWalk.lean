/- The walk of VintForms. -/
import Derived.Test.YtfelgifhendbbaaBack
import Derived.Laws.IdiomStrings
namespace Go.Proofs.Ytfelgifhendbbaa
open Go.RowKit
namespace Vn
theorem enc_last : ∀ (k u : Nat) (p : List UInt8) (b : UInt8), u < 128 ^ k → encF k u = p ++ [b] → b.toNat < 128
  | 0, _, p, b, _, h => by simp [encF] at h
  | k + 1, u, p, b, hu, h => by
    unfold encF at h
    by_cases hl : u < 128
    · rw [if_pos hl] at h
      cases p with
      | nil => simp at h; rw [← h, ofNat_toNat (by omega)]; exact hl
      | cons x p => simp at h
    · rw [if_neg hl] at h
      have hk : u / 128 < 128 ^ k := by rw [Nat.pow_succ, Nat.mul_comm] at hu; exact Nat.div_lt_of_lt_mul hu
      cases p with
      | nil =>
        exfalso
        simp at h
        cases k with
        | zero => simp at hu; omega
        | succ k => have := encF_len_pos k (u / 128); rw [h.2] at this; simp at this
      | cons x p =>
        simp only [List.cons_append, List.cons.injEq] at h
        exact enc_last k (u / 128) p b hk h.2
theorem put_parts (n : Int) (h1 : -9223372036854775808 ≤ n) (h2 : n ≤ 9223372036854775807) : ∃ p b, put n = p ++ [b] ∧ b.toNat < 128 := by
  have hne := put_ne n
  refine ⟨(put n).dropLast, (put n).getLast hne, (List.dropLast_concat_getLast hne).symm, ?_⟩
  exact enc_last 10 (zig n) _ _ (by have := zig_lt n h1 h2; omega) (List.dropLast_concat_getLast hne).symm
theorem get_nought (n : Int) (h1 : -9223372036854775808 ≤ n) (h2 : n ≤ 9223372036854775807) (p : List UInt8) (b : UInt8) (hp : put n = p ++ [b]) (c : UInt8) (hc : c.toNat = b.toNat + 128) : get (p ++ [c] ++ [0]) 0 = (0, 0, 4) := by
  have h := dec_nought 10 0 0 (zig n) rfl (by omega) (by simpa using zig_lt n h1 h2) c p b hp hc
  unfold get
  rw [if_neg (by omega), show (0 : Int).toNat = 0 from rfl, List.drop_zero]
  unfold getU
  rw [h]; simp
theorem get_ff (r : List UInt8) : get ([255, 255, 255, 255, 255, 255, 255, 255, 255, 255] ++ r) 0 = (0, 0, 4) := by
  unfold get
  rw [if_neg (by omega), show (0 : Int).toNat = 0 from rfl, List.drop_zero]
  simp [getU, dec]
theorem put_small (n : Int) : (put n).length = 1 ↔ -64 ≤ n ∧ n < 64 := by
  rw [← zig_small]
  unfold put encF
  by_cases h : zig n < 128
  · rw [if_pos h]; simp [h]
  · rw [if_neg h]
    have hl : 0 < (encF 9 (zig n / 128)).length := encF_len_pos 8 (zig n / 128)
    simp only [List.length_cons]; omega
theorem gt_m5 : getText (put (-5) ++ [97, 98, 99]) 0 = ([], 0, 4) := by decide
theorem gt_4097 : getText (put 4097 ++ [97, 98, 99]) 0 = ([], 0, 4) := by decide
end Vn
theorem conv_bytes (w : World) (P : ByteArray) : ∃ cap w1, (convert 9 40 (.string P)).run Try.prog w = .ok (.slice (some ⟨w.heap.size, 0, none⟩) P.size cap) w1 ∧
    (∀ j (h : j < P.size), w1.cell? ⟨w.heap.size, j, none⟩ = some (.int .u8 (P[j].toNat : Int))) ∧ (∀ j, j < P.size → w1.frozen? ⟨w.heap.size, j, none⟩ = false) ∧ Below w.heap.size w w1 ∧ w1.heap.size = w.heap.size + 1 := by
  refine ⟨_, _, run_bytes_of_string (P := Try.prog) w 9 40 5 P Try.underlying9 Try.underlying40 Try.underlying5, ?_, ?_, ?_, ?_⟩
  · intro j h
    have := World.cell?_alloc_mark w.drew (bytesRow P (grownCap w P.size 0 5)) 5 ((bytesRow P (grownCap w P.size 0 5)).size, (bytesRow P (grownCap w P.size 0 5)).size + 1) j
    rw [bytesRow_at P _ j h] at this
    exact this
  · intro j h
    have hs : P.size ≤ (bytesRow P (grownCap w P.size 0 5)).size := by
      have : (bytesRow P (grownCap w P.size 0 5)).size = P.data.size + (grownCap w P.size 0 5 - P.size) := by unfold bytesRow; simp
      rw [this]; exact Nat.le_add_right _ _
    have := World.frozen?_alloc_mark w.drew (bytesRow P (grownCap w P.size 0 5)) 5 (bytesRow P (grownCap w P.size 0 5)).size ((bytesRow P (grownCap w P.size 0 5)).size + 1) j
    rw [show w.heap.size = w.drew.heap.size from rfl, this]
    simp; omega
  · exact ((Below.refl _ w).drew).alloc (Nat.le_refl _) _
  · simp
theorem last_or {b : UInt8} (h : b.toNat < 128) : ∃ c : UInt8, c.toNat = b.toNat + 128 ∧ bits .or .u8 (b.toNat : Int) 128 = (c.toNat : Int) := by
  refine ⟨UInt8.ofNat (b.toNat + 128), Vn.ofNat_toNat (by omega), ?_⟩
  rw [Vn.ofNat_toNat (by omega), u8_or128 (by omega) (by omega)]; omega
theorem back_conv (w : World) (g k cap : Nat) (p : List UInt8) (b c : UInt8) (hp : p.length = k) (hc : ∀ j (h : j < (p ++ [b]).length), w.cell? ⟨g, j, none⟩ = some (.int .u8 ((p ++ [b])[j].toNat : Int))) :
    (convert 40 9 (.slice (some ⟨g, 0, none⟩) (k + 1) cap)).run Try.prog (w.setCell ⟨g, k, none⟩ (.int .u8 (c.toNat : Int))) = .ok (.string ⟨(p ++ [c]).toArray⟩) (w.setCell ⟨g, k, none⟩ (.int .u8 (c.toNat : Int))) := by
  have := run_convert_bytes_back (P := Try.prog) (w.setCell ⟨g, k, none⟩ (.int .u8 (c.toNat : Int))) 40 9 5 ⟨g, 0, none⟩ cap (p ++ [c]) Try.underlying40 Try.underlying5 Try.underlying9 (fun j hj => by
    rw [show (⟨g, 0, none⟩ : Addr).add j = ⟨g, j, none⟩ by unfold Addr.add; split <;> simp_all]
    by_cases h : j = k
    · subst h
      rw [World.cell?_setCell_same _ _ _ (hc j (by simp; omega))]
      simp [← hp]
    · rw [World.cell?_setCell_other _ _ _ _ (fun e => h (by injection e with _ e2 _; exact e2.symm)), hc j (by simpa using hj)]
      have hjl : j < p.length := by simp at hj; omega
      rw [List.getElem_append_left hjl, List.getElem_append_left hjl])
  rw [show (p ++ [c]).length = k + 1 by simp [hp]] at this
  exact this
theorem getElem_list (s : ByteArray) (j : Nat) (h : j < s.size) : s[j] = s.data.toList[j]'(by simpa using h) := rfl
theorem list_at {l p : List UInt8} {b : UInt8} {k : Nat} (h : l = p ++ [b]) (hk : p.length = k) (hl : k < l.length) : l[k] = b := by
  subst h; subst hk; simp
theorem conv_one (w : World) (c : Int) (h0 : 0 ≤ c) (h1 : c ≤ 255) : (convert 40 9 (.slice (some ⟨w.heap.size, 0, none⟩) 1 1)).run Try.prog (w.alloc (.cells #[.int .u8 c] 5)) = .ok (.string ⟨#[UInt8.ofNat c.toNat]⟩) (w.alloc (.cells #[.int .u8 c] 5)) := by
  have := run_convert_bytes_back (P := Try.prog) (w.alloc (.cells #[.int .u8 c] 5)) 40 9 5 ⟨w.heap.size, 0, none⟩ 1 [UInt8.ofNat c.toNat] Try.underlying40 Try.underlying5 Try.underlying9 (fun j hj => by
    have hj0 : j = 0 := by simpa using hj
    subst hj0
    rw [show (⟨w.heap.size, 0, none⟩ : Addr).add 0 = ⟨w.heap.size, 0, none⟩ by unfold Addr.add; split <;> simp_all, World.cell?_alloc_new]
    rw [show [UInt8.ofNat c.toNat][0] = UInt8.ofNat c.toNat from rfl, Vn.ofNat_toNat (by omega), show ((c.toNat : Nat) : Int) = c by omega]
    simp)
  exact this
set_option maxRecDepth 100000 in
set_option maxHeartbeats 1000000 in
theorem forms_walk (n m c : Int) (n1 : -128 ≤ n) (n2 : n ≤ 127) (h1 : -9223372036854775808 ≤ m) (h2 : m ≤ 9223372036854775807) (hc0 : 0 ≤ c) (hc1 : c ≤ 255) (w : World) :
    Calls Try.prog 5 #[.int .i8 n, .int .i64 m, .int .u8 c] w fun e w' => e = .returned (.bool true) ∧ Below w.heap.size w w' := by
  obtain ⟨p, b, hpb, hb⟩ := Vn.put_parts m h1 h2
  obtain ⟨d, hd, hor⟩ := last_or hb
  obtain ⟨P, hP⟩ : ∃ P : ByteArray, P = ⟨(Vn.put m).toArray⟩ := ⟨_, rfl⟩
  have CP : Hid (∀ w, Calls Try.prog 14 #[.int .i64 m] w fun e w' => e = .returned (.string P) ∧ Below w.heap.size w w') := fun w => by rw [hP]; exact put_any m w h1 h2
  have hPl : P.data.toList = p ++ [b] := by rw [hP, ← hpb]
  have hPs : P.size = p.length + 1 := by rw [← size_list, hPl]; simp
  have hpl : p.length ≤ 9 := by have := (Vn.put_len m).2; rw [hpb] at this; simp at this; omega
  obtain ⟨k, hk⟩ : ∃ k, p.length = k := ⟨_, rfl⟩
  rw [hk] at hPs hpl
  have HS : Hid (_) := hPs
  have HL : Hid (_) := hPl
  have HK : Hid (_) := hk
  have HO : Hid (_) := hor
  have HD : Hid (_) := hd
  have HPB : Hid (_) := hpb
  obtain ⟨R, hR⟩ : ∃ R : ByteArray, R = ⟨(p ++ [d]).toArray⟩ := ⟨_, rfl⟩
  obtain ⟨S, hS⟩ : ∃ S : ByteArray, S = ⟨#[UInt8.ofNat c.toNat]⟩ := ⟨_, rfl⟩
  obtain ⟨M, hM⟩ : ∃ M : ByteArray, M = ⟨(Vn.put (-5)).toArray⟩ := ⟨_, rfl⟩
  obtain ⟨B, hB⟩ : ∃ B : ByteArray, B = ⟨(Vn.put 4097).toArray⟩ := ⟨_, rfl⟩
  obtain ⟨N, hN⟩ : ∃ N : ByteArray, N = ⟨(Vn.put n).toArray⟩ := ⟨_, rfl⟩
  have gR : R.size ≤ 10 := by rw [hR]; show (p ++ [d]).toArray.size ≤ 10; simp; omega
  have gS : S.size ≤ 1 := by rw [hS]; exact Nat.le_refl _
  have gM : M.size ≤ 10 := by rw [hM]; exact (show (Vn.put (-5)).length ≤ 10 from (Vn.put_len _).2)
  have gB : B.size ≤ 10 := by rw [hB]; exact (show (Vn.put 4097).length ≤ 10 from (Vn.put_len _).2)
  have HN : Hid (N.size = 1 ↔ -64 ≤ n ∧ n < 64) := (show N.size = 1 ↔ -64 ≤ n ∧ n < 64 from by rw [hN]; exact Vn.put_small n)
  have CM : Hid (∀ w, Calls Try.prog 14 #[.int .i64 (-5)] w fun e w' => e = .returned (.string M) ∧ Below w.heap.size w w') := fun w => by rw [hM]; exact put_any _ w (by omega) (by omega)
  have CB : Hid (∀ w, Calls Try.prog 14 #[.int .i64 4097] w fun e w' => e = .returned (.string B) ∧ Below w.heap.size w w') := fun w => by rw [hB]; exact put_any _ w (by omega) (by omega)
  have CN : Hid (∀ w, Calls Try.prog 14 #[.int .i64 n] w fun e w' => e = .returned (.string N) ∧ Below w.heap.size w w') := fun w => by rw [hN]; exact put_any _ w (by omega) (by omega)
  have CS : Hid (∀ w : World, (convert 40 9 (.slice (some ⟨w.heap.size, 0, none⟩) 1 1)).run Try.prog (w.alloc (.cells #[.int .u8 c] 5)) = .ok (.string S) (w.alloc (.cells #[.int .u8 c] 5))) := fun w => by
    rw [hS]; exact conv_one w c hc0 hc1
  have C1 : Hid (∀ w, Calls Try.prog 10 #[.string (R ++ ⟨#[0]⟩), .int .i64 0] w fun e w' => e = .returned (.tuple #[.int .i64 0, .int .i64 0, .int .i64 4]) ∧ w' = w) := fun w => by
    have h := get_any (R ++ ⟨#[0]⟩) 0 w (by simp [maxLen, ByteArray.size_append]; have : (⟨#[0]⟩ : ByteArray).size = 1 := rfl; omega)
    rw [cat_list, show R.data.toList = p ++ [d] by rw [hR], Vn.get_nought m h1 h2 p b hpb d hd] at h
    exact h
  have C2 : Hid (∀ w, Calls Try.prog 10 #[.string (⟨#[255, 255, 255, 255, 255, 255, 255, 255, 255, 255]⟩ ++ S), .int .i64 0] w fun e w' => e = .returned (.tuple #[.int .i64 0, .int .i64 0, .int .i64 4]) ∧ w' = w) := fun w => by
    have h := get_any (⟨#[255, 255, 255, 255, 255, 255, 255, 255, 255, 255]⟩ ++ S) 0 w (by simp [maxLen, ByteArray.size_append]; have : (⟨#[255, 255, 255, 255, 255, 255, 255, 255, 255, 255]⟩ : ByteArray).size = 10 := rfl; omega)
    rw [cat_list, Vn.get_ff] at h
    exact h
  have C3 : Hid (∀ w, Calls Try.prog 12 #[.string (M ++ ⟨#[97, 98, 99]⟩), .int .i64 0] w fun e w' => e = .returned (.tuple #[.string ⟨#[]⟩, .int .i64 0, .int .i64 4]) ∧ Below w.heap.size w w') := fun w => by
    have h := getText_any (M ++ ⟨#[97, 98, 99]⟩) 0 w (by simp [maxLen, ByteArray.size_append]; have : (⟨#[97, 98, 99]⟩ : ByteArray).size = 3 := rfl; omega)
    rw [cat_list, show M.data.toList = Vn.put (-5) by rw [hM], show (⟨#[97, 98, 99]⟩ : ByteArray).data.toList = [97, 98, 99] from rfl, Vn.gt_m5] at h
    exact h
  have C4 : Hid (∀ w, Calls Try.prog 12 #[.string (B ++ ⟨#[97, 98, 99]⟩), .int .i64 0] w fun e w' => e = .returned (.tuple #[.string ⟨#[]⟩, .int .i64 0, .int .i64 4]) ∧ Below w.heap.size w w') := fun w => by
    have h := getText_any (B ++ ⟨#[97, 98, 99]⟩) 0 w (by simp [maxLen, ByteArray.size_append]; have : (⟨#[97, 98, 99]⟩ : ByteArray).size = 3 := rfl; omega)
    rw [cat_list, show B.data.toList = Vn.put 4097 by rw [hB], show (⟨#[97, 98, 99]⟩ : ByteArray).data.toList = [97, 98, 99] from rfl, Vn.gt_4097] at h
    exact h
  have HR : Hid (_) := hR
  clear hP hPl hPs hk hpb hd hor hR hS hM hB hN
  go_enter Try.func5, Try.ntmps5
  go_wp2_with fail
  refine Calls.mono (CP.out _) ?_
  rintro e w1 ⟨rfl, hb1⟩
  obtain ⟨cap, w2, hcv, hcell, hfz, hb2, hz2⟩ := conv_bytes w1 P
  rw [HS.out] at hcv
  have hcap : 0 < P.size := by rw [HS.out]; omega
  have hck : w2.cell? ⟨w1.heap.size, k, none⟩ = some (.int .u8 (b.toNat : Int)) := by
    rw [hcell k (by rw [HS.out]; omega), getElem_list P k, list_at HL.out HK.out]
  have hfk : w2.frozen? ⟨w1.heap.size, k, none⟩ = false := hfz k (by rw [HS.out]; omega)
  have HC : Hid (_) := back_conv w2 w1.heap.size k cap p b d HK.out (fun j h => by
    rw [hcell j (by rw [← size_list, HL.out]; exact h), getElem_list P j]; simp only [HL.out])
  clear hcell hfz hcap
  rw [← HO.out, ← HR.out] at HC
  have hcv2 := HC.out
  clear HC
  go_wp2_with fail
  refine Calls.mono (C1.out _) ?_
  rintro e w3 ⟨rfl, hw3⟩
  have hb3 : Below w1.heap.size w1 w3 := by rw [hw3]; exact hb2.setCell (Nat.le_refl _) _
  clear hw3 hcv2 hcv hb2 hz2 hck hfk
  have hcv3 := CS.out w3
  go_wp2_with fail
  refine Calls.mono (C2.out _) ?_
  rintro e w4 ⟨rfl, hw4⟩
  have hb4 : Below w3.heap.size w3 w4 := by rw [hw4]; exact (Below.refl _ _).alloc (Nat.le_refl _) _
  clear hw4 hcv3
  go_wp2_with fail
  refine Calls.mono (CM.out _) ?_
  rintro e w5 ⟨rfl, hb5⟩
  go_wp2_with fail
  refine Calls.mono (C3.out _) ?_
  rintro e w6 ⟨rfl, hb6⟩
  go_wp2_with fail
  refine Calls.mono (CB.out _) ?_
  rintro e w7 ⟨rfl, hb7⟩
  go_wp2_with fail
  refine Calls.mono (C4.out _) ?_
  rintro e w8 ⟨rfl, hb8⟩
  go_wp2_with fail
  refine Calls.mono (CN.out _) ?_
  rintro e w9 ⟨rfl, hb9⟩
  have hch : Below w.heap.size w w9 := below_chain hb1 (below_chain hb3 (below_chain hb4 (below_chain hb5 (below_chain hb6 (below_chain hb7 (below_chain hb8 hb9))))))
  clear hb1 hb3 hb4 hb5 hb6 hb7 hb8 hb9
  rcases (show n < -64 ∨ (-64 ≤ n ∧ n < 64) ∨ 64 ≤ n from by omega) with hn | ⟨hn, hn'⟩ | hn
  · have bN : ((N.size : Int) == 1) = false := by rw [beq_eq_false_iff_ne]; have := HN.out; omega
    go_wp2_with (first | (go_at_call 18; refine (err_any _ _).mono ?_; rintro e w' ⟨rfl, rfl⟩) | (go_at_call 9; refine (awake_any _).mono ?_; rintro e w10 ⟨rfl, hb10⟩))
    go_ret
    exact ⟨rfl, below_chain hch hb10⟩
  · have bN : ((N.size : Int) == 1) = true := by rw [beq_iff_eq]; have := HN.out; omega
    go_wp2_with (first | (go_at_call 18; refine (err_any _ _).mono ?_; rintro e w' ⟨rfl, rfl⟩) | (go_at_call 9; refine (awake_any _).mono ?_; rintro e w10 ⟨rfl, hb10⟩))
    go_ret
    exact ⟨rfl, below_chain hch hb10⟩
  · have bN : ((N.size : Int) == 1) = false := by rw [beq_eq_false_iff_ne]; have := HN.out; omega
    have bn : decide (n < 64) = false := by rw [decide_eq_false_iff_not]; omega
    go_wp2_with (first | (go_at_call 18; refine (err_any _ _).mono ?_; rintro e w' ⟨rfl, rfl⟩) | (go_at_call 9; refine (awake_any _).mono ?_; rintro e w10 ⟨rfl, hb10⟩))
    go_ret
    exact ⟨rfl, below_chain hch hb10⟩
end Go.Proofs.Ytfelgifhendbbaa
