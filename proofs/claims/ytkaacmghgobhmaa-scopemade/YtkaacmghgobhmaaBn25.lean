/- Texts: LxDg LDigits W8D. -/
import Derived.Test.YtkaacmghgobhmaaBn00
import Derived.Test.YtkaacmghgobhmaaBn02
import Derived.BigRegion
import Derived.Deep.RegionWith
import Derived.Deep.RegionHeld3
import Derived.Test.YtkaacmghgobhmaaBn24
section
namespace Go.Proofs.Ytkaacmghgobhmaa.Lx
set_option linter.unusedVariables false
/-- The digits of a number. -/
def dg (n : Nat) : List UInt8 := if n < 10 then [UInt8.ofNat (48 + n)] else dg (n / 10) ++ [UInt8.ofNat (48 + n % 10)]
theorem dg_small {n : Nat} (h : n < 10) : dg n = [UInt8.ofNat (48 + n)] := by rw [dg, if_pos h]
theorem dg_big {n : Nat} (h : ¬ n < 10) : dg n = dg (n / 10) ++ [UInt8.ofNat (48 + n % 10)] := by rw [dg, if_neg h]
theorem ofDigit {d : Nat} (h : d < 10) : (UInt8.ofNat (48 + d)).toNat = 48 + d := by
  rw [UInt8.toNat_ofNat']; omega
theorem dg_all : ∀ (n : Nat), ∀ c ∈ dg n, digit c = true := by
  intro n
  induction n using Nat.strongRecOn with
  | _ n ih =>
    intro c hc
    by_cases h : n < 10
    · rw [dg_small h] at hc
      rw [List.mem_singleton] at hc; subst hc
      unfold digit; rw [ofDigit h]; simp; omega
    · rw [dg_big h] at hc
      rcases List.mem_append.1 hc with hc | hc
      · exact ih _ (by omega) c hc
      · rw [List.mem_singleton] at hc; subst hc
        unfold digit; rw [ofDigit (Nat.mod_lt _ (by omega))]; simp; omega
theorem dg_val : ∀ (n : Nat), val (dg n) = n := by
  intro n
  induction n using Nat.strongRecOn with
  | _ n ih =>
    by_cases h : n < 10
    · rw [dg_small h]
      show 10 * 0 + ((UInt8.ofNat (48 + n)).toNat - 48) = n
      rw [ofDigit h]; omega
    · rw [dg_big h, val_snoc, ih _ (by omega), ofDigit (Nat.mod_lt _ (by omega))]; omega
theorem dg_len : ∀ (n : Nat), 1 ≤ (dg n).length ∧ (n < 10 → (dg n).length = 1) := by
  intro n
  by_cases h : n < 10
  · rw [dg_small h]; simp
  · rw [dg_big h]; simp; omega
theorem dg_max : ∀ (m n : Nat), n < 10 ^ m → 1 ≤ m → (dg n).length ≤ m
  | 0, n, h, h1 => by omega
  | 1, n, h, h1 => by rw [(dg_len n).2 (by simpa using h)]; omega
  | m + 2, n, h, h1 => by
    by_cases h2 : n < 10
    · rw [(dg_len n).2 h2]; omega
    · rw [dg_big h2, List.length_append]
      have := dg_max (m + 1) (n / 10) (by rw [Nat.pow_succ] at h; omega) (by omega)
      simp; omega
/-- The first digit of a number that has more than one is not a nought. -/
theorem dg_head : ∀ (n : Nat), 1 < (dg n).length → ∃ c l, dg n = c :: l ∧ c.toNat ≠ 48 := by
  intro n
  induction n using Nat.strongRecOn with
  | _ n ih =>
    intro h
    by_cases h2 : n < 10
    · rw [(dg_len n).2 h2] at h; omega
    · rw [dg_big h2]
      by_cases h3 : n / 10 < 10
      · rw [dg_small h3]
        exact ⟨_, _, rfl, by rw [ofDigit h3]; omega⟩
      · have h4 : 1 < (dg (n / 10)).length := by
          rw [dg_big h3, List.length_append]
          have := (dg_len (n / 10 / 10)).1
          simp; omega
        obtain ⟨c, l, e, hc⟩ := ih (n / 10) (by omega) h4
        exact ⟨c, l ++ [_], by rw [e]; rfl, hc⟩
theorem hd_digits (a r : List UInt8) (ha : ∀ c ∈ a, digit c = true) (hr : beg digit r = false) : hd digit (a ++ r) = a.length := by
  refine hd_eq _ _ _ (by simp) (fun j h hj => ?_) (fun h => ?_)
  · rw [List.getElem_append_left hj]; exact ha _ (List.getElem_mem hj)
  · rw [List.getElem_append_right (Nat.le_refl _)]
    cases r with
    | nil => simp at h
    | cons c r => simp only [Nat.sub_self, List.getElem_cons_zero]; exact hr
theorem blk_digit (c : UInt8) (l : List UInt8) (h : digit c = true) : blk false (c :: l) = (0, false) := by
  unfold digit at h
  simp at h
  rw [blk, if_neg (by omega), if_neg (by omega), if_neg (by omega)]
/-- Digits, and what is no digit behind them. -/
theorem tok_digits (c : UInt8) (a r : List UInt8) (ha : ∀ x ∈ c :: a, digit x = true) (hr : beg digit r = false) :
    tok (c :: a ++ r) 0 = tokOf 0 false (if 2147483647 < val (c :: a) ∨ (c.toNat = 48 ∧ 1 < (c :: a).length) ∨ beg letter r = true then none else some ⟨1, c :: a, val (c :: a), (c :: a).length⟩) := by
  have hc := ha c List.mem_cons_self
  have e : c :: a ++ r = c :: (a ++ r) := rfl
  unfold tok
  rw [e, List.drop_zero, blk_digit c _ hc]
  simp only [Nat.add_zero, List.drop_zero]
  rw [piece_digit c _ hc, pNum_is c _ hc, ← e, hd_digits _ _ ha hr, List.take_left, List.drop_left]
end Go.Proofs.Ytkaacmghgobhmaa.Lx
end
section
namespace Go.Proofs.Ytkaacmghgobhmaa.L
open Go.RowKit
set_option linter.unusedVariables false
/-- A text of one byte. -/
theorem conv_one (c : Nat) (hc : c < 256) (W : World) : (convert 24 9 (.slice (some ⟨W.heap.size, 0, none⟩) 1 1)).run Try.prog (W.alloc (.cells #[.int .u8 (c : Int)] 5)) = .ok (.string ⟨#[UInt8.ofNat c]⟩) (W.alloc (.cells #[.int .u8 (c : Int)] 5)) := by
  have := run_convert_bytes_back (P := Try.prog) (W.alloc (.cells #[.int .u8 (c : Int)] 5)) 24 9 5 ⟨W.heap.size, 0, none⟩ 1 [UInt8.ofNat c] Try.underlying24 Try.underlying5 Try.underlying9 (fun j hj => by
    have hj0 : j = 0 := by simpa using hj
    subst hj0
    have e : (UInt8.ofNat c).toNat = c := by rw [UInt8.toNat_ofNat']; omega
    simp [Addr.add, e])
  exact this
theorem conv_at (c b : Nat) (hc : c < 256) (W : World) (h : W.cell? ⟨b, 0, none⟩ = some (.int .u8 (c : Int))) : (convert 24 9 (.slice (some ⟨b, 0, none⟩) 1 1)).run Try.prog W = .ok (.string ⟨#[UInt8.ofNat c]⟩) W := by
  have := run_convert_bytes_back (P := Try.prog) W 24 9 5 ⟨b, 0, none⟩ 1 [UInt8.ofNat c] Try.underlying24 Try.underlying5 Try.underlying9 (fun j hj => by
    have hj0 : j = 0 := by simpa using hj
    subst hj0
    have e : (UInt8.ofNat c).toNat = c := by rw [UInt8.toNat_ofNat']; omega
    simp [Addr.add, e, h])
  exact this
set_option maxRecDepth 100000 in
set_option maxHeartbeats 2000000 in
theorem rdigits_small (n : Nat) (w : World) (h : n < 10) : Calls Try.prog 32 #[.int .i64 (n : Int)] w fun e w' => e = .returned (.string ⟨(Lx.dg n).toArray⟩) ∧ Below w.heap.size w w' := by
  have h1 : (n : Int) < 10 := by omega
  have h2 : ¬ (n : Int) < 0 := by omega
  have h3 : (0 : Int) ≤ n := by omega
  have hcv := conv_one (48 + n) (by omega)
  rw [show ((48 + n : Nat) : Int) = 48 + (n : Int) by omega] at hcv
  have HE : Hid (Lx.dg n = [UInt8.ofNat (48 + n)]) := Lx.dg_small h
  go_enter Try.func32, Try.ntmps32
  go_wp2_with fail
  go_ret
  exact ⟨by rw [HE.out]; simp, (Below.refl _ _).alloc (Nat.le_refl _) _⟩
theorem conv_drew (c : Nat) (hc : c < 256) (W : World) : (convert 24 9 (.slice (some ⟨W.heap.size, 0, none⟩) 1 1)).run Try.prog (W.alloc (.cells #[.int .u8 (c : Int)] 5)).drew = .ok (.string ⟨#[UInt8.ofNat c]⟩) (W.alloc (.cells #[.int .u8 (c : Int)] 5)).drew :=
  conv_at c W.heap.size hc _ (by simp)
theorem after_call {w w4 : World} {c : Int} (hb : Below (w.alloc (.cells #[.int .u8 c] 5)).heap.size (w.alloc (.cells #[.int .u8 c] 5)) w4) : w4.cell? ⟨w.heap.size, 0, none⟩ = some (.int .u8 c) := (hb.cell (by simp)).trans (by simp)
theorem after_call2 {w w4 : World} {c : Int} (hb : Below (w.alloc (.cells #[.int .u8 c] 5)).drew.heap.size (w.alloc (.cells #[.int .u8 c] 5)).drew w4) : w4.cell? ⟨w.heap.size, 0, none⟩ = some (.int .u8 c) := (hb.cell (by simp)).trans (by simp)
theorem bel_call {w w4 : World} {c : Int} (hb : Below (w.alloc (.cells #[.int .u8 c] 5)).heap.size (w.alloc (.cells #[.int .u8 c] 5)) w4) : Below w.heap.size w w4 := ((Below.refl _ _).alloc (Nat.le_refl _) _).trans (hb.mono (by simp))
theorem bel_call2 {w w4 : World} {c : Int} (hb : Below (w.alloc (.cells #[.int .u8 c] 5)).drew.heap.size (w.alloc (.cells #[.int .u8 c] 5)).drew w4) : Below w.heap.size w w4 := (((Below.refl _ _).alloc (Nat.le_refl _) _).drew).trans (hb.mono (by simp))
theorem bel_call0 {w w4 : World} (hb : Below w.drew.heap.size w.drew w4) : Below w.heap.size w w4 := (Below.refl _ _).drew.trans (hb.mono (by simp))
theorem string_add (a b : List UInt8) : (⟨a.toArray⟩ : ByteArray) ++ ⟨b.toArray⟩ = ⟨(a ++ b).toArray⟩ := by
  apply ByteArray.ext; simp
set_option maxRecDepth 100000 in
set_option maxHeartbeats 4000000 in
theorem rdigits_step (n : Nat) (w : World) (D : List UInt8) (h : ¬ n < 10) (hn : n ≤ 4294967295) (hD : D.length ≤ 20)
    (HD : Hid (∀ (K : Int) W, K = ((n / 10 : Nat) : Int) → Calls Try.prog 32 #[.int .i64 K] W fun e w' => e = .returned (.string ⟨D.toArray⟩) ∧ Below W.heap.size W w')) :
    Calls Try.prog 32 #[.int .i64 (n : Int)] w fun e w' => e = .returned (.string ⟨(D ++ [UInt8.ofNat (48 + n % 10)]).toArray⟩) ∧ Below w.heap.size w w' := by
  have h1 : ¬ (n : Int) < 10 := by omega
  have h2 : ¬ (n : Int) < 0 := by omega
  have h3 : (0 : Int) ≤ n := by omega
  have h4 : (n : Int) ≤ 4294967295 := by omega
  have h5 : (0 : Int) ≤ (n : Int) % 10 := by omega
  have h6 : (n : Int) % 10 < 10 := by omega
  have hw1 : IntKind.i64.wrap ((n : Int) / 10) = (n : Int) / 10 := by rw [IntKind.wrap_i64]; omega
  have htm : (n : Int).tmod 10 = (n : Int) % 10 := Int.tmod_eq_emod_of_nonneg h3
  have hw2 : IntKind.i64.wrap (48 + (n : Int) % 10) = 48 + (n : Int) % 10 := by rw [IntKind.wrap_i64]; omega
  have hw3 : IntKind.u8.wrap (48 + (n : Int) % 10) = 48 + (n : Int) % 10 := by rw [IntKind.wrap_u8]; omega
  have hcv := conv_one (48 + n % 10) (by omega)
  have hca := fun b => conv_at (48 + n % 10) b (by omega)
  have hcd := conv_drew (48 + n % 10) (by omega)
  rw [show ((48 + n % 10 : Nat) : Int) = 48 + (n : Int) % 10 by omega] at hcv hca hcd
  have HCA : Hid (_) := hca
  clear hca
  have hsz : (⟨D.toArray⟩ : ByteArray).size = D.length := rfl
  have hs1 : ¬ 9223372036854775807 < D.length + 1 := by omega
  have HE : Hid ((⟨D.toArray⟩ : ByteArray) ++ ⟨#[48 + UInt8.ofNat (n % 10)]⟩ = ⟨(D ++ [UInt8.ofNat (48 + n % 10)]).toArray⟩) := by
    show _ = _
    have := string_add D [UInt8.ofNat (48 + n % 10)]
    rw [← this]; simp
  go_enter Try.func32, Try.ntmps32
  go_wp2_with fail
  go_region_with (first | (go_at_call 32; refine Calls.mono (HD.out _ _ (by omega)) ?_; rintro e w4 ⟨rfl, hb4⟩; first | (have hc4 := after_call hb4; have hcv4 := HCA.out _ _ hc4; have hB4 := bel_call hb4) | (have hc4 := after_call2 hb4; have hcv4 := HCA.out _ _ hc4; have hB4 := bel_call2 hb4) | (have hB4 := bel_call0 hb4)))
  all_goals
    go_wp2_with fail
    go_ret
    refine ⟨(show Ending.returned (Value.string ((⟨D.toArray⟩ : ByteArray) ++ ⟨#[48 + UInt8.ofNat (n % 10)]⟩)) = _ from by rw [HE.out]), ?_⟩
    repeat (first | with_reducible exact hB4 | (with_reducible refine Below.drew ?_) | (with_reducible refine Below.alloc ?_ (by first | exact hB4.size | (simp; exact hB4.size)) _))
theorem rdigits_any : ∀ (n : Nat) (w : World), n ≤ 4294967295 → Calls Try.prog 32 #[.int .i64 (n : Int)] w fun e w' => e = .returned (.string ⟨(Lx.dg n).toArray⟩) ∧ Below w.heap.size w w' := by
  intro n
  induction n using Nat.strongRecOn with
  | _ n ih =>
    intro w hn
    by_cases h : n < 10
    · exact rdigits_small n w h
    · rw [Lx.dg_big h]
      exact rdigits_step n w (Lx.dg (n / 10)) h hn (Nat.le_trans (Lx.dg_max 10 (n / 10) (by omega) (by omega)) (by omega)) (fun K W hK => by subst hK; exact ih (n / 10) (by omega) W (by omega))
end Go.Proofs.Ytkaacmghgobhmaa.L
end
section
namespace Go.Proofs.Ytkaacmghgobhmaa.W8
open Go.RowKit
set_option linter.unusedVariables false
theorem dg_short : ∀ n, n ≤ 200 → (Lx.dg n).length ≤ 20 := by
  have h : (List.range 201).all (fun n => decide ((Lx.dg n).length ≤ 20)) = true := by decide +kernel
  intro n hn
  exact of_decide_eq_true (List.all_eq_true.1 h n (List.mem_range.2 (by omega)))
theorem digits8 (m : Nat) (hm : m ≤ 200) (V : World) : Calls Try.prog 32 #[.int .i64 (m : Int)] V fun e w' => ∃ s : ByteArray, e = .returned (.string s) ∧ s.size ≤ 20 ∧ Below V.heap.size V w' := (L.rdigits_any m V (by omega)).mono (by
  rintro e w' ⟨rfl, hb⟩
  exact ⟨_, rfl, by show (Lx.dg m).length ≤ 20; exact dg_short m hm, hb⟩)
end Go.Proofs.Ytkaacmghgobhmaa.W8
end
