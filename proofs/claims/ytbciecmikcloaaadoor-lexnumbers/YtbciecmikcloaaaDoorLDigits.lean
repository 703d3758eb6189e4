/- The reference's Digits by its contract. -/
import Derived.Test.YtbciecmikcloaaaDoorLRQuoted
import Derived.Test.YtbciecmikcloaaaDoorLxDg
import Derived.BigRegion
namespace Go.Proofs.YtbciecmikcloaaaDoor.L
open Go.RowKit
set_option linter.unusedVariables false
/-- A text of one byte. -/
theorem conv_one (c : Nat) (hc : c < 256) (W : World) : (convert 34 9 (.slice (some ⟨W.heap.size, 0, none⟩) 1 1)).run Tryd.prog (W.alloc (.cells #[.int .u8 (c : Int)] 5)) = .ok (.string ⟨#[UInt8.ofNat c]⟩) (W.alloc (.cells #[.int .u8 (c : Int)] 5)) := by
  have := run_convert_bytes_back (P := Tryd.prog) (W.alloc (.cells #[.int .u8 (c : Int)] 5)) 34 9 5 ⟨W.heap.size, 0, none⟩ 1 [UInt8.ofNat c] Tryd.underlying34 Tryd.underlying5 Tryd.underlying9 (fun j hj => by
    have hj0 : j = 0 := by simpa using hj
    subst hj0
    have e : (UInt8.ofNat c).toNat = c := by rw [UInt8.toNat_ofNat']; omega
    simp [Addr.add, e])
  exact this
theorem conv_at (c b : Nat) (hc : c < 256) (W : World) (h : W.cell? ⟨b, 0, none⟩ = some (.int .u8 (c : Int))) : (convert 34 9 (.slice (some ⟨b, 0, none⟩) 1 1)).run Tryd.prog W = .ok (.string ⟨#[UInt8.ofNat c]⟩) W := by
  have := run_convert_bytes_back (P := Tryd.prog) W 34 9 5 ⟨b, 0, none⟩ 1 [UInt8.ofNat c] Tryd.underlying34 Tryd.underlying5 Tryd.underlying9 (fun j hj => by
    have hj0 : j = 0 := by simpa using hj
    subst hj0
    have e : (UInt8.ofNat c).toNat = c := by rw [UInt8.toNat_ofNat']; omega
    simp [Addr.add, e, h])
  exact this
set_option maxRecDepth 100000 in
set_option maxHeartbeats 2000000 in
theorem rdigits_small (n : Nat) (w : World) (h : n < 10) : Calls Tryd.prog 19 #[.int .i64 (n : Int)] w fun e w' => e = .returned (.string ⟨(Lx.dg n).toArray⟩) ∧ Below w.heap.size w w' := by
  have h1 : (n : Int) < 10 := by omega
  have h2 : ¬ (n : Int) < 0 := by omega
  have h3 : (0 : Int) ≤ n := by omega
  have hcv := conv_one (48 + n) (by omega)
  rw [show ((48 + n : Nat) : Int) = 48 + (n : Int) by omega] at hcv
  have HE : Hid (Lx.dg n = [UInt8.ofNat (48 + n)]) := Lx.dg_small h
  go_enter Tryd.func19, Tryd.ntmps19
  go_wp2_with fail
  go_ret
  exact ⟨by rw [HE.out]; simp, (Below.refl _ _).alloc (Nat.le_refl _) _⟩
theorem conv_drew (c : Nat) (hc : c < 256) (W : World) : (convert 34 9 (.slice (some ⟨W.heap.size, 0, none⟩) 1 1)).run Tryd.prog (W.alloc (.cells #[.int .u8 (c : Int)] 5)).drew = .ok (.string ⟨#[UInt8.ofNat c]⟩) (W.alloc (.cells #[.int .u8 (c : Int)] 5)).drew :=
  conv_at c W.heap.size hc _ (by simp)
theorem after_call {w w4 : World} {c : Int} (hb : Below (w.alloc (.cells #[.int .u8 c] 5)).heap.size (w.alloc (.cells #[.int .u8 c] 5)) w4) : w4.cell? ⟨w.heap.size, 0, none⟩ = some (.int .u8 c) := (hb.cell (by simp)).trans (by simp)
theorem after_call2 {w w4 : World} {c : Int} (hb : Below (w.alloc (.cells #[.int .u8 c] 5)).drew.heap.size (w.alloc (.cells #[.int .u8 c] 5)).drew w4) : w4.cell? ⟨w.heap.size, 0, none⟩ = some (.int .u8 c) := (hb.cell (by simp)).trans (by simp)
theorem bel_call {w w4 : World} {c : Int} (hb : Below (w.alloc (.cells #[.int .u8 c] 5)).heap.size (w.alloc (.cells #[.int .u8 c] 5)) w4) : Below w.heap.size w w4 := ((Below.refl _ _).alloc (Nat.le_refl _) _).trans (hb.mono (by simp))
theorem bel_call2 {w w4 : World} {c : Int} (hb : Below (w.alloc (.cells #[.int .u8 c] 5)).drew.heap.size (w.alloc (.cells #[.int .u8 c] 5)).drew w4) : Below w.heap.size w w4 := (((Below.refl _ _).alloc (Nat.le_refl _) _).drew).trans (hb.mono (by simp))
theorem bel_call0 {w w4 : World} (hb : Below w.drew.heap.size w.drew w4) : Below w.heap.size w w4 := (Below.refl _ _).drew.trans (hb.mono (by simp))
theorem string_add (a b : List UInt8) : (⟨a.toArray⟩ : ByteArray) ++ ⟨b.toArray⟩ = ⟨(a ++ b).toArray⟩ := by
  apply ByteArray.ext; simp
set_option maxRecDepth 100000 in
set_option maxHeartbeats 4000000 in
theorem rdigits_step (n : Nat) (w : World) (D : List UInt8) (h : ¬ n < 10) (hn : n ≤ 4294967295) (hD : D.length ≤ 20)
    (HD : Hid (∀ (K : Int) W, K = ((n / 10 : Nat) : Int) → Calls Tryd.prog 19 #[.int .i64 K] W fun e w' => e = .returned (.string ⟨D.toArray⟩) ∧ Below W.heap.size W w')) :
    Calls Tryd.prog 19 #[.int .i64 (n : Int)] w fun e w' => e = .returned (.string ⟨(D ++ [UInt8.ofNat (48 + n % 10)]).toArray⟩) ∧ Below w.heap.size w w' := by
  have h1 : ¬ (n : Int) < 10 := by omega
  have h2 : ¬ (n : Int) < 0 := by omega
  have h3 : (0 : Int) ≤ n := by omega
  have h4 : (n : Int) ≤ 4294967295 := by omega
  have h5 : (0 : Int) ≤ (n : Int) % 10 := by omega
  have h6 : (n : Int) % 10 < 10 := by omega
  have hw1 : IntKind.i64.wrap ((n : Int) / 10) = (n : Int) / 10 := by rw [IntKind.wrap_i64]; omega
  have htm : (n : Int).tmod 10 = (n : Int) % 10 := Int.tmod_eq_emod_of_nonneg h3
  have hw2 : IntKind.i64.wrap (48 + (n : Int) % 10) = 48 + (n : Int) % 10 := by rw [IntKind.wrap_i64]; omega
  have hw3 : IntKind.u8.wrap (48 + (n : Int) % 10) = 48 + (n : Int) % 10 := by rw [IntKind.wrap_u8]; omega
  have hcv := conv_one (48 + n % 10) (by omega)
  have hca := fun b => conv_at (48 + n % 10) b (by omega)
  have hcd := conv_drew (48 + n % 10) (by omega)
  rw [show ((48 + n % 10 : Nat) : Int) = 48 + (n : Int) % 10 by omega] at hcv hca hcd
  have HCA : Hid (_) := hca
  clear hca
  have hsz : (⟨D.toArray⟩ : ByteArray).size = D.length := rfl
  have hs1 : ¬ 9223372036854775807 < D.length + 1 := by omega
  have HE : Hid ((⟨D.toArray⟩ : ByteArray) ++ ⟨#[48 + UInt8.ofNat (n % 10)]⟩ = ⟨(D ++ [UInt8.ofNat (48 + n % 10)]).toArray⟩) := by
    show _ = _
    have := string_add D [UInt8.ofNat (48 + n % 10)]
    rw [← this]; simp
  go_enter Tryd.func19, Tryd.ntmps19
  go_wp2_with fail
  go_region_with (first | (go_at_call 19; refine Calls.mono (HD.out _ _ (by omega)) ?_; rintro e w4 ⟨rfl, hb4⟩; first | (have hc4 := after_call hb4; have hcv4 := HCA.out _ _ hc4; have hB4 := bel_call hb4) | (have hc4 := after_call2 hb4; have hcv4 := HCA.out _ _ hc4; have hB4 := bel_call2 hb4) | (have hB4 := bel_call0 hb4)))
  all_goals
    go_wp2_with fail
    go_ret
    refine ⟨(show Ending.returned (Value.string ((⟨D.toArray⟩ : ByteArray) ++ ⟨#[48 + UInt8.ofNat (n % 10)]⟩)) = _ from by rw [HE.out]), ?_⟩
    repeat (first | with_reducible exact hB4 | (with_reducible refine Below.drew ?_) | (with_reducible refine Below.alloc ?_ (by first | exact hB4.size | (simp; exact hB4.size)) _))
theorem rdigits_any : ∀ (n : Nat) (w : World), n ≤ 4294967295 → Calls Tryd.prog 19 #[.int .i64 (n : Int)] w fun e w' => e = .returned (.string ⟨(Lx.dg n).toArray⟩) ∧ Below w.heap.size w w' := by
  intro n
  induction n using Nat.strongRecOn with
  | _ n ih =>
    intro w hn
    by_cases h : n < 10
    · exact rdigits_small n w h
    · rw [Lx.dg_big h]
      exact rdigits_step n w (Lx.dg (n / 10)) h hn (Nat.le_trans (Lx.dg_max 10 (n / 10) (by omega) (by omega)) (by omega)) (fun K W hK => by subst hK; exact ih (n / 10) (by omega) W (by omega))
end Go.Proofs.YtbciecmikcloaaaDoor.L
