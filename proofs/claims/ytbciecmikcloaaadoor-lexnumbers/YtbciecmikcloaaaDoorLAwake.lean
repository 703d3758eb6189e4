/- awake, same: by their contracts. -/
import Derived.Test.YtbciecmikcloaaaDoorLAll
import Derived.Deep.QuietTactic
import Derived.BigQuiet
namespace Go.Proofs.YtbciecmikcloaaaDoor.L
open Go.RowKit
set_option linter.unusedVariables false
theorem ex_yield : Lx.isWord [121, 105, 101, 108, 100] = true := by decide
theorem ex_a1 : Lx.isWord [97, 49] = false := by decide
theorem ex_tok : Lx.tok [97, 49, 32, 61, 32, 50] 0 = ⟨3, [97, 49], 0, 0, false, 2⟩ := by rfl
set_option maxRecDepth 100000 in
set_option maxHeartbeats 1000000 in
theorem awake_any (w : World) (hg : Sig w) : Calls Tryd.prog 9 #[] w fun e w' => e = .returned (.bool true) ∧ Below w.heap.size w w' := by
  have HN : Hid (∀ W, Below w.heap.size w W → Calls Tryd.prog 10 #[.string ⟨#[97, 49, 32, 61, 32, 50]⟩, .int .i64 0] W fun e w' => e = .returned (.agg #[.int .i64 3, .string ⟨#[97, 49]⟩, .int .i64 0, .int .i64 0, .bool false]) ∧ Below W.heap.size W w') := fun W hW => by
    have h := Next_any ⟨#[97, 49, 32, 61, 32, 50]⟩ 0 W (by decide) (hg.below hW)
    rw [show plc 0 (⟨#[97, 49, 32, 61, 32, 50]⟩ : ByteArray).size = 0 from rfl] at h
    rw [show (⟨#[97, 49, 32, 61, 32, 50]⟩ : ByteArray).data.toList = [97, 49, 32, 61, 32, 50] from rfl, ex_tok] at h
    exact h
  have HY : Hid (∀ W, Calls Tryd.prog 15 #[.string ⟨#[121, 105, 101, 108, 100]⟩] W fun e w' => e = .returned (.bool true) ∧ w' = W) := fun W => by
    have h := word_any ⟨#[121, 105, 101, 108, 100]⟩ W
    rw [show (⟨#[121, 105, 101, 108, 100]⟩ : ByteArray).data.toList = [121, 105, 101, 108, 100] from rfl, ex_yield] at h
    exact h
  have HA : Hid (∀ W, Calls Tryd.prog 15 #[.string ⟨#[97, 49]⟩] W fun e w' => e = .returned (.bool false) ∧ w' = W) := fun W => by
    have h := word_any ⟨#[97, 49]⟩ W
    rw [show (⟨#[97, 49]⟩ : ByteArray).data.toList = [97, 49] from rfl, ex_a1] at h
    exact h
  clear hg
  go_enter Tryd.func9, Tryd.ntmps9
  go_wp2_with fail
  refine Calls.mono (HN.out _ (Below.refl _ _)) ?_
  rintro e w1 ⟨rfl, hb1⟩
  clear HN
  go_wp2_with fail
  refine Calls.mono (HY.out _) ?_
  rintro e w' ⟨rfl, rfl⟩
  clear HY
  go_wp2_with fail
  refine Calls.mono (HA.out _) ?_
  rintro e w' ⟨rfl, rfl⟩
  clear HA
  go_wp2_with fail
  go_ret
  exact ⟨rfl, hb1.trans ((Below.refl _ _).alloc hb1.size _)⟩
set_option maxRecDepth 100000 in
set_option maxHeartbeats 2000000 in
theorem same_any (a b : Option Addr) (n ca cb : Nat) (L : List Lx.Tk) (w : World) (hn : n = L.length) (hm : n ≤ 1000000) (hca : n ≤ ca) (hcb : n ≤ cb) (ha : Toks w a L) (hb : Toks w b L) :
    Calls Tryd.prog 12 #[.slice a n ca, .slice b n cb] w fun e w' => e = .returned (.bool true) ∧ Below w.heap.size w w' := by
  rcases Nat.eq_zero_or_pos n with h0 | h0
  · subst h0
    go_enter Tryd.func12, Tryd.ntmps12
    go_wp2_with fail
    go_loopw [5] (fun i W => i = .int .i64 0 ∧ W = w) (fun _ _ => 1)
    case atStart => exact ⟨rfl, rfl⟩
    case round =>
      obtain ⟨rfl, rfl⟩ := hrel
      go_wp2_with fail
      go_ret
      exact ⟨rfl, Below.refl _ _⟩
  · obtain ⟨ga, rfl, hga, ha⟩ := ha.resolve_left (by omega)
    obtain ⟨gb, rfl, hgb, hb⟩ := hb.resolve_left (by omega)
    have HA : Hid (∀ j (h : j < L.length), TokAt w ga (j * 5) L[j]) := ha
    have HB : Hid (∀ j (h : j < L.length), TokAt w gb (j * 5) L[j]) := hb
    have HLA : Hid (ga < w.heap.size) := hga
    have HLB : Hid (gb < w.heap.size) := hgb
    clear ha hb hga hgb
    go_enter Tryd.func12, Tryd.ntmps12
    go_wp2_with fail
    go_loopw [5] (fun i W => ∃ k : Nat, k ≤ n ∧ i = .int .i64 (k : Int) ∧ Hid (Below w.heap.size w W)) (fun i _ => n - (intOf i).toNat)
    case atStart => exact ⟨0, by omega, rfl, (show Below _ _ _ from Below.refl _ _)⟩
    case round =>
      obtain ⟨k, hk, rfl, HW⟩ := hrel
      by_cases hlt : k < n
      · have hlt' : (k : Int) < n := by omega
        obtain ⟨c0, c1, c2, c3, c4⟩ := HA.out k (by omega)
        obtain ⟨d0, d1, d2, d3, d4⟩ := HB.out k (by omega)
        generalize L[k]'(by omega) = t at *
        obtain ⟨tk, tt, tn, ta, tl, te⟩ := t
        simp only at c0 c1 c2 c3 c4 d0 d1 d2 d3 d4
        have a0 := (HW.out.cell (p := ⟨ga, k * 5, none⟩) HLA.out).trans c0
        have a1 := (HW.out.cell (p := ⟨ga, k * 5 + 1, none⟩) HLA.out).trans c1
        have a2 := (HW.out.cell (p := ⟨ga, k * 5 + 2, none⟩) HLA.out).trans c2
        have a3 := (HW.out.cell (p := ⟨ga, k * 5 + 3, none⟩) HLA.out).trans c3
        have a4 := (HW.out.cell (p := ⟨ga, k * 5 + 4, none⟩) HLA.out).trans c4
        have b0 := (HW.out.cell (p := ⟨gb, k * 5, none⟩) HLB.out).trans d0
        have b1 := (HW.out.cell (p := ⟨gb, k * 5 + 1, none⟩) HLB.out).trans d1
        have b2 := (HW.out.cell (p := ⟨gb, k * 5 + 2, none⟩) HLB.out).trans d2
        have b3 := (HW.out.cell (p := ⟨gb, k * 5 + 3, none⟩) HLB.out).trans d3
        have b4 := (HW.out.cell (p := ⟨gb, k * 5 + 4, none⟩) HLB.out).trans d4
        clear c0 c1 c2 c3 c4 d0 d1 d2 d3 d4 HA HB
        go_wp2_with fail
        go_quiet (fail)
        have HW' : Hid (Below w.heap.size w (wr.drewN nq)) := HW.out.trans (below_drewN _ _ _)
        go_wp2_with fail
        go_roundw
        case rel => exact ⟨k + 1, by omega, by go_num, HW'⟩
        case measure => simp [intOf]; omega
      · have hlt' : ¬ (k : Int) < n := by omega
        go_wp2_with fail
        go_ret
        exact ⟨rfl, HW.out⟩
end Go.Proofs.YtbciecmikcloaaaDoor.L
