/- awake by its contract, alone. -/
import Derived.Test.YtbciecmikcloaabDoorLNext
import Derived.Deep.QuietTactic
import Derived.BigQuiet
namespace Go.Proofs.YtbciecmikcloaabDoor.L
open Go.RowKit
set_option linter.unusedVariables false
theorem ex_yield : Lx.isWord [121, 105, 101, 108, 100] = true := by decide
theorem ex_a1 : Lx.isWord [97, 49] = false := by decide
theorem ex_tok : Lx.tok [97, 49, 32, 61, 32, 50] 0 = ⟨3, [97, 49], 0, 0, false, 2⟩ := by rfl
set_option maxRecDepth 100000 in
set_option maxHeartbeats 1000000 in
theorem awake_any (w : World) (hg : Sig w) : Calls Tryd.prog 5 #[] w fun e w' => e = .returned (.bool true) ∧ Below w.heap.size w w' := by
  have HN : Hid (∀ W, Below w.heap.size w W → Calls Tryd.prog 4 #[.string ⟨#[97, 49, 32, 61, 32, 50]⟩, .int .i64 0] W fun e w' => e = .returned (.agg #[.int .i64 3, .string ⟨#[97, 49]⟩, .int .i64 0, .int .i64 0, .bool false]) ∧ Below W.heap.size W w') := fun W hW => by
    have h := Next_any ⟨#[97, 49, 32, 61, 32, 50]⟩ 0 W (by decide) (hg.below hW)
    rw [show plc 0 (⟨#[97, 49, 32, 61, 32, 50]⟩ : ByteArray).size = 0 from rfl] at h
    rw [show (⟨#[97, 49, 32, 61, 32, 50]⟩ : ByteArray).data.toList = [97, 49, 32, 61, 32, 50] from rfl, ex_tok] at h
    exact h
  have HY : Hid (∀ W, Calls Tryd.prog 7 #[.string ⟨#[121, 105, 101, 108, 100]⟩] W fun e w' => e = .returned (.bool true) ∧ w' = W) := fun W => by
    have h := word_any ⟨#[121, 105, 101, 108, 100]⟩ W
    rw [show (⟨#[121, 105, 101, 108, 100]⟩ : ByteArray).data.toList = [121, 105, 101, 108, 100] from rfl, ex_yield] at h
    exact h
  have HA : Hid (∀ W, Calls Tryd.prog 7 #[.string ⟨#[97, 49]⟩] W fun e w' => e = .returned (.bool false) ∧ w' = W) := fun W => by
    have h := word_any ⟨#[97, 49]⟩ W
    rw [show (⟨#[97, 49]⟩ : ByteArray).data.toList = [97, 49] from rfl, ex_a1] at h
    exact h
  clear hg
  go_enter Tryd.func5, Tryd.ntmps5
  go_wp2_with fail
  refine Calls.mono (HN.out _ (Below.refl _ _)) ?_
  rintro e w1 ⟨rfl, hb1⟩
  clear HN
  go_wp2_with fail
  refine Calls.mono (HY.out _) ?_
  rintro e w' ⟨rfl, rfl⟩
  clear HY
  go_wp2_with fail
  refine Calls.mono (HA.out _) ?_
  rintro e w' ⟨rfl, rfl⟩
  clear HA
  go_wp2_with fail
  go_ret
  exact ⟨rfl, hb1.trans ((Below.refl _ _).alloc hb1.size _)⟩
end Go.Proofs.YtbciecmikcloaabDoor.L
