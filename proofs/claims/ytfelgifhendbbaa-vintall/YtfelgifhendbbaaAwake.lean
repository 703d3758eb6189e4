/- The laws of vint are awake: the document s example. -/
import Derived.Test.YtfelgifhendbbaaGet
namespace Go.Proofs.Ytfelgifhendbbaa
open Go.RowKit
theorem get_one : Vn.get [1] 0 = (-1, 1, 0) := by decide
theorem put_m1 : Vn.put (-1) = [1] := by decide
set_option maxRecDepth 100000 in
set_option maxHeartbeats 400000 in
theorem awake_any (w : World) : Calls Try.prog 9 #[] w fun e w' => e = .returned (.bool true) ∧ Below w.heap.size w w' := by
  have HG : Hid (_) := get_any ⟨#[1]⟩ 0 w (by decide)
  have HP : Hid (_) := put_any (-1) w (by decide) (by decide)
  rw [put_m1] at HP
  rw [show (⟨#[1]⟩ : ByteArray).data.toList = [1] from rfl, get_one] at HG
  go_enter Try.func9, Try.ntmps9
  go_wp2_with fail
  refine Calls.mono HG.out ?_
  rintro e w' ⟨rfl, rfl⟩
  go_wp2_with fail
  refine Calls.mono HP.out ?_
  rintro e w' ⟨rfl, hb⟩
  go_wp2_with (go_at_call 18; refine (err_any _ _).mono ?_; rintro e w' ⟨rfl, rfl⟩)
  go_ret
  exact ⟨rfl, hb⟩
end Go.Proofs.Ytfelgifhendbbaa
