-- PROVED: the reference's Text (1.2).
import Derived.Test.YtmjmlccdgdakdaaVRefPut
import Derived.Test.YtmjmlccdgdakdaaVText
namespace Go.Proofs.Ytmjmlccdgdakdaa.V
open Go.RowKit
set_option maxRecDepth 100000 in
set_option maxHeartbeats 400000 in
theorem rtext_any (s : ByteArray) (w : World) (hs : s.size ≤ 9223372036854775797) :
    Calls Try.prog 25 #[.string s] w fun e w' => e = .returned (.string ⟨(Vn.text s.data.toList).toArray⟩) ∧ Below w.heap.size w w' := by
  have hsz := size_list s
  have hpl := (Vn.put_len (s.size : Int)).2
  have HC : Hid (_) := cat_eq (Vn.put (s.size : Int)) s
  go_enter Try.func25, Try.ntmps25
  go_wp2_with fail
  refine (rput_any _ _ (by omega) (by omega)).mono ?_
  rintro e w1 ⟨rfl, hb⟩
  go_wp2_with fail
  go_ret
  exact ⟨by rw [HC.out]; rfl, hb⟩
end Go.Proofs.Ytmjmlccdgdakdaa.V
