/- vint.Text by its contract. -/
import Derived.Test.YtfelgifhendbbaaGetText
namespace Go.Proofs.Ytfelgifhendbbaa
open Go.RowKit
namespace Vn
def text (t : List UInt8) : List UInt8 := put t.length ++ t
end Vn
theorem cat_eq (l : List UInt8) (s : ByteArray) : (⟨l.toArray⟩ ++ s : ByteArray) = ⟨(l ++ s.data.toList).toArray⟩ := by
  apply ByteArray.ext
  apply Array.ext'
  simp
theorem mk_list (s : ByteArray) : (⟨s.data.toList.toArray⟩ : ByteArray) = s := rfl
set_option maxRecDepth 100000 in
set_option maxHeartbeats 400000 in
theorem text_any (s : ByteArray) (w : World) (hs : s.size ≤ 9223372036854775797) :
    Calls Try.prog 16 #[.string s] w fun e w' => e = .returned (.string ⟨(Vn.text s.data.toList).toArray⟩) ∧ Below w.heap.size w w' := by
  have hsz := size_list s
  have hpl := (Vn.put_len (s.size : Int)).2
  have HC : Hid (_) := cat_eq (Vn.put (s.size : Int)) s
  go_enter Try.func16, Try.ntmps16
  go_wp2_with fail
  refine (put_any _ _ (by omega) (by omega)).mono ?_
  rintro e w1 ⟨rfl, hb⟩
  go_wp2_with fail
  go_ret
  exact ⟨by rw [HC.out]; rfl, hb⟩
end Go.Proofs.Ytfelgifhendbbaa
