/- Numbers and texts are read again, wherever they stand; cut, more is needed. -/
import Derived.Test.YtfelgifhendbbaaText
namespace Go.Proofs.Ytfelgifhendbbaa
open Go.RowKit
namespace Vn
theorem get_put (n : Int) (a b : List UInt8) (h1 : -9223372036854775808 ≤ n) (h2 : n ≤ 9223372036854775807) :
    get (a ++ put n ++ b) (a.length : Int) = (n, a.length + (put n).length, 0) := by
  unfold get
  have e : (a ++ put n ++ b).drop a.length = put n ++ b := by rw [List.append_assoc, List.drop_left]
  have l : (a ++ put n ++ b).length = a.length + (put n).length + b.length := by simp only [List.length_append]
  rw [if_neg (by omega), Int.toNat_natCast, e, getU_put n b h1 h2]
  simp [unzig_zig]
theorem get_cut (n : Int) (m : Nat) (h : m < (put n).length) : get ((put n).take m) 0 = (0, 0, 3) := by
  unfold get
  rw [if_neg (by omega), show (0 : Int).toNat = 0 from rfl, List.drop_zero, getU_cut n m h]
  simp
theorem get_out (l : List UInt8) (p : Int) (h : p < 0 ∨ (l.length : Int) < p) : get l p = (0, 0, 1) := by
  unfold get; rw [if_pos h]
theorem getText_text (t a b : List UInt8) (h : t.length ≤ 4096) : getText (a ++ text t ++ b) (a.length : Int) = (t, a.length + (text t).length, 0) := by
  have e : a ++ text t ++ b = a ++ put t.length ++ (t ++ b) := by unfold text; simp
  have g := get_put (t.length : Int) a (t ++ b) (by omega) (by omega)
  rw [← e] at g
  unfold getText
  rw [g, if_pos rfl]
  unfold gt1
  have l : (a ++ text t ++ b).length = a.length + (put t.length).length + t.length + b.length := by rw [e]; simp only [List.length_append]; omega
  have d : (a ++ text t ++ b).drop (a.length + (put t.length).length) = t ++ b := by
    rw [e, show a.length + (put t.length).length = (a ++ put t.length).length by simp, List.drop_left]
  rw [if_neg (by omega), if_neg (by simp only; omega)]
  simp only
  rw [d, Int.toNat_natCast, List.take_left]
  unfold text
  simp only [List.length_append]
  rw [Nat.add_assoc]
theorem getText_cut (t : List UInt8) (m : Nat) (h : t.length ≤ 4096) (hm : m < (text t).length) : getText ((text t).take m) 0 = ([], 0, 3) := by
  unfold getText
  by_cases hc : m < (put t.length).length
  · have e : (text t).take m = (put t.length).take m := by unfold text; rw [List.take_append_of_le_length (by omega)]
    rw [e, get_cut _ _ hc]; simp
  · have e : (text t).take m = [] ++ put t.length ++ t.take (m - (put t.length).length) := by
      unfold text; rw [List.take_append, List.take_of_length_le (by omega)]; simp
    have g := get_put (t.length : Int) [] (t.take (m - (put t.length).length)) (by omega) (by omega)
    rw [← e] at g
    rw [show (0 : Int) = (([] : List UInt8).length : Int) from rfl, g, if_pos rfl]
    unfold gt1
    have l : ((text t).take m).length = m := by rw [List.length_take]; omega
    have l2 : (text t).length = (put t.length).length + t.length := by unfold text; simp
    rw [if_neg (by omega), if_pos (by simp only [List.length_nil]; omega)]
end Vn
theorem cat_list (a b : ByteArray) : (a ++ b).data.toList = a.data.toList ++ b.data.toList := by simp
theorem cut_list (s : ByteArray) (m : Nat) : (s.extract 0 m).data.toList = s.data.toList.take m := by
  have := extract_eq s 0 m
  rw [Nat.zero_add] at this
  rw [this]; simp
theorem below_chain {a b c : World} (h : Below a.heap.size a b) (k : Below b.heap.size b c) : Below a.heap.size a c := h.trans (k.mono h.size)
end Go.Proofs.Ytfelgifhendbbaa
