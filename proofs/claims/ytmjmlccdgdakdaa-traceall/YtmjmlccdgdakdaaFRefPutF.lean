-- PROVED: the reference's 'PutFrame' and 'Used'.
import Derived.Test.YtmjmlccdgdakdaaFRef
namespace Go.Proofs.Ytmjmlccdgdakdaa.F
open Go.RowKit
attribute [local go_sem ↓] Go.wp_at_zero Go.wp_at_succ
set_option maxRecDepth 100000 in
set_option maxHeartbeats 800000 in
theorem rput_any (s : ByteArray) (w : World) :
    Calls Try.prog 22 #[.string s] w fun e w' => e = .returned (.agg #[.string ⟨(putE s.data.toList).1.toArray⟩, .int .i64 0, .int .i64 ((putE s.data.toList).2 : Int)]) ∧ Below w.heap.size w w' := by
  have hsz := V.size_list s
  by_cases h : 4096 < s.size
  · have HV : Hid (putE s.data.toList = ([], 6)) := (show putE s.data.toList = ([], 6) from by unfold putE; rw [if_pos (by omega)])
    clear hsz
    go_enter Try.func22, Try.ntmps22
    go_wp2_with fail
    exact bodyPost_ret (v := .agg #[.string ⟨#[]⟩, .int .i64 0, .int .i64 6]) (by simp [results, Try.results22, go_sem]) rfl ⟨by rw [HV.out]; rfl, (Below.refl _ _).alloc (Nat.le_refl _) _⟩
  · have HV : Hid (putE s.data.toList = (Fm.put s.data.toList, 0)) := (show putE s.data.toList = (Fm.put s.data.toList, 0) from by unfold putE; rw [if_neg (by omega)])
    have HA : Hid (_) := fun W => V.rput_any (s.size : Int) W (by omega) (by omega)
    have HB : Hid (_) := fun W => C.rput_any s W (by omega)
    have HC : Hid (_) := cat_eq (Vn.put (s.size : Int)) (Cm.put s.data.toList)
    have h2 : (⟨(Vn.put (s.size : Int)).toArray⟩ : ByteArray).size ≤ 10 := by rw [mk_size]; exact (Vn.put_len _).2
    have h3 : (⟨(Cm.put s.data.toList).toArray⟩ : ByteArray).size ≤ 4100 := by rw [mk_size, Cm.put_length]; omega
    have HP : Hid (Fm.put s.data.toList = Vn.put (s.size : Int) ++ Cm.put s.data.toList) := (show Fm.put s.data.toList = Vn.put (s.size : Int) ++ Cm.put s.data.toList from by unfold Fm.put; rw [hsz])
    clear hsz
    generalize (⟨(Vn.put (s.size : Int)).toArray⟩ : ByteArray) = A at HA HC h2
    generalize (⟨(Cm.put s.data.toList).toArray⟩ : ByteArray) = B at HB HC h3
    go_enter Try.func22, Try.ntmps22
    go_wp2_with fail
    refine Calls.mono (HA.out _) ?_
    rintro e w1 ⟨rfl, hb1⟩
    go_wp2_with fail
    refine Calls.mono (HB.out _) ?_
    rintro e w2 ⟨rfl, hb2⟩
    obtain ⟨q0, q1, q2, f0, f1, f2⟩ := cells3 rfl ((C.below_chain hb1 hb2).mono (by simp))
    have hlt1 : w.heap.size < w2.heap.size := by have := (C.below_chain hb1 hb2).size; simp at this; omega
    have hBB := ((Below.refl w.heap.size w).alloc (Nat.le_refl _) _).trans ((C.below_chain hb1 hb2).mono (by simp))
    clear hb1 hb2
    go_wp2_with fail
    refine bodyPost_ret (v := .agg #[.string (A ++ B), .int .i64 0, .int .i64 0]) (by simp [results, Try.results22, go_sem, *]) rfl ⟨by rw [HV.out, HC.out, HP.out]; rfl, ?_⟩
    repeat (first | exact hBB | (refine Below.drew ?_) | (refine Below.setCell ?_ (by exact Nat.le_refl _) _))
end Go.Proofs.Ytmjmlccdgdakdaa.F
