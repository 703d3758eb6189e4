-- PROVED: the reference's GetText (1.2).
import Derived.Test.YtmjmlccdgdakdaaVRefGet
import Derived.Test.YtmjmlccdgdakdaaVText
namespace Go.Proofs.Ytmjmlccdgdakdaa.V
open Go.RowKit
attribute [local go_sem ↓] Go.wp_at_zero Go.wp_at_succ
def saidOf (r : List UInt8 × Nat × Nat) : Value := .agg #[.string ⟨r.1.toArray⟩, .int .i64 (r.2.1 : Int), .int .i64 (r.2.2 : Int)]
theorem get_ok {l : List UInt8} {p : Int} (h : (Vn.get l p).2.2 = 0) : (Vn.get l p).2.1 ≤ l.length ∧ -9223372036854775808 ≤ (Vn.get l p).1 ∧ (Vn.get l p).1 ≤ 9223372036854775807 := by
  unfold Vn.get at h ⊢
  by_cases h1 : p < 0 ∨ (l.length : Int) < p
  · rw [if_pos h1] at h; simp at h
  · rw [if_neg h1] at h ⊢
    by_cases h2 : (Vn.getU (l.drop p.toNat)).2.2 = 0
    · rw [if_pos h2]
      have hok := Vn.getU_ok (l := l.drop p.toNat) (v := (Vn.getU (l.drop p.toNat)).1) (c := (Vn.getU (l.drop p.toNat)).2.1) (by rw [← h2])
      have hb := Vn.unzig_bd _ hok.1
      have hl := hok.2.2.1
      rw [List.length_drop] at hl
      exact ⟨by simp only; omega, hb.1, hb.2⟩
    · rw [if_neg h2] at h; exact absurd h h2
theorem said_cells {w w1 : World} (hB : Below (w.heap.size + 1) (w.alloc (.cells #[.string ⟨#[]⟩, .int .i64 0, .int .i64 0] 32)) w1) :
    w1.cell? ⟨w.heap.size, 0, none⟩ = some (.string ⟨#[]⟩) ∧ w1.cell? ⟨w.heap.size, 1, none⟩ = some (.int .i64 0) ∧ w1.cell? ⟨w.heap.size, 2, none⟩ = some (.int .i64 0) ∧
    w1.frozen? ⟨w.heap.size, 0, none⟩ = false ∧ w1.frozen? ⟨w.heap.size, 1, none⟩ = false ∧ w1.frozen? ⟨w.heap.size, 2, none⟩ = false := by
  refine ⟨?_, ?_, ?_, ?_, ?_, ?_⟩
  · rw [hB.cell (Nat.lt_succ_self _)]; simp
  · rw [hB.cell (Nat.lt_succ_self _)]; simp
  · rw [hB.cell (Nat.lt_succ_self _)]; simp
  · rw [hB.frozen (Nat.lt_succ_self _)]; simp
  · rw [hB.frozen (Nat.lt_succ_self _)]; simp
  · rw [hB.frozen (Nat.lt_succ_self _)]; simp
theorem alloc_at (W : World) (n : Nat) (h : W.heap.size = n) (C : Array Value) (t : TypeId) (i : Nat) : (W.alloc (.cells C t)).drew.cell? ⟨n, i, none⟩ = C[i]? := by
  subst h
  exact World.cell?_alloc_new W C t i
theorem said_keep (w1 : World) (a b c : Addr) (x y z : Value) (C : Array Value) (t : TypeId) (i : Nat) :
    ((((w1.setCell a x).setCell b y).setCell c z).alloc (.cells C t)).drew.cell? ⟨w1.heap.size, i, none⟩ = C[i]? := alloc_at _ _ (by simp [World.setCell]) C t i
set_option maxRecDepth 100000 in
set_option maxHeartbeats 1000000 in
theorem rgetText_any (s : ByteArray) (p : Int) (w : World) (hs : s.size ≤ 1000000) :
    Calls Try.prog 30 #[.string s, .int .i64 p] w fun e w' => e = .returned (saidOf (Vn.getText s.data.toList p)) ∧ Below w.heap.size w w' := by
  have hsz := size_list s
  have HF : Hid (∀ w, _) := fun w => rget_any s p w (by unfold maxLen; omega)
  have hok := get_ok (l := s.data.toList) (p := p)
  generalize hg : Vn.get s.data.toList p = g at HF hok
  obtain ⟨N, q, E⟩ := g
  simp only at hok
  have HF2 : Hid (∀ w, Calls Try.prog 29 #[.string s, .int .i64 p] w fun e w' => e = .returned (.agg #[.int .i64 N, .int .i64 (q : Int), .int .i64 (E : Int)]) ∧ Below w.heap.size w w') := HF
  clear HF
  by_cases hE : E = 0
  · subst hE
    obtain ⟨h1, h2, h3⟩ := hok rfl
    rw [hsz] at h1
    have HV : Hid (Vn.getText s.data.toList p = Vn.gt1 s.data.toList N q) := (show _ = _ from by unfold Vn.getText; rw [hg, if_pos rfl])
    clear hok hg
    generalize hr : Vn.getText s.data.toList p = r at HV
    clear hr
    by_cases c1 : N < 0
    · have HW : Hid (r = ([], 0, 4)) := (show _ = _ from by rw [HV.out]; unfold Vn.gt1; rw [if_pos (.inl c1)])
      clear hsz HV
      go_enter Try.func30, Try.ntmps30
      go_wp2_with fail
      refine Calls.mono (HF2.out _) ?_
      rintro e w1 ⟨rfl, hb1⟩
      have hB : Below (w.heap.size + 1) (w.alloc (.cells #[.string ⟨#[]⟩, .int .i64 0, .int .i64 0] 32)) w1 := hb1.mono (by simp)
      obtain ⟨q0, q1, q2, f0, f1, f2⟩ := said_cells hB
      have hlt1 : w.heap.size < w1.heap.size := by have := hb1.size; simp at this; omega
      have hBB := ((Below.refl w.heap.size w).alloc (Nat.le_refl _) (.cells #[.string ⟨#[]⟩, .int .i64 0, .int .i64 0] 32)).trans (hB.mono (Nat.le_succ _))
      clear hb1 hB
      go_wp2_with fail
      refine bodyPost_ret (v := .agg #[.string ⟨#[]⟩, .int .i64 0, .int .i64 4]) (by simp [results, Try.results30, go_sem, *]) rfl ⟨by rw [HW.out]; rfl, ?_⟩
      repeat (first | exact hBB | (refine Below.drew ?_) | (refine Below.setCell ?_ (by exact Nat.le_refl _) _) | (refine Below.alloc ?_ (by simp; omega) _))
    by_cases c2 : 4096 < N
    · have HW : Hid (r = ([], 0, 4)) := (show _ = _ from by rw [HV.out]; unfold Vn.gt1; rw [if_pos (.inr c2)])
      clear hsz HV
      go_enter Try.func30, Try.ntmps30
      go_wp2_with fail
      refine Calls.mono (HF2.out _) ?_
      rintro e w1 ⟨rfl, hb1⟩
      have hB : Below (w.heap.size + 1) (w.alloc (.cells #[.string ⟨#[]⟩, .int .i64 0, .int .i64 0] 32)) w1 := hb1.mono (by simp)
      obtain ⟨q0, q1, q2, f0, f1, f2⟩ := said_cells hB
      have hlt1 : w.heap.size < w1.heap.size := by have := hb1.size; simp at this; omega
      have hBB := ((Below.refl w.heap.size w).alloc (Nat.le_refl _) (.cells #[.string ⟨#[]⟩, .int .i64 0, .int .i64 0] 32)).trans (hB.mono (Nat.le_succ _))
      clear hb1 hB
      go_wp2_with fail
      refine bodyPost_ret (v := .agg #[.string ⟨#[]⟩, .int .i64 0, .int .i64 4]) (by simp [results, Try.results30, go_sem, *]) rfl ⟨by rw [HW.out]; rfl, ?_⟩
      repeat (first | exact hBB | (refine Below.drew ?_) | (refine Below.setCell ?_ (by exact Nat.le_refl _) _) | (refine Below.alloc ?_ (by simp; omega) _))
    have g1 : 0 ≤ N := by omega
    have g2 : N ≤ 4096 := by omega
    have g3 : (q : Int) ≤ (s.size : Int) := by omega
    by_cases c3 : (s.size : Int) < (q : Int) + N
    · have HW : Hid (r = ([], 0, 3)) := (show _ = _ from by rw [HV.out]; unfold Vn.gt1; rw [if_neg (by omega), if_pos (by omega)])
      clear hsz HV
      go_enter Try.func30, Try.ntmps30
      go_wp2_with fail
      refine Calls.mono (HF2.out _) ?_
      rintro e w1 ⟨rfl, hb1⟩
      have hB : Below (w.heap.size + 1) (w.alloc (.cells #[.string ⟨#[]⟩, .int .i64 0, .int .i64 0] 32)) w1 := hb1.mono (by simp)
      obtain ⟨q0, q1, q2, f0, f1, f2⟩ := said_cells hB
      have hlt1 : w.heap.size < w1.heap.size := by have := hb1.size; simp at this; omega
      have hBB := ((Below.refl w.heap.size w).alloc (Nat.le_refl _) (.cells #[.string ⟨#[]⟩, .int .i64 0, .int .i64 0] 32)).trans (hB.mono (Nat.le_succ _))
      clear hb1 hB
      go_wp2_with fail
      refine bodyPost_ret (v := .agg #[.string ⟨#[]⟩, .int .i64 0, .int .i64 3]) (by simp [results, Try.results30, go_sem, *]) rfl ⟨by rw [HW.out]; rfl, ?_⟩
      repeat (first | exact hBB | (refine Below.drew ?_) | (refine Below.setCell ?_ (by exact Nat.le_refl _) _) | (refine Below.alloc ?_ (by simp; omega) _))
    obtain ⟨m, rfl⟩ := Int.eq_ofNat_of_zero_le (show 0 ≤ N by omega)
    have HW : Hid (r = ((s.data.toList.drop q).take m, q + m, 0)) := (show _ = _ from by rw [HV.out]; unfold Vn.gt1; rw [if_neg (by omega), if_neg (by omega)]; simp)
    clear hsz HV
    have hw1 : IntKind.i64.wrap ((q : Int) + (m : Int)) = (q : Int) + (m : Int) := by rw [IntKind.wrap_i64]; omega
    have hs1 : (0 : Int) ≤ (q : Int) := by omega
    have hs2 : (q : Int) ≤ (q : Int) + (m : Int) := by omega
    have hs3 : (q : Int) + (m : Int) ≤ (s.size : Int) := by omega
    go_enter Try.func30, Try.ntmps30
    go_wp2_with fail
    refine Calls.mono (HF2.out _) ?_
    rintro e w1 ⟨rfl, hb1⟩
    have hB : Below (w.heap.size + 1) (w.alloc (.cells #[.string ⟨#[]⟩, .int .i64 0, .int .i64 0] 32)) w1 := hb1.mono (by simp)
    obtain ⟨q0, q1, q2, f0, f1, f2⟩ := said_cells hB
    have hlt1 : w.heap.size < w1.heap.size := by have := hb1.size; simp at this; omega
    have hBB := ((Below.refl w.heap.size w).alloc (Nat.le_refl _) (.cells #[.string ⟨#[]⟩, .int .i64 0, .int .i64 0] 32)).trans (hB.mono (Nat.le_succ _))
    clear hb1 hB
    have hnn : w.heap.size ≠ w1.heap.size := by omega
    have hnn2 : w1.heap.size ≠ w.heap.size := by omega
    go_wp2_with fail
    have hb2 : Below (w.heap.size + 1) w1 (w1.alloc (.cells #[.int .i64 (m : Int), .int .i64 (q : Int), .int .i64 0] 65)) := (Below.refl _ _).alloc (by omega) _
    have p0 : (w1.alloc (.cells #[.int .i64 (m : Int), .int .i64 (q : Int), .int .i64 0] 65)).cell? ⟨w1.heap.size, 0, none⟩ = some (.int .i64 (m : Int)) := by simp
    have p1 : (w1.alloc (.cells #[.int .i64 (m : Int), .int .i64 (q : Int), .int .i64 0] 65)).cell? ⟨w1.heap.size, 1, none⟩ = some (.int .i64 (q : Int)) := by simp
    generalize w1.alloc (.cells #[.int .i64 (m : Int), .int .i64 (q : Int), .int .i64 0] 65) = w2 at hb2 p0 p1 ⊢
    have r0 := (hb2.cell (p := ⟨w.heap.size, 0, none⟩) (Nat.lt_succ_self _)).trans q0
    have r1 := (hb2.cell (p := ⟨w.heap.size, 1, none⟩) (Nat.lt_succ_self _)).trans q1
    have r2 := (hb2.cell (p := ⟨w.heap.size, 2, none⟩) (Nat.lt_succ_self _)).trans q2
    have k0 := (hb2.frozen (p := ⟨w.heap.size, 0, none⟩) (Nat.lt_succ_self _)).trans f0
    have k1 := (hb2.frozen (p := ⟨w.heap.size, 1, none⟩) (Nat.lt_succ_self _)).trans f1
    have k2 := (hb2.frozen (p := ⟨w.heap.size, 2, none⟩) (Nat.lt_succ_self _)).trans f2
    have hB2 : Below w.heap.size w w2 := hBB.trans (hb2.mono (Nat.le_succ _))
    have hlt2 : w.heap.size < w2.heap.size := by have := hb2.size; omega
    clear hb2 q0 q1 q2 f0 f1 f2
    go_region_held3 (fun w' => w'.cell? ⟨w1.heap.size, 0, none⟩ = some (.int .i64 (m : Int)) ∧ w'.cell? ⟨w1.heap.size, 1, none⟩ = some (.int .i64 (q : Int))) (go_keep) (fail)
    have HX : Hid (s.extract q ((q : Int) + (m : Int)).toNat = ⟨((s.data.toList.drop q).take m).toArray⟩) := (show _ = _ from by rw [show ((q : Int) + (m : Int)).toNat = q + m by omega, extract_eq])
    go_wp2_with fail
    refine bodyPost_ret (v := .agg #[.string (s.extract q ((q : Int) + (m : Int)).toNat), .int .i64 ((q : Int) + (m : Int)), .int .i64 0]) (by simp [results, Try.results30, go_sem, r0, r1, r2]) rfl ⟨by rw [HW.out, HX.out]; rfl, ?_⟩
    repeat (first | exact hB2 | (refine Below.drew ?_) | (refine Below.setCell ?_ (by exact Nat.le_refl _) _))
  · have HV : Hid (Vn.getText s.data.toList p = ([], 0, E)) := (show _ = _ from by unfold Vn.getText; rw [hg, if_neg hE])
    have hne : ((E : Int) != 0) = true := by rw [bne_iff_ne]; omega
    clear hok hg hE
    generalize hr : Vn.getText s.data.toList p = r at HV
    clear hr
    go_enter Try.func30, Try.ntmps30
    go_wp2_with fail
    refine Calls.mono (HF2.out _) ?_
    rintro e w1 ⟨rfl, hb1⟩
    have hB : Below (w.heap.size + 1) (w.alloc (.cells #[.string ⟨#[]⟩, .int .i64 0, .int .i64 0] 32)) w1 := hb1.mono (by simp)
    obtain ⟨q0, q1, q2, f0, f1, f2⟩ := said_cells hB
    have hlt1 : w.heap.size < w1.heap.size := by have := hb1.size; simp at this; omega
    have hBB := ((Below.refl w.heap.size w).alloc (Nat.le_refl _) (.cells #[.string ⟨#[]⟩, .int .i64 0, .int .i64 0] 32)).trans (hB.mono (Nat.le_succ _))
    clear hb1 hB
    go_wp2_with fail
    refine bodyPost_ret (v := .agg #[.string ⟨#[]⟩, .int .i64 0, .int .i64 (E : Int)]) (by simp [results, Try.results30, go_sem, *]) rfl ⟨by rw [HV.out]; rfl, ?_⟩
    repeat (first | exact hBB | (refine Below.drew ?_) | (refine Below.setCell ?_ (by exact Nat.le_refl _) _) | (refine Below.alloc ?_ (by simp; omega) _))
end Go.Proofs.Ytmjmlccdgdakdaa.V
