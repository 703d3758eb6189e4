-- PROVED: what stands at a place: 'none', 'then', 'size', 'record' of package frame.
import Derived.Test.YtmjmlccdgdakdaaFMath
import Derived.Laws.ResultCell
namespace Go.Proofs.Ytmjmlccdgdakdaa.F
open Go.RowKit
theorem alloc_size (w : World) (o : Obj) : (w.alloc o).heap.size = w.heap.size + 1 := Array.size_push _
/-- Three cells that were laid, looked at later. -/
theorem cells3 {w w1 : World} {b : Nat} {x y z : Value} {t : TypeId} (hb : b = w.heap.size) (hB : Below (b + 1) (w.alloc (.cells #[x, y, z] t)) w1) :
    w1.cell? ⟨b, 0, none⟩ = some x ∧ w1.cell? ⟨b, 1, none⟩ = some y ∧ w1.cell? ⟨b, 2, none⟩ = some z ∧
    w1.frozen? ⟨b, 0, none⟩ = false ∧ w1.frozen? ⟨b, 1, none⟩ = false ∧ w1.frozen? ⟨b, 2, none⟩ = false := by
  subst hb
  refine ⟨?_, ?_, ?_, ?_, ?_, ?_⟩
  · rw [hB.cell (Nat.lt_succ_self _)]; simp
  · rw [hB.cell (Nat.lt_succ_self _)]; simp
  · rw [hB.cell (Nat.lt_succ_self _)]; simp
  · rw [hB.frozen (Nat.lt_succ_self _)]; simp
  · rw [hB.frozen (Nat.lt_succ_self _)]; simp
  · rw [hB.frozen (Nat.lt_succ_self _)]; simp
set_option maxRecDepth 100000 in
set_option maxHeartbeats 400000 in
theorem noneS_any (a : Int) (w : World) :
    Calls Try.prog 58 #[.int .i64 a] w fun e w' => e = .returned (.agg #[.string ⟨#[]⟩, .int .i64 0, .int .i64 a]) ∧ Below w.heap.size w w' := by
  go_enter Try.func58, Try.ntmps58
  go_wp2
  exact bodyPost_ret (by simp [results, Try.results58, go_sem]) rfl ⟨rfl, (Below.refl _ _).alloc (Nat.le_refl _) _⟩
set_option maxRecDepth 100000 in
set_option maxHeartbeats 400000 in
theorem noneI_any (a : Int) (w : World) :
    Calls Try.prog 66 #[.int .i64 a] w fun e w' => e = .returned (.agg #[.int .i64 0, .int .i64 0, .int .i64 a]) ∧ Below w.heap.size w w' := by
  go_enter Try.func66, Try.ntmps66
  go_wp2
  exact bodyPost_ret (by simp [results, Try.results66, go_sem]) rfl ⟨rfl, (Below.refl _ _).alloc (Nat.le_refl _) _⟩
/-- A number that may be a record's size, the place behind it, the error. -/
def may (n : Int) (q : Nat) : Int × Nat × Nat := if n < 0 ∨ 4096 < n then (0, 0, 4) else (n, q, 0)
def numOf (r : Int × Nat × Nat) : Value := .agg #[.int .i64 r.1, .int .i64 (r.2.1 : Int), .int .i64 (r.2.2 : Int)]
def textOf (r : List UInt8 × Nat × Nat) : Value := .agg #[.string ⟨r.1.toArray⟩, .int .i64 (r.2.1 : Int), .int .i64 (r.2.2 : Int)]
set_option maxRecDepth 100000 in
set_option maxHeartbeats 400000 in
theorem size1_any (n : Int) (q : Nat) (w : World) :
    Calls Try.prog 65 #[.int .i64 n, .int .i64 (q : Int)] w fun e w' => e = .returned (numOf (may n q)) ∧ Below w.heap.size w w' := by
  by_cases h : n < 0 ∨ 4096 < n
  · have HV : Hid (may n q = (0, 0, 4)) := (show may n q = (0, 0, 4) from if_pos h)
    have H : Hid (_) := fun W => noneI_any 4 W
    rcases h with h | h
    · go_enter Try.func65, Try.ntmps65
      go_wp2_with fail
      refine Calls.mono (H.out _) ?_
      rintro e w1 ⟨rfl, hb1⟩
      obtain ⟨q0, q1, q2, f0, f1, f2⟩ := cells3 rfl (hb1.mono (by simp))
      have hlt1 : w.heap.size < w1.heap.size := by have := hb1.size; simp at this; omega
      have hBB := ((Below.refl w.heap.size w).alloc (Nat.le_refl _) _).trans (hb1.mono (by simp))
      clear hb1
      go_wp2_with fail
      refine bodyPost_ret (v := .agg #[.int .i64 0, .int .i64 0, .int .i64 4]) (by simp [results, Try.results65, go_sem, *]) rfl ⟨by rw [HV.out]; rfl, ?_⟩
      repeat (first | exact hBB | (refine Below.drew ?_) | (refine Below.setCell ?_ (by exact Nat.le_refl _) _))
    · have h' : ¬ n < 0 := by omega
      go_enter Try.func65, Try.ntmps65
      go_wp2_with fail
      refine Calls.mono (H.out _) ?_
      rintro e w1 ⟨rfl, hb1⟩
      obtain ⟨q0, q1, q2, f0, f1, f2⟩ := cells3 rfl (hb1.mono (by simp))
      have hlt1 : w.heap.size < w1.heap.size := by have := hb1.size; simp at this; omega
      have hBB := ((Below.refl w.heap.size w).alloc (Nat.le_refl _) _).trans (hb1.mono (by simp))
      clear hb1
      go_wp2_with fail
      refine bodyPost_ret (v := .agg #[.int .i64 0, .int .i64 0, .int .i64 4]) (by simp [results, Try.results65, go_sem, *]) rfl ⟨by rw [HV.out]; rfl, ?_⟩
      repeat (first | exact hBB | (refine Below.drew ?_) | (refine Below.setCell ?_ (by exact Nat.le_refl _) _))
  · have HV : Hid (may n q = (n, q, 0)) := (show may n q = (n, q, 0) from if_neg h)
    have h1 : ¬ n < 0 := by omega
    have h2 : ¬ 4096 < n := by omega
    clear h
    go_enter Try.func65, Try.ntmps65
    go_wp2_with fail
    exact bodyPost_ret (v := .agg #[.int .i64 n, .int .i64 (q : Int), .int .i64 0]) (by simp [results, Try.results65, go_sem]) rfl ⟨by rw [HV.out]; rfl, (Below.refl _ _).alloc (Nat.le_refl _) _⟩
def thenI (r : Int × Nat × Nat) : Int × Nat × Nat := if r.2.2 = 0 then may r.1 r.2.1 else (0, 0, r.2.2)
set_option maxRecDepth 100000 in
set_option maxHeartbeats 400000 in
theorem thenII_any (n : Int) (q k : Nat) (w : World) :
    Calls Try.prog 64 #[numOf (n, q, k), .func (.func 65) #[] #[]] w fun e w' => e = .returned (numOf (thenI (n, q, k))) ∧ Below w.heap.size w w' := by
  unfold numOf
  by_cases h : k = 0
  · have HV : Hid (thenI (n, q, k) = may n q) := (show thenI (n, q, k) = may n q from if_pos h)
    subst h
    have H : Hid (_) := fun W => size1_any n q W
    unfold numOf at H
    generalize may n q = r at HV H
    obtain ⟨r0, r1, r2⟩ := r
    go_enter Try.func64, Try.ntmps64
    go_wp2_with fail
    refine Calls.mono (H.out _) ?_
    rintro e w1 ⟨rfl, hb1⟩
    obtain ⟨q0, q1, q2, f0, f1, f2⟩ := cells3 (b := w.heap.size + 1) (alloc_size _ _).symm (hb1.mono (by simp))
    have hlt1 : w.heap.size + 1 < w1.heap.size := by have := hb1.size; simp at this; omega
    have hBB := (((Below.refl w.heap.size w).alloc (Nat.le_refl _) _).alloc (by simp) _).trans (hb1.mono (by simp; omega))
    clear hb1
    go_wp2_with fail
    refine bodyPost_ret (v := .agg #[.int .i64 r0, .int .i64 (r1 : Int), .int .i64 (r2 : Int)]) (by simp [results, Try.results64, go_sem, *]) rfl ⟨by rw [HV.out], ?_⟩
    repeat (first | exact hBB | (refine Below.drew ?_) | (refine Below.setCell ?_ (by exact Nat.le_succ _) _))
  · have HV : Hid (thenI (n, q, k) = (0, 0, k)) := (show thenI (n, q, k) = (0, 0, k) from if_neg h)
    have hk : ¬ ((k : Int) = 0) := by omega
    have H : Hid (_) := fun W => noneI_any k W
    go_enter Try.func64, Try.ntmps64
    go_wp2_with fail
    refine Calls.mono (H.out _) ?_
    rintro e w1 ⟨rfl, hb1⟩
    obtain ⟨q0, q1, q2, f0, f1, f2⟩ := cells3 (b := w.heap.size + 1) (alloc_size _ _).symm (hb1.mono (by simp))
    have hlt1 : w.heap.size + 1 < w1.heap.size := by have := hb1.size; simp at this; omega
    have hBB := (((Below.refl w.heap.size w).alloc (Nat.le_refl _) _).alloc (by simp) _).trans (hb1.mono (by simp; omega))
    clear hb1
    go_wp2_with fail
    refine bodyPost_ret (v := .agg #[.int .i64 0, .int .i64 0, .int .i64 (k : Int)]) (by simp [results, Try.results64, go_sem, *]) rfl ⟨by rw [HV.out]; rfl, ?_⟩
    repeat (first | exact hBB | (refine Below.drew ?_) | (refine Below.setCell ?_ (by exact Nat.le_succ _) _))
set_option maxRecDepth 100000 in
set_option maxHeartbeats 400000 in
theorem size_any (s : ByteArray) (p : Int) (w : World) (hs : s.size ≤ maxLen) :
    Calls Try.prog 56 #[.string s, .int .i64 p] w fun e w' => e = .returned (numOf (thenI (Vn.get s.data.toList p))) ∧ Below w.heap.size w w' := by
  have G : Hid (_) := fun W => V.get_any s p W hs
  have H : Hid (_) := fun W => thenII_any (Vn.get s.data.toList p).1 (Vn.get s.data.toList p).2.1 (Vn.get s.data.toList p).2.2 W
  generalize Vn.get s.data.toList p = g at G H
  obtain ⟨g0, g1, g2⟩ := g
  simp only [] at G H
  unfold numOf at H
  generalize thenI (g0, g1, g2) = r at H
  obtain ⟨r0, r1, r2⟩ := r
  go_enter Try.func56, Try.ntmps56
  go_wp2_with fail
  refine Calls.mono (G.out _) ?_
  rintro e w1 ⟨rfl, rfl⟩
  go_wp2_with fail
  refine Calls.mono (H.out _) ?_
  rintro e w1 ⟨rfl, hb1⟩
  obtain ⟨q0, q1, q2, f0, f1, f2⟩ := cells3 rfl (hb1.mono (by simp))
  have hlt1 : w.heap.size < w1.heap.size := by have := hb1.size; simp at this; omega
  have hBB := ((Below.refl w.heap.size w).alloc (Nat.le_refl _) _).trans (hb1.mono (by simp))
  clear hb1
  go_wp2_with fail
  refine bodyPost_ret (v := .agg #[.int .i64 r0, .int .i64 (r1 : Int), .int .i64 (r2 : Int)]) (by simp [results, Try.results56, go_sem, *]) rfl ⟨rfl, ?_⟩
  repeat (first | exact hBB | (refine Below.drew ?_) | (refine Below.setCell ?_ (by exact Nat.le_refl _) _))
end Go.Proofs.Ytmjmlccdgdakdaa.F
