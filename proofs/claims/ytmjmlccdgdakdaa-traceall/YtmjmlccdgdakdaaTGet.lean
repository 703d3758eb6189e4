-- PROVED: trace.Get by its contract.
import Derived.Test.YtmjmlccdgdakdaaTPut
namespace Go.Proofs.Ytmjmlccdgdakdaa.T
open Go.RowKit
set_option maxRecDepth 100000 in
set_option maxHeartbeats 1000000 in
theorem parts_any (s : ByteArray) (w : World) (hs : s.size ≤ maxLen) :
    Calls Try.prog 28 #[.string s] w fun e w' => e = .returned (recV (Tm.parts s.data.toList)) ∧ Below w.heap.size w w' := by
  have hA := fun W => V.get_any s 0 W hs
  have hB := fun W => V.get_any s ((Tm.pA s.data.toList).2.1 : Int) W hs
  have hC := fun W => V.get_any s ((Tm.pB s.data.toList).2.1 : Int) W hs
  have hD := fun W => V.getText_any s ((Tm.pC s.data.toList).2.1 : Int) W hs
  rw [show Vn.get s.data.toList 0 = Tm.pA s.data.toList from rfl] at hA
  rw [show Vn.get s.data.toList ((Tm.pA s.data.toList).2.1 : Int) = Tm.pB s.data.toList from rfl] at hB
  rw [show Vn.get s.data.toList ((Tm.pB s.data.toList).2.1 : Int) = Tm.pC s.data.toList from rfl] at hC
  rw [show Vn.getText s.data.toList ((Tm.pC s.data.toList).2.1 : Int) = Tm.pD s.data.toList from rfl] at hD
  unfold recV Tm.parts
  simp only []
  generalize Tm.pA s.data.toList = A at *
  generalize Tm.pB s.data.toList = B at *
  generalize Tm.pC s.data.toList = D at *
  generalize Tm.pD s.data.toList = E at *
  obtain ⟨a0, a1, a2⟩ := A
  obtain ⟨b0, b1, b2⟩ := B
  obtain ⟨c0, c1, c2⟩ := D
  obtain ⟨d0, d1, d2⟩ := E
  simp only [] at hA hB hC hD ⊢
  generalize (⟨d0.toArray⟩ : ByteArray) = T at *
  have HA : Hid (_) := hA
  have HB : Hid (_) := hB
  have HC : Hid (_) := hC
  have HD : Hid (_) := hD
  clear hA hB hC hD hs
  go_enter Try.func28, Try.ntmps28
  go_wp2_with fail
  refine Calls.mono (HA.out _) ?_
  rintro e w1 ⟨rfl, rfl⟩
  go_wp2_with fail
  refine Calls.mono (HB.out _) ?_
  rintro e w1 ⟨rfl, rfl⟩
  go_wp2_with fail
  refine Calls.mono (HC.out _) ?_
  rintro e w1 ⟨rfl, rfl⟩
  go_wp2_with fail
  refine Calls.mono (HD.out _) ?_
  rintro e w1 ⟨rfl, hb⟩
  have hbB : Below w.heap.size w w1 := C.below_chain (by
    repeat (first | exact (Below.refl _ _).alloc (Nat.le_refl _) _ | refine Below.setCell ?_ (by exact Nat.le_refl _) _)) hb
  have x0 := hb.cell (p := ⟨w.heap.size, 0, none⟩) (by simp)
  have x1 := hb.cell (p := ⟨w.heap.size, 1, none⟩) (by simp)
  have x2 := hb.cell (p := ⟨w.heap.size, 2, none⟩) (by simp)
  have x3 := hb.cell (p := ⟨w.heap.size, 3, none⟩) (by simp)
  have f0 := hb.frozen (p := ⟨w.heap.size, 0, none⟩) (by simp)
  have f1 := hb.frozen (p := ⟨w.heap.size, 1, none⟩) (by simp)
  have f2 := hb.frozen (p := ⟨w.heap.size, 2, none⟩) (by simp)
  have f3 := hb.frozen (p := ⟨w.heap.size, 3, none⟩) (by simp)
  simp at x0 x1 x2 x3 f0 f1 f2 f3
  clear hb HA HB HC HD
  go_wp2_with fail
  refine bodyPost_ret (v := .agg #[.int .i64 a0, .int .i64 b0, .int .i64 c0, .string T]) (by simp [results, Try.results28, go_sem, x0, x1, x2, x3]) rfl ⟨rfl, ?_⟩
  repeat (first | exact hbB | refine Below.setCell ?_ (by exact Nat.le_refl _) _)
theorem got_no {l : List UInt8} (h : Tm.is l = false) : Tm.got l = Tm.zero := by unfold Tm.got; rw [h]; rfl
theorem cell4 {w w1 : World} {b : Nat} {x y z u : Value} {t : TypeId} (hb : b = w.heap.size) (hB : Below (b + 1) (w.alloc (.cells #[x, y, z, u] t)) w1) :
    (w1.cell? ⟨b, 0, none⟩ = some x ∧ w1.cell? ⟨b, 1, none⟩ = some y ∧ w1.cell? ⟨b, 2, none⟩ = some z ∧ w1.cell? ⟨b, 3, none⟩ = some u) ∧
    w1.frozen? ⟨b, 0, none⟩ = false ∧ w1.frozen? ⟨b, 1, none⟩ = false ∧ w1.frozen? ⟨b, 2, none⟩ = false ∧ w1.frozen? ⟨b, 3, none⟩ = false := by
  subst hb
  refine ⟨⟨?_, ?_, ?_, ?_⟩, ?_, ?_, ?_, ?_⟩
  · rw [hB.cell (Nat.lt_succ_self _)]; simp
  · rw [hB.cell (Nat.lt_succ_self _)]; simp
  · rw [hB.cell (Nat.lt_succ_self _)]; simp
  · rw [hB.cell (Nat.lt_succ_self _)]; simp
  · rw [hB.frozen (Nat.lt_succ_self _)]; simp
  · rw [hB.frozen (Nat.lt_succ_self _)]; simp
  · rw [hB.frozen (Nat.lt_succ_self _)]; simp
  · rw [hB.frozen (Nat.lt_succ_self _)]; simp
set_option maxRecDepth 100000 in
set_option maxHeartbeats 1000000 in
/-- Get, by what Put says of the parts. -/
theorem get_core (s P : ByteArray) (st k n : Int) (T : ByteArray) (E : Int) (w : World) 
    (hP : ∀ W, Calls Try.prog 28 #[.string s] W fun e w' => e = .returned (.agg #[.int .i64 st, .int .i64 k, .int .i64 n, .string T]) ∧ Below W.heap.size W w')
    (hU : ∀ W, Calls Try.prog 9 #[.agg #[.int .i64 st, .int .i64 k, .int .i64 n, .string T]] W fun e w' => e = .returned (.tuple #[.string P, .int .i64 E]) ∧ Below W.heap.size W w')
    (b : Bool) (hb : E = 0 ∧ (P.toList == s.toList) = true ∧ b = true ∨ E = 0 ∧ (P.toList == s.toList) = false ∧ b = false ∨ ¬ E = 0 ∧ b = false) :
    Calls Try.prog 14 #[.string s] w fun e w' => e = .returned (if b then .tuple #[.agg #[.int .i64 st, .int .i64 k, .int .i64 n, .string T], .int .i64 0] else .tuple #[.agg #[.int .i64 0, .int .i64 0, .int .i64 0, .string ⟨#[]⟩], .int .i64 4]) ∧ Below w.heap.size w w' := by
  have HP : Hid (_) := hP
  have HU : Hid (_) := hU
  clear hP hU
  rcases hb with ⟨rfl, hc, rfl⟩ | ⟨rfl, hc, rfl⟩ | ⟨hE, rfl⟩
  · go_enter Try.func14, Try.ntmps14
    go_wp2_with fail
    refine Calls.mono (HP.out _) ?_
    rintro e w1 ⟨rfl, hb1⟩
    go_wp2_with fail
    refine Calls.mono (HU.out _) ?_
    rintro e w2 ⟨rfl, hb2⟩
    have hA1 := C.below_chain ((Below.refl w.heap.size w).alloc (Nat.le_refl _) _) hb1
    have hA2 := C.below_chain ((Below.refl w1.heap.size w1).alloc (Nat.le_refl _) _) hb2
    have hz : w.heap.size < w1.heap.size := by have := hb1.size; simp at this; omega
    obtain ⟨⟨a0, a1, a2, a3⟩, g0, g1, g2, g3⟩ := cell4 rfl (by simpa using hb1)
    obtain ⟨⟨d0, d1, d2, d3⟩, _⟩ := cell4 rfl (by simpa using hb2)
    replace a0 := (hA2.cell (p := ⟨w.heap.size, 0, none⟩) hz).trans a0
    replace a1 := (hA2.cell (p := ⟨w.heap.size, 1, none⟩) hz).trans a1
    replace a2 := (hA2.cell (p := ⟨w.heap.size, 2, none⟩) hz).trans a2
    replace a3 := (hA2.cell (p := ⟨w.heap.size, 3, none⟩) hz).trans a3
    replace g0 := (hA2.frozen (p := ⟨w.heap.size, 0, none⟩) hz).trans g0
    replace g1 := (hA2.frozen (p := ⟨w.heap.size, 1, none⟩) hz).trans g1
    replace g2 := (hA2.frozen (p := ⟨w.heap.size, 2, none⟩) hz).trans g2
    replace g3 := (hA2.frozen (p := ⟨w.heap.size, 3, none⟩) hz).trans g3
    have hbB := C.below_chain hA1 hA2
    have hne : w.heap.size ≠ w1.heap.size := by omega
    clear hb1 hb2 hA1 hA2 HP HU
    go_wp2_with fail
    refine bodyPost_ret (v := .tuple #[.agg #[.int .i64 st, .int .i64 k, .int .i64 n, .string T], .int .i64 0]) (by simp [results, Try.results14, go_sem, a0, a1, a2, a3]) rfl ⟨rfl, ?_⟩
    repeat (first | exact hbB | refine Below.setCell ?_ (by exact Nat.le_refl _) _)
  · go_enter Try.func14, Try.ntmps14
    go_wp2_with fail
    refine Calls.mono (HP.out _) ?_
    rintro e w1 ⟨rfl, hb1⟩
    go_wp2_with fail
    refine Calls.mono (HU.out _) ?_
    rintro e w2 ⟨rfl, hb2⟩
    have hA1 := C.below_chain ((Below.refl w.heap.size w).alloc (Nat.le_refl _) _) hb1
    have hA2 := C.below_chain ((Below.refl w1.heap.size w1).alloc (Nat.le_refl _) _) hb2
    have hz : w.heap.size < w1.heap.size := by have := hb1.size; simp at this; omega
    obtain ⟨⟨a0, a1, a2, a3⟩, g0, g1, g2, g3⟩ := cell4 rfl (by simpa using hb1)
    obtain ⟨⟨d0, d1, d2, d3⟩, _⟩ := cell4 rfl (by simpa using hb2)
    replace a0 := (hA2.cell (p := ⟨w.heap.size, 0, none⟩) hz).trans a0
    replace a1 := (hA2.cell (p := ⟨w.heap.size, 1, none⟩) hz).trans a1
    replace a2 := (hA2.cell (p := ⟨w.heap.size, 2, none⟩) hz).trans a2
    replace a3 := (hA2.cell (p := ⟨w.heap.size, 3, none⟩) hz).trans a3
    replace g0 := (hA2.frozen (p := ⟨w.heap.size, 0, none⟩) hz).trans g0
    replace g1 := (hA2.frozen (p := ⟨w.heap.size, 1, none⟩) hz).trans g1
    replace g2 := (hA2.frozen (p := ⟨w.heap.size, 2, none⟩) hz).trans g2
    replace g3 := (hA2.frozen (p := ⟨w.heap.size, 3, none⟩) hz).trans g3
    have hbB := C.below_chain hA1 hA2
    have hne : w.heap.size ≠ w1.heap.size := by omega
    clear hb1 hb2 hA1 hA2 HP HU
    go_wp2_with fail
    refine bodyPost_ret (v := .tuple #[.agg #[.int .i64 0, .int .i64 0, .int .i64 0, .string ⟨#[]⟩], .int .i64 4]) (by simp [results, Try.results14, go_sem, a0, a1, a2, a3]) rfl ⟨rfl, ?_⟩
    repeat (first | exact hbB | refine Below.setCell ?_ (by exact Nat.le_refl _) _)
  · go_enter Try.func14, Try.ntmps14
    go_wp2_with fail
    refine Calls.mono (HP.out _) ?_
    rintro e w1 ⟨rfl, hb1⟩
    go_wp2_with fail
    refine Calls.mono (HU.out _) ?_
    rintro e w2 ⟨rfl, hb2⟩
    have hA1 := C.below_chain ((Below.refl w.heap.size w).alloc (Nat.le_refl _) _) hb1
    have hA2 := C.below_chain ((Below.refl w1.heap.size w1).alloc (Nat.le_refl _) _) hb2
    have hz : w.heap.size < w1.heap.size := by have := hb1.size; simp at this; omega
    obtain ⟨⟨a0, a1, a2, a3⟩, g0, g1, g2, g3⟩ := cell4 rfl (by simpa using hb1)
    obtain ⟨⟨d0, d1, d2, d3⟩, _⟩ := cell4 rfl (by simpa using hb2)
    replace a0 := (hA2.cell (p := ⟨w.heap.size, 0, none⟩) hz).trans a0
    replace a1 := (hA2.cell (p := ⟨w.heap.size, 1, none⟩) hz).trans a1
    replace a2 := (hA2.cell (p := ⟨w.heap.size, 2, none⟩) hz).trans a2
    replace a3 := (hA2.cell (p := ⟨w.heap.size, 3, none⟩) hz).trans a3
    replace g0 := (hA2.frozen (p := ⟨w.heap.size, 0, none⟩) hz).trans g0
    replace g1 := (hA2.frozen (p := ⟨w.heap.size, 1, none⟩) hz).trans g1
    replace g2 := (hA2.frozen (p := ⟨w.heap.size, 2, none⟩) hz).trans g2
    replace g3 := (hA2.frozen (p := ⟨w.heap.size, 3, none⟩) hz).trans g3
    have hbB := C.below_chain hA1 hA2
    have hne : w.heap.size ≠ w1.heap.size := by omega
    clear hb1 hb2 hA1 hA2 HP HU
    go_wp2_with fail
    refine bodyPost_ret (v := .tuple #[.agg #[.int .i64 0, .int .i64 0, .int .i64 0, .string ⟨#[]⟩], .int .i64 4]) (by simp [results, Try.results14, go_sem, a0, a1, a2, a3]) rfl ⟨rfl, ?_⟩
    repeat (first | exact hbB | refine Below.setCell ?_ (by exact Nat.le_refl _) _)
theorem get_yes (s : ByteArray) (w : World) (hs : s.size ≤ maxLen) (h : Tm.is s.data.toList = true) :
    Calls Try.prog 14 #[.string s] w fun e w' => e = .returned (.tuple #[recV (Tm.got s.data.toList), .int .i64 0]) ∧ Below w.heap.size w w' := by
  obtain ⟨ho, hp, hf, hg⟩ := Tm.is_ok h
  have hP := fun W => parts_any s W hs
  rw [← hg] at hP
  have hU := fun W => put_ok (Tm.got s.data.toList) W hf ho
  rw [hp] at hU
  exact get_core s ⟨s.data.toList.toArray⟩ _ _ _ _ 0 w hP hU true (.inl ⟨rfl, C.cmp_yes rfl, rfl⟩)
theorem get_no (s : ByteArray) (w : World) (hs : s.size ≤ maxLen) (h : Tm.is s.data.toList = false) :
    Calls Try.prog 14 #[.string s] w fun e w' => e = .returned (.tuple #[recV Tm.zero, .int .i64 4]) ∧ Below w.heap.size w w' := by
  have hP := fun W => parts_any s W hs
  cases ho : Tm.ok (Tm.parts s.data.toList) with
  | false =>
    have hU := fun W => put_no (Tm.parts s.data.toList) W (by have := Vn.getText_bd s.data.toList ((Tm.pC s.data.toList).2.1 : Int); unfold maxLen; unfold Tm.parts Tm.pD; simp only []; omega) ho
    exact get_core s ⟨#[]⟩ _ _ _ _ 1 w hP hU false (.inr (.inr ⟨by decide, rfl⟩))
  | true =>
    have hU := fun W => put_ok (Tm.parts s.data.toList) W (Tm.parts_fits _) ho
    refine get_core s ⟨(Tm.put (Tm.parts s.data.toList)).toArray⟩ _ _ _ _ 0 w hP hU false (.inr (.inl ⟨rfl, C.cmp_no ?_, rfl⟩))
    intro he
    unfold Tm.is at h
    rw [ho] at h
    simp at h
    exact h he
end Go.Proofs.Ytmjmlccdgdakdaa.T
