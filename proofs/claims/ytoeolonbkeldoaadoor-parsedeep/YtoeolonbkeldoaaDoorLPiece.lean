/- lex.end, lex.number, lex.name by their contracts: what a piece is. -/
import Derived.Test.YtoeolonbkeldoaaDoorLValue
import Derived.Test.YtoeolonbkeldoaaDoorLWord
import Derived.Test.YtoeolonbkeldoaaDoorLBuild
import Derived.Laws.ResultCell
namespace Go.Proofs.YtoeolonbkeldoaaDoor.L
open Go.RowKit
set_option linter.unusedVariables false
theorem alloc_size (w : World) (o : Obj) : (w.alloc o).heap.size = w.heap.size + 1 := Array.size_push _
theorem below_chain {a b c : World} (h : Below a.heap.size a b) (k : Below b.heap.size b c) : Below a.heap.size a c := h.trans (k.mono h.size)
/-- Cells that were laid, looked at later. -/
theorem cells5 {w w1 : World} {b : Nat} {x0 x1 x2 x3 x4 : Value} {t : TypeId} (hb : b = w.heap.size) (hB : Below (b + 1) (w.alloc (.cells #[x0, x1, x2, x3, x4] t)) w1) :
    w1.cell? ⟨b, 0, none⟩ = some x0 ∧ w1.cell? ⟨b, 1, none⟩ = some x1 ∧ w1.cell? ⟨b, 2, none⟩ = some x2 ∧ w1.cell? ⟨b, 3, none⟩ = some x3 ∧ w1.cell? ⟨b, 4, none⟩ = some x4 ∧ w1.frozen? ⟨b, 0, none⟩ = false ∧ w1.frozen? ⟨b, 1, none⟩ = false ∧ w1.frozen? ⟨b, 2, none⟩ = false ∧ w1.frozen? ⟨b, 3, none⟩ = false ∧ w1.frozen? ⟨b, 4, none⟩ = false := by
  subst hb
  refine ⟨?_, ?_, ?_, ?_, ?_, ?_, ?_, ?_, ?_, ?_⟩
  · rw [hB.cell (Nat.lt_succ_self _)]; simp
  · rw [hB.cell (Nat.lt_succ_self _)]; simp
  · rw [hB.cell (Nat.lt_succ_self _)]; simp
  · rw [hB.cell (Nat.lt_succ_self _)]; simp
  · rw [hB.cell (Nat.lt_succ_self _)]; simp
  · rw [hB.frozen (Nat.lt_succ_self _)]; simp
  · rw [hB.frozen (Nat.lt_succ_self _)]; simp
  · rw [hB.frozen (Nat.lt_succ_self _)]; simp
  · rw [hB.frozen (Nat.lt_succ_self _)]; simp
  · rw [hB.frozen (Nat.lt_succ_self _)]; simp
/-- Cells that were laid, looked at later. -/
theorem cells6 {w w1 : World} {b : Nat} {x0 x1 x2 x3 x4 x5 : Value} {t : TypeId} (hb : b = w.heap.size) (hB : Below (b + 1) (w.alloc (.cells #[x0, x1, x2, x3, x4, x5] t)) w1) :
    w1.cell? ⟨b, 0, none⟩ = some x0 ∧ w1.cell? ⟨b, 1, none⟩ = some x1 ∧ w1.cell? ⟨b, 2, none⟩ = some x2 ∧ w1.cell? ⟨b, 3, none⟩ = some x3 ∧ w1.cell? ⟨b, 4, none⟩ = some x4 ∧ w1.cell? ⟨b, 5, none⟩ = some x5 ∧ w1.frozen? ⟨b, 0, none⟩ = false ∧ w1.frozen? ⟨b, 1, none⟩ = false ∧ w1.frozen? ⟨b, 2, none⟩ = false ∧ w1.frozen? ⟨b, 3, none⟩ = false ∧ w1.frozen? ⟨b, 4, none⟩ = false ∧ w1.frozen? ⟨b, 5, none⟩ = false := by
  subst hb
  refine ⟨?_, ?_, ?_, ?_, ?_, ?_, ?_, ?_, ?_, ?_, ?_, ?_⟩
  · rw [hB.cell (Nat.lt_succ_self _)]; simp
  · rw [hB.cell (Nat.lt_succ_self _)]; simp
  · rw [hB.cell (Nat.lt_succ_self _)]; simp
  · rw [hB.cell (Nat.lt_succ_self _)]; simp
  · rw [hB.cell (Nat.lt_succ_self _)]; simp
  · rw [hB.cell (Nat.lt_succ_self _)]; simp
  · rw [hB.frozen (Nat.lt_succ_self _)]; simp
  · rw [hB.frozen (Nat.lt_succ_self _)]; simp
  · rw [hB.frozen (Nat.lt_succ_self _)]; simp
  · rw [hB.frozen (Nat.lt_succ_self _)]; simp
  · rw [hB.frozen (Nat.lt_succ_self _)]; simp
  · rw [hB.frozen (Nat.lt_succ_self _)]; simp
def pcV (k : Int) (t : ByteArray) (n z : Int) : Value := .agg #[.int .i64 k, .string t, .int .i64 n, .int .i64 0, .bool false, .int .i64 z]
/-- What a kind makes of a text: a piece, or none. -/
def Told (r : Option Lx.Pc) (e : Ending) : Prop := ∃ (k n z : Nat) (t : List UInt8) (ok : Bool), e = .returned (.tuple #[.agg #[.int .i64 (k : Int), .string ⟨t.toArray⟩, .int .i64 (n : Int), .int .i64 0, .bool false, .int .i64 (z : Int)], .bool ok]) ∧ r = if ok then some ⟨k, t, n, z⟩ else none
set_option maxRecDepth 100000 in
set_option maxHeartbeats 400000 in
theorem end_any (s : ByteArray) (w : World) :
    Calls Tryd.prog 25 #[.string s] w fun e w' => Told (Lx.pEnd s.data.toList) e ∧ Below w.heap.size w w' := by
  by_cases h0 : s.size = 0
  · obtain rfl := empty_of h0
    go_enter Tryd.func25, Tryd.ntmps25
    go_wp2
    exact bodyPost_ret (v := .tuple #[.agg #[.int .i64 0, .string ⟨#[]⟩, .int .i64 0, .int .i64 0, .bool false, .int .i64 0], .bool true]) (by simp [results, Tryd.results25, go_sem]) rfl ⟨⟨0, 0, 0, [], true, rfl, rfl⟩, (Below.refl _ _).alloc (Nat.le_refl _) _⟩
  · have hne : s.data.toList ≠ [] := fun e => h0 (by rw [← size_list, e]; rfl)
    have hem : s.toList.isEmpty = false := by rw [ByteArray.toList_eq]; cases hl : s.data.toList with
      | nil => exact absurd hl hne
      | cons c l => rfl
    have HP : Hid (Lx.pEnd s.data.toList = none) := if_neg hne
    rw [HP.out]
    clear hne h0
    go_enter Tryd.func25, Tryd.ntmps25
    go_wp2
    exact bodyPost_ret (v := .tuple #[.agg #[.int .i64 0, .string ⟨#[]⟩, .int .i64 0, .int .i64 0, .bool false, .int .i64 0], .bool false]) (by simp [results, Tryd.results25, go_sem]) rfl ⟨⟨0, 0, 0, [], false, rfl, rfl⟩, (Below.refl _ _).alloc (Nat.le_refl _) _⟩
set_option maxRecDepth 100000 in
set_option maxHeartbeats 1000000 in
theorem number_core (s D : ByteArray) (T : List UInt8) (vl : Nat) (vb bg : Bool) (w : World) (HD : Hid (D = ⟨T.toArray⟩)) (hle : (D.size : Int) ≤ s.size) (hs : s.size ≤ 1000000)
    (H1 : Hid (∀ W, Calls Tryd.prog 36 #[.string s, .func (.func 37) #[] #[]] W fun e w' => e = .returned (.string D) ∧ w' = W))
    (HV : Hid (∀ W, Calls Tryd.prog 38 #[.string D] W fun e w' => e = .returned (if vb then .tuple #[.int .i64 (vl : Int), .bool true] else .tuple #[.int .i64 0, .bool false]) ∧ w' = W))
    (HB : Hid (∀ W, Calls Tryd.prog 39 #[.string (s.extract D.size s.size), .func (.func 40) #[] #[]] W fun e w' => e = .returned (.bool bg) ∧ w' = W))
    (HC : Hid (∀ W, Calls Tryd.prog 41 #[.string D] W fun e w' => e = .returned (.string D) ∧ Below W.heap.size W w')) :
    Calls Tryd.prog 26 #[.string s] w fun e w' => Told (if vb && !bg then some ⟨1, T, vl, D.size⟩ else none) e ∧ Below w.heap.size w w' := by
  cases vb
  · simp only [Bool.false_and, Bool.false_eq_true, if_false] at HV ⊢
    go_enter Tryd.func26, Tryd.ntmps26
    go_wp2_with (first | (go_at_call 36; refine Calls.mono (H1.out _) ?_; rintro e w' ⟨rfl, rfl⟩) | (go_at_call 38; refine Calls.mono (HV.out _) ?_; rintro e w' ⟨rfl, rfl⟩) | (go_at_call 39; refine Calls.mono (HB.out _) ?_; rintro e w' ⟨rfl, rfl⟩))
    exact bodyPost_ret (v := .tuple #[.agg #[.int .i64 0, .string ⟨#[]⟩, .int .i64 0, .int .i64 0, .bool false, .int .i64 0], .bool false]) (by simp [results, Tryd.results26, go_sem]) rfl ⟨⟨0, 0, 0, [], false, rfl, rfl⟩, (Below.refl _ _).alloc (Nat.le_refl _) _⟩
  · simp only [if_true] at HV
    cases bg
    · simp only [Bool.not_false, Bool.and_self, if_true]
      go_enter Tryd.func26, Tryd.ntmps26
      go_wp2_with (first | (go_at_call 36; refine Calls.mono (H1.out _) ?_; rintro e w' ⟨rfl, rfl⟩) | (go_at_call 38; refine Calls.mono (HV.out _) ?_; rintro e w' ⟨rfl, rfl⟩) | (go_at_call 39; refine Calls.mono (HB.out _) ?_; rintro e w' ⟨rfl, rfl⟩))
      refine Calls.mono (HC.out _) ?_
      rintro e w1 ⟨rfl, hb1⟩
      obtain ⟨q0, q1, q2, q3, q4, q5, f0, f1, f2, f3, f4, f5⟩ := cells6 rfl (hb1.mono (by simp))
      have hlt1 : w.heap.size < w1.heap.size := by have := hb1.size; simp at this; omega
      have hBB := ((Below.refl w.heap.size w).alloc (Nat.le_refl _) _).trans (hb1.mono (by simp))
      clear hb1
      go_wp2_with fail
      refine bodyPost_ret (v := .tuple #[.agg #[.int .i64 1, .string D, .int .i64 (vl : Int), .int .i64 0, .bool false, .int .i64 (D.size : Int)], .bool true]) (by simp [results, Tryd.results26, go_sem, *]) rfl ⟨⟨1, vl, D.size, T, true, by rw [← HD.out]; rfl, rfl⟩, ?_⟩
      repeat (first | with_reducible exact hBB | (with_reducible refine Below.drew ?_) | (with_reducible refine Below.setCell ?_ (by exact Nat.le_refl _) _) | (with_reducible refine Below.alloc ?_ (by simp; omega) _))
    · simp only [Bool.not_true, Bool.and_false, Bool.false_eq_true, if_false]
      go_enter Tryd.func26, Tryd.ntmps26
      go_wp2_with (first | (go_at_call 36; refine Calls.mono (H1.out _) ?_; rintro e w' ⟨rfl, rfl⟩) | (go_at_call 38; refine Calls.mono (HV.out _) ?_; rintro e w' ⟨rfl, rfl⟩) | (go_at_call 39; refine Calls.mono (HB.out _) ?_; rintro e w' ⟨rfl, rfl⟩))
      exact bodyPost_ret (v := .tuple #[.agg #[.int .i64 0, .string ⟨#[]⟩, .int .i64 0, .int .i64 0, .bool false, .int .i64 0], .bool false]) (by simp [results, Tryd.results26, go_sem]) rfl ⟨⟨0, 0, 0, [], false, rfl, rfl⟩, (Below.refl _ _).alloc (Nat.le_refl _) _⟩
theorem take_size (s : ByteArray) (m : Nat) (h : m ≤ s.size) : (⟨(s.data.toList.take m).toArray⟩ : ByteArray).size = m := by
  show (s.data.toList.take m).length = m
  rw [List.length_take, size_list]; omega
theorem number_any (s : ByteArray) (w : World) (hs : s.size ≤ 1000000) :
    Calls Tryd.prog 26 #[.string s] w fun e w' => Told (Lx.pNum s.data.toList) e ∧ Below w.heap.size w w' := by
  have hl := Lx.hd_le Lx.digit s.data.toList
  rw [size_list] at hl
  have hsz := take_size s _ hl
  have hP : Lx.pNum s.data.toList = if Lx.valB (s.data.toList.take (Lx.hd Lx.digit s.data.toList)) && !Lx.beg Lx.ofName (s.data.toList.drop (Lx.hd Lx.digit s.data.toList)) then some ⟨1, s.data.toList.take (Lx.hd Lx.digit s.data.toList), Lx.val (s.data.toList.take (Lx.hd Lx.digit s.data.toList)), (⟨(s.data.toList.take (Lx.hd Lx.digit s.data.toList)).toArray⟩ : ByteArray).size⟩ else none := by
    rw [hsz]; rfl
  rw [hP]
  refine number_core s ⟨(s.data.toList.take (Lx.hd Lx.digit s.data.toList)).toArray⟩ (s.data.toList.take (Lx.hd Lx.digit s.data.toList)) _ _ _ w rfl (by rw [hsz]; omega) hs (fun W => head_digit s W (by omega)) (fun W => value_any _ W (by rw [hsz]; omega) (fun j h => ?_)) (fun W => ?_) (fun W => clone_any _ W (by rw [hsz]; omega))
  · have h' : j < Lx.hd Lx.digit s.data.toList := by rw [hsz] at h; exact h
    have e : (⟨(s.data.toList.take (Lx.hd Lx.digit s.data.toList)).toArray⟩ : ByteArray)[j] = s.data.toList[j]'(by rw [size_list]; omega) := by
      show (s.data.toList.take _)[j] = _
      rw [List.getElem_take]
    rw [e]
    exact Lx.hd_all _ _ _ _ h'
  · have := begins_ofName (s.extract (⟨(s.data.toList.take (Lx.hd Lx.digit s.data.toList)).toArray⟩ : ByteArray).size s.size) W (by simp [ByteArray.size_extract]; omega)
    rw [tail_list] at this
    rw [hsz] at this ⊢
    exact this
set_option maxRecDepth 100000 in
set_option maxHeartbeats 1000000 in
theorem name_core (s D : ByteArray) (T : List UInt8) (bg iw : Bool) (w : World) (HD : Hid (D = ⟨T.toArray⟩))
    (H1 : Hid (∀ W, Calls Tryd.prog 36 #[.string s, .func (.func 40) #[] #[]] W fun e w' => e = .returned (.string D) ∧ w' = W))
    (HV : Hid (∀ W, Calls Tryd.prog 46 #[.string D] W fun e w' => e = .returned (.bool iw) ∧ w' = W))
    (HB : Hid (∀ W, Calls Tryd.prog 39 #[.string s, .func (.func 45) #[] #[]] W fun e w' => e = .returned (.bool bg) ∧ w' = W))
    (HC : Hid (∀ W, Calls Tryd.prog 41 #[.string D] W fun e w' => e = .returned (.string D) ∧ Below W.heap.size W w')) :
    Calls Tryd.prog 28 #[.string s] w fun e w' => Told (if bg then some ⟨if iw then 4 else 3, T, 0, D.size⟩ else none) e ∧ Below w.heap.size w w' := by
  cases bg
  · simp only [Bool.false_eq_true, if_false]
    go_enter Tryd.func28, Tryd.ntmps28
    go_wp2_with (first | (go_at_call 36; refine Calls.mono (H1.out _) ?_; rintro e w' ⟨rfl, rfl⟩) | (go_at_call 38; refine Calls.mono (HV.out _) ?_; rintro e w' ⟨rfl, rfl⟩) | (go_at_call 39; refine Calls.mono (HB.out _) ?_; rintro e w' ⟨rfl, rfl⟩))
    exact bodyPost_ret (v := .tuple #[.agg #[.int .i64 0, .string ⟨#[]⟩, .int .i64 0, .int .i64 0, .bool false, .int .i64 0], .bool false]) (by simp [results, Tryd.results28, go_sem]) rfl ⟨⟨0, 0, 0, [], false, rfl, rfl⟩, (Below.refl _ _).alloc (Nat.le_refl _) _⟩
  · simp only [if_true]
    cases iw
    · simp only [Bool.false_eq_true, if_false]
      go_enter Tryd.func28, Tryd.ntmps28
      go_wp2_with (first | (go_at_call 36; refine Calls.mono (H1.out _) ?_; rintro e w' ⟨rfl, rfl⟩) | (go_at_call 39; refine Calls.mono (HB.out _) ?_; rintro e w' ⟨rfl, rfl⟩))
      refine Calls.mono (HC.out _) ?_
      rintro e w1 ⟨rfl, hb1⟩
      obtain ⟨q0, q1, q2, q3, q4, q5, f0, f1, f2, f3, f4, f5⟩ := cells6 rfl (hb1.mono (by simp))
      have hlt1 : w.heap.size < w1.heap.size := by have := hb1.size; simp at this; omega
      have hBB := ((Below.refl w.heap.size w).alloc (Nat.le_refl _) _).trans (hb1.mono (by simp))
      clear hb1
      go_wp2_with (go_at_call 46; refine Calls.mono (HV.out _) ?_; rintro e w' ⟨rfl, rfl⟩)
      refine bodyPost_ret (v := .tuple #[.agg #[.int .i64 3, .string D, .int .i64 0, .int .i64 0, .bool false, .int .i64 (D.size : Int)], .bool true]) (by simp [results, Tryd.results28, go_sem, *]) rfl ⟨⟨3, 0, D.size, T, true, by rw [← HD.out]; rfl, rfl⟩, ?_⟩
      repeat (first | with_reducible exact hBB | (with_reducible refine Below.drew ?_) | (with_reducible refine Below.setCell ?_ (by exact Nat.le_refl _) _) | (with_reducible refine Below.alloc ?_ (by simp; omega) _))
    · simp only [if_true]
      go_enter Tryd.func28, Tryd.ntmps28
      go_wp2_with (first | (go_at_call 36; refine Calls.mono (H1.out _) ?_; rintro e w' ⟨rfl, rfl⟩) | (go_at_call 39; refine Calls.mono (HB.out _) ?_; rintro e w' ⟨rfl, rfl⟩))
      refine Calls.mono (HC.out _) ?_
      rintro e w1 ⟨rfl, hb1⟩
      obtain ⟨q0, q1, q2, q3, q4, q5, f0, f1, f2, f3, f4, f5⟩ := cells6 rfl (hb1.mono (by simp))
      have hlt1 : w.heap.size < w1.heap.size := by have := hb1.size; simp at this; omega
      have hBB := ((Below.refl w.heap.size w).alloc (Nat.le_refl _) _).trans (hb1.mono (by simp))
      clear hb1
      go_wp2_with (go_at_call 46; refine Calls.mono (HV.out _) ?_; rintro e w' ⟨rfl, rfl⟩)
      refine bodyPost_ret (v := .tuple #[.agg #[.int .i64 4, .string D, .int .i64 0, .int .i64 0, .bool false, .int .i64 (D.size : Int)], .bool true]) (by simp [results, Tryd.results28, go_sem, *]) rfl ⟨⟨4, 0, D.size, T, true, by rw [← HD.out]; rfl, rfl⟩, ?_⟩
      repeat (first | with_reducible exact hBB | (with_reducible refine Below.drew ?_) | (with_reducible refine Below.setCell ?_ (by exact Nat.le_refl _) _) | (with_reducible refine Below.alloc ?_ (by simp; omega) _))
theorem name_any (s : ByteArray) (w : World) (hs : s.size ≤ 1000000) :
    Calls Tryd.prog 28 #[.string s] w fun e w' => Told (Lx.pNam s.data.toList) e ∧ Below w.heap.size w w' := by
  have hl := Lx.hd_le Lx.ofName s.data.toList
  rw [size_list] at hl
  have hsz := take_size s _ hl
  have hP : Lx.pNam s.data.toList = if Lx.beg Lx.letter s.data.toList then some ⟨if Lx.isWord (s.data.toList.take (Lx.hd Lx.ofName s.data.toList)) then 4 else 3, s.data.toList.take (Lx.hd Lx.ofName s.data.toList), 0, (⟨(s.data.toList.take (Lx.hd Lx.ofName s.data.toList)).toArray⟩ : ByteArray).size⟩ else none := by
    rw [hsz]; rfl
  rw [hP]
  exact name_core s ⟨(s.data.toList.take (Lx.hd Lx.ofName s.data.toList)).toArray⟩ (s.data.toList.take (Lx.hd Lx.ofName s.data.toList)) _ _ w rfl (fun W => head_ofName s W (by omega)) (fun W => word_any _ W) (fun W => begins_letter s W (by omega)) (fun W => clone_any _ W (by rw [hsz]; omega))
end Go.Proofs.YtoeolonbkeldoaaDoor.L
