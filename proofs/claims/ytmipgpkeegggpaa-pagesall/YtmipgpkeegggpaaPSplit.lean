-- PROVED: a page is parted.
import Derived.Test.YtmipgpkeegggpaaPSmall
import Derived.Deep.MidRow
namespace Go.Proofs.Ytmipgpkeegggpaa.P
open Go.RowKit
set_option linter.unusedVariables false
theorem arr40 (l : List Value) (h : l.length = 40) : ∃ x0 x1 x2 x3 x4 x5 x6 x7 x8 x9 x10 x11 x12 x13 x14 x15 x16 x17 x18 x19 x20 x21 x22 x23 x24 x25 x26 x27 x28 x29 x30 x31 x32 x33 x34 x35 x36 x37 x38 x39 : Value, l = [x0, x1, x2, x3, x4, x5, x6, x7, x8, x9, x10, x11, x12, x13, x14, x15, x16, x17, x18, x19, x20, x21, x22, x23, x24, x25, x26, x27, x28, x29, x30, x31, x32, x33, x34, x35, x36, x37, x38, x39] := by
  obtain _ | ⟨x0, l⟩ := l
  · simp at h
  obtain _ | ⟨x1, l⟩ := l
  · simp at h
  obtain _ | ⟨x2, l⟩ := l
  · simp at h
  obtain _ | ⟨x3, l⟩ := l
  · simp at h
  obtain _ | ⟨x4, l⟩ := l
  · simp at h
  obtain _ | ⟨x5, l⟩ := l
  · simp at h
  obtain _ | ⟨x6, l⟩ := l
  · simp at h
  obtain _ | ⟨x7, l⟩ := l
  · simp at h
  obtain _ | ⟨x8, l⟩ := l
  · simp at h
  obtain _ | ⟨x9, l⟩ := l
  · simp at h
  obtain _ | ⟨x10, l⟩ := l
  · simp at h
  obtain _ | ⟨x11, l⟩ := l
  · simp at h
  obtain _ | ⟨x12, l⟩ := l
  · simp at h
  obtain _ | ⟨x13, l⟩ := l
  · simp at h
  obtain _ | ⟨x14, l⟩ := l
  · simp at h
  obtain _ | ⟨x15, l⟩ := l
  · simp at h
  obtain _ | ⟨x16, l⟩ := l
  · simp at h
  obtain _ | ⟨x17, l⟩ := l
  · simp at h
  obtain _ | ⟨x18, l⟩ := l
  · simp at h
  obtain _ | ⟨x19, l⟩ := l
  · simp at h
  obtain _ | ⟨x20, l⟩ := l
  · simp at h
  obtain _ | ⟨x21, l⟩ := l
  · simp at h
  obtain _ | ⟨x22, l⟩ := l
  · simp at h
  obtain _ | ⟨x23, l⟩ := l
  · simp at h
  obtain _ | ⟨x24, l⟩ := l
  · simp at h
  obtain _ | ⟨x25, l⟩ := l
  · simp at h
  obtain _ | ⟨x26, l⟩ := l
  · simp at h
  obtain _ | ⟨x27, l⟩ := l
  · simp at h
  obtain _ | ⟨x28, l⟩ := l
  · simp at h
  obtain _ | ⟨x29, l⟩ := l
  · simp at h
  obtain _ | ⟨x30, l⟩ := l
  · simp at h
  obtain _ | ⟨x31, l⟩ := l
  · simp at h
  obtain _ | ⟨x32, l⟩ := l
  · simp at h
  obtain _ | ⟨x33, l⟩ := l
  · simp at h
  obtain _ | ⟨x34, l⟩ := l
  · simp at h
  obtain _ | ⟨x35, l⟩ := l
  · simp at h
  obtain _ | ⟨x36, l⟩ := l
  · simp at h
  obtain _ | ⟨x37, l⟩ := l
  · simp at h
  obtain _ | ⟨x38, l⟩ := l
  · simp at h
  obtain _ | ⟨x39, l⟩ := l
  · simp at h
  obtain _ | ⟨y, l⟩ := l
  · exact ⟨x0, x1, x2, x3, x4, x5, x6, x7, x8, x9, x10, x11, x12, x13, x14, x15, x16, x17, x18, x19, x20, x21, x22, x23, x24, x25, x26, x27, x28, x29, x30, x31, x32, x33, x34, x35, x36, x37, x38, x39, rfl⟩
  · simp at h
theorem cellsOf {w : World} {b : Nat} {arr : Array Value} {t : TypeId} (h : w.heap[b]? = some (.cells arr t)) (i : Nat) : w.cell? ⟨b, i, none⟩ = arr[i]? := by simp [World.cell?, h]
theorem wpList_build {P : Program} {ops : Array Oper} {rest : List Oper} {op : Oper} {a : Act} {w : World} {Q : Exit → Act → World → Prop} (hgd : op.guard = none) (ty : TypeId) (ps : Array (Nat × Operand)) (ho : op.op = .build ty ps)
    (cs : Array Value) (hb : P.built ty (ps.map fun (i, x) => (i, a.eval x)).toList = some cs)
    (h : wpList P ops Q rest (a.put op.dst (.agg cs)) w) : wpList P ops Q (op :: rest) a w :=
  wpList_plain hgd fun _ hK => by
    have hb' := run_build w ty (ps.map fun (i, x) => (i, a.eval x)) cs hb
    unfold Oper.wp execOp
    simp only [ho, Sem.run_bind, Sem.run_pure, Result.andThen_ok, hb']
    exact hK _ _ h
theorem built (l : List Value) (h : l.length = 40) : Try.prog.built 90 [(0, .agg l.toArray), (1, .int .i64 1)] = some (l ++ [Value.int .i64 1]).toArray := by
  obtain ⟨x0, x1, x2, x3, x4, x5, x6, x7, x8, x9, x10, x11, x12, x13, x14, x15, x16, x17, x18, x19, x20, x21, x22, x23, x24, x25, x26, x27, x28, x29, x30, x31, x32, x33, x34, x35, x36, x37, x38, x39, rfl⟩ := arr40 l h
  kernel_rfl
theorem info66 : (Try.prog.info? 88).map (·.size) = some 40 := by kernel_rfl
set_option maxRecDepth 100000 in
set_option maxHeartbeats 2000000 in
theorem split_any {w : World} {p : Nat} {arr : Array Value} {n : Nat} (h : w.heap[p]? = some (.cells arr 90)) (hs : arr.size = 41) (h40 : arr[40]? = some (.int .i64 ((n : Int) + 1))) (hn : n ≤ 100000) :
    Calls Try.prog 54 #[.pointer (some ⟨p, 0, none⟩)] w fun e w' => e = .returned (.pointer (some ⟨w.heap.size, 0, none⟩)) ∧
      w' = (w.setCell ⟨p, 40, none⟩ (.int .i64 (n : Int))).alloc (.cells (arr.setIfInBounds 40 (.int .i64 1)) 90) := by
  have hl := heap_lt h
  have c40 : w.cell? ⟨p, 40, none⟩ = some (.int .i64 ((n : Int) + 1)) := (cellsOf h 40).trans h40
  have fz : w.frozen? ⟨p, 40, none⟩ = false := by simp [World.frozen?, h]
  have HR : Hid ((w.setCell ⟨p, 40, none⟩ (.int .i64 (n : Int))).rangeAt p 0 (arr.toList.take 40)) := fun j v hj => by
    have hj' : j < 40 := by
      rcases Nat.lt_or_ge j 40 with hg | hg
      · exact hg
      · rw [List.getElem?_take, if_neg (by omega)] at hj; cases hj
    rw [cellsOf (Lib.heap_setCell_same h _), Nat.zero_add, Array.getElem?_setIfInBounds_ne (by omega)]
    rw [List.getElem?_take, if_pos hj'] at hj
    simpa using hj
  have hlen : (arr.toList.take 40).length = 40 := by simp [hs]
  have HB : Hid (_) := built (arr.toList.take 40) hlen
  have HE : Hid (((arr.toList.take 40) ++ [Value.int .i64 1]).toArray = arr.setIfInBounds 40 (.int .i64 1)) := by
    apply Array.ext'
    rw [Array.toList_setIfInBounds]
    apply List.ext_getElem?
    intro i
    rw [List.getElem?_append, List.getElem?_set, hlen, List.getElem?_take]
    have hs' : arr.toList.length = 41 := by simpa using hs
    by_cases h1 : i < 40
    · rw [if_pos h1, if_pos h1, if_neg (by omega)]
    · rw [if_neg h1]
      by_cases h2 : 40 = i
      · subst h2; simp [hs]
      · rw [if_neg h2, List.getElem?_eq_none (by simp; omega), List.getElem?_eq_none (by omega)]
  have HL : Hid (_) := hlen
  generalize arr.toList.take 40 = l at *
  clear h hs h40 hlen
  go_enter Try.func54, Try.ntmps54
  iterate 49 (first | go_values | go_skip | go_guarded | go_step | go_upon | go_back | (simp only [] at *; go_simp) | (go_values <;> (try go_simp)) | (go_ite <;> go_prune <;> (try go_simp)))
  refine wpList_load_mid rfl 88 (.tmp 12) rfl p 0 rfl l _ HR.out Try.underlying88 rfl (by rw [HL.out]; exact info66) ?_
  simp only [Act.put]
  refine wpList_build rfl 90 _ rfl _ (by simp [Act.eval]; exact HB.out) ?_
  rw [HE.out]
  go_wp2_with fail
  go_ret
  exact ⟨by simp, rfl⟩
end Go.Proofs.Ytmipgpkeegggpaa.P
