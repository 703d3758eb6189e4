/- Texts: Shelf LBuild LPiece LSign LLaid LByte. -/
import Derived.Shelf.LaysM
import Derived.Shelf.Strconv.Clone
import Derived.Test.YtpjmapoiinjakaaGreatDoorProg
import Derived.Shelf.Strings.Builder1
import Derived.Test.YtpjmapoiinjakaaGreatDoorBn00
import Derived.Laws.ResultCell
import Derived.Deep.MidRow
import Derived.Deep.DeepCutAuto
import Derived.ProofKit
import Derived.LaidMore
import Derived.OpenShut
import Derived.Stop.Joined
import Derived.Deep.CutBlock
import Derived.WalkSmall
section
namespace Go.Proofs.YtpjmapoiinjakaaGreatDoor
open Go.Shelf
def Tryz.laysM316_ren : Go.Shelf.Ren := ⟨fun | 316 => 91 | n => n, fun | 9 => 9 | 3 => 3 | 4 => 4 | 37 => 22 | 0 => 0 | 127 => 97 | 5 => 5 | n => n, fun | n => n⟩
theorem Tryz.laysM316 : Go.Proofs.LaysM.n316 Tryz.prog Tryz.laysM316_ren := {
  mixed := by kernel_rfl
  f316 := Tryz.func91.trans (congrArg some (by kernel_rfl))
  t0 := Tryz.underlying0
  a0 := Tryz.isAgg0
  z0 := Tryz.sizeOf0
  v0 := Tryz.zeroValue0
  t3 := Tryz.underlying3
  a3 := Tryz.isAgg3
  z3 := Tryz.sizeOf3
  v3 := Tryz.zeroValue3
  t4 := Tryz.underlying4
  a4 := Tryz.isAgg4
  z4 := Tryz.sizeOf4
  v4 := Tryz.zeroValue4
  t9 := Tryz.underlying9
  a9 := Tryz.isAgg9
  z9 := Tryz.sizeOf9
  v9 := Tryz.zeroValue9
  t37 := Tryz.underlying22
  a37 := Tryz.isAgg22
  z37 := Tryz.sizeOf22
  v37 := Tryz.zeroValue22
  t127 := Tryz.underlying97
  a127 := Tryz.isAgg97
  z127 := Tryz.sizeOf97
  v127 := Tryz.zeroValue97
  t5 := Tryz.underlying5
  a5 := Tryz.isAgg5
  z5 := Tryz.sizeOf5
  v5 := Tryz.zeroValue5
  i0 := by kernel_rfl
  i3 := by kernel_rfl
  i4 := by kernel_rfl
  i5 := by kernel_rfl
  i9 := by kernel_rfl
  i37 := by kernel_rfl
  i127 := by kernel_rfl }
open Go.RowKit in
/-- internal/stringslite.Clone (what strings.Clone calls): "Clone returns a fresh copy of s.": THE SAME BYTES. Of what was there nothing has turned (a new row is laid, and frozen, where s is not empty). (LAID: no walk: one application.) -/
theorem Tryz.stringslite_Clone (s : ByteArray) (w : World) (hlim : s.size ≤ 281474976710656) :
    Calls Tryz.prog 91 #[.string s] w fun e w' => e = .returned (.string s) ∧ Below w.heap.size w w' := Any.stringslite_Clone Tryz.laysM316 s w hlim
end Go.Proofs.YtpjmapoiinjakaaGreatDoor
end
section
namespace Go.Proofs.YtpjmapoiinjakaaGreatDoor
open Go.Shelf
def Tryz.lays169_ren : Go.Shelf.Ren := ⟨fun | 169 => 73 | n => n, fun | 70 => 87 | 9 => 9 | 0 => 0 | 72 => 89 | 37 => 22 | 127 => 97 | 3 => 3 | 5 => 5 | n => n, fun | n => n⟩
theorem Tryz.lays169 : Go.Proofs.Lays.n169 Tryz.prog Tryz.lays169_ren := {
  mixed := by kernel_rfl
  f169 := Tryz.func73.trans (congrArg some (by kernel_rfl))
  t0 := Tryz.underlying0
  a0 := Tryz.isAgg0
  z0 := Tryz.sizeOf0
  v0 := Tryz.zeroValue0
  t3 := Tryz.underlying3
  a3 := Tryz.isAgg3
  z3 := Tryz.sizeOf3
  v3 := Tryz.zeroValue3
  t9 := Tryz.underlying9
  a9 := Tryz.isAgg9
  z9 := Tryz.sizeOf9
  v9 := Tryz.zeroValue9
  t37 := Tryz.underlying22
  a37 := Tryz.isAgg22
  z37 := Tryz.sizeOf22
  v37 := Tryz.zeroValue22
  t70 := Tryz.underlying87
  a70 := Tryz.isAgg87
  z70 := Tryz.sizeOf87
  v70 := Tryz.zeroValue87
  t72 := Tryz.underlying89
  a72 := Tryz.isAgg89
  z72 := Tryz.sizeOf89
  v72 := Tryz.zeroValue89
  t127 := Tryz.underlying97
  a127 := Tryz.isAgg97
  z127 := Tryz.sizeOf97
  v127 := Tryz.zeroValue97 }
theorem Tryz.Builder_Extra_169 : Builder.Extra Tryz.prog Tryz.lays169_ren := {
  sizeBuilder := by kernel_rfl
  liesBuilder := by kernel_rfl
  t5 := Tryz.underlying5
  a5 := Tryz.isAgg5
  z5 := Tryz.sizeOf5
  v5 := Tryz.zeroValue5
  infoByte := by kernel_rfl
  cellsByte := by kernel_rfl
  sizeByte := by kernel_rfl
  neB5 := by decide }
end Go.Proofs.YtpjmapoiinjakaaGreatDoor
namespace Go.Proofs.YtpjmapoiinjakaaGreatDoor.L
open Go.RowKit
theorem string_any (B b : Nat) (l : List UInt8) (w : World) (h : Lib.IsBuilder 89 5 B b (Lib.byteCells l) w) (hBw : B ≤ w.heap.size) :
    Calls Tryz.prog 73 #[.pointer (some ⟨b, 0, none⟩)] w fun e w' => e = .returned (.string ⟨l.toArray⟩) ∧ Below B w w' := Any.Builder_String_any Tryz.lays169 Tryz.Builder_Extra_169 B b l w h hBw
set_option maxHeartbeats 1000000 in
set_option maxRecDepth 100000 in
theorem check_used (b : Nat) (w : World) (h0 : w.cell? ⟨b, 0, none⟩ = some (.pointer (some ⟨b, 0, none⟩))) :
    Calls Tryz.prog 92 #[.pointer (some ⟨b, 0, none⟩)] w fun e w' => e = .returned (.tuple #[]) ∧ w' = w := by
  obtain ⟨j, hj, _⟩ := Option.map_eq_some_iff.1 Tryz.Builder_Extra_169.sizeBuilder
  go_enter Tryz.func92, Tryz.ntmps92
  go_wp2
  rw [Lib.run_neq_ptr_same w _ Tryz.underlying87 hj]
  go_wp2
  go_end0
  exact ⟨rfl, rfl⟩
set_option maxHeartbeats 1000000 in
set_option maxRecDepth 100000 in
theorem check_fresh (b : Nat) (w : World) (h0 : w.cell? ⟨b, 0, none⟩ = some (.pointer none)) (hsh : w.shape? b = some (89, 2)) (hfz : w.frozen? ⟨b, 0, none⟩ = false) :
    Calls Tryz.prog 92 #[.pointer (some ⟨b, 0, none⟩)] w fun e w' => e = .returned (.tuple #[]) ∧ w' = w.setCell ⟨b, 0, none⟩ (.pointer (some ⟨b, 0, none⟩)) := by
  obtain ⟨j, hj, hjs⟩ := Option.map_eq_some_iff.1 Tryz.Builder_Extra_169.sizeBuilder
  go_enter Tryz.func92, Tryz.ntmps92
  go_wp2
  rw [Lib.run_to_unsafe w ⟨b, 0, none⟩ Tryz.underlying87 Tryz.underlying99 hj (by rw [hjs]; decide) hsh (Nat.zero_lt_succ 1)]
  simp only [Result.andThen]
  rw [Oper.upon_value]
  go_wp2
  rw [run_callFunc_extern Tryz.func106 (by kernel_rfl) (by kernel_rfl) (by kernel_rfl) (e := Extern.AbiNoEscape.same) (by kernel_rfl)]
  rw [Lib.run_noEscape]
  simp only [Result.andThen]
  rw [Oper.upon_value]
  go_wp2
  rw [Lib.run_from_unsafe w ⟨b, 0, none⟩ Tryz.underlying99 Tryz.underlying87 hj hsh Tryz.Builder_Extra_169.liesBuilder]
  simp only [Result.andThen]
  rw [Oper.upon_value]
  go_wp2
  go_end0
  exact ⟨rfl, rfl⟩
theorem check_any (B b : Nat) (bs : List Value) (w : World) (h : Lib.IsBuilder 89 5 B b bs w) :
    Calls Tryz.prog 92 #[.pointer (some ⟨b, 0, none⟩)] w fun e w' => e = .returned (.tuple #[]) ∧ (Lib.BuilderAt 89 5 B b (.pointer (some ⟨b, 0, none⟩)) bs w' ∧ Below B w w') := by
  rcases h with h | h
  · refine (check_fresh b w h.cell0 h.shape h.frozen0).mono ?_
    rintro e w' ⟨rfl, rfl⟩
    exact ⟨rfl, h.used _, (Below.refl B w).setCell (p := ⟨b, 0, none⟩) h.1 _⟩
  · refine (check_used b w h.cell0).mono ?_
    rintro e w' ⟨rfl, rfl⟩
    exact ⟨rfl, h, Below.refl B _⟩
theorem clone_any (s : ByteArray) (w : World) (hs : s.size ≤ 281474976710656) :
    Calls Tryz.prog 72 #[.string s] w fun e w' => e = .returned (.string s) ∧ Below w.heap.size w w' := by
  have H : Hid (_) := fun W => Tryz.stringslite_Clone s W hs
  go_enter Tryz.func72, Tryz.ntmps72
  go_wp2_with fail
  refine Calls.mono (H.out _) ?_
  rintro e w1 ⟨rfl, hb⟩
  go_wp2
  go_ret
  exact ⟨rfl, hb⟩
end Go.Proofs.YtpjmapoiinjakaaGreatDoor.L
end
section
namespace Go.Proofs.YtpjmapoiinjakaaGreatDoor.L
open Go.RowKit
set_option linter.unusedVariables false
theorem alloc_size (w : World) (o : Obj) : (w.alloc o).heap.size = w.heap.size + 1 := Array.size_push _
theorem below_chain {a b c : World} (h : Below a.heap.size a b) (k : Below b.heap.size b c) : Below a.heap.size a c := h.trans (k.mono h.size)
/-- Cells that were laid, looked at later. -/
theorem cells5 {w w1 : World} {b : Nat} {x0 x1 x2 x3 x4 : Value} {t : TypeId} (hb : b = w.heap.size) (hB : Below (b + 1) (w.alloc (.cells #[x0, x1, x2, x3, x4] t)) w1) :
    w1.cell? ⟨b, 0, none⟩ = some x0 ∧ w1.cell? ⟨b, 1, none⟩ = some x1 ∧ w1.cell? ⟨b, 2, none⟩ = some x2 ∧ w1.cell? ⟨b, 3, none⟩ = some x3 ∧ w1.cell? ⟨b, 4, none⟩ = some x4 ∧ w1.frozen? ⟨b, 0, none⟩ = false ∧ w1.frozen? ⟨b, 1, none⟩ = false ∧ w1.frozen? ⟨b, 2, none⟩ = false ∧ w1.frozen? ⟨b, 3, none⟩ = false ∧ w1.frozen? ⟨b, 4, none⟩ = false := by
  subst hb
  refine ⟨?_, ?_, ?_, ?_, ?_, ?_, ?_, ?_, ?_, ?_⟩
  · rw [hB.cell (Nat.lt_succ_self _)]; simp
  · rw [hB.cell (Nat.lt_succ_self _)]; simp
  · rw [hB.cell (Nat.lt_succ_self _)]; simp
  · rw [hB.cell (Nat.lt_succ_self _)]; simp
  · rw [hB.cell (Nat.lt_succ_self _)]; simp
  · rw [hB.frozen (Nat.lt_succ_self _)]; simp
  · rw [hB.frozen (Nat.lt_succ_self _)]; simp
  · rw [hB.frozen (Nat.lt_succ_self _)]; simp
  · rw [hB.frozen (Nat.lt_succ_self _)]; simp
  · rw [hB.frozen (Nat.lt_succ_self _)]; simp
/-- Cells that were laid, looked at later. -/
theorem cells6 {w w1 : World} {b : Nat} {x0 x1 x2 x3 x4 x5 : Value} {t : TypeId} (hb : b = w.heap.size) (hB : Below (b + 1) (w.alloc (.cells #[x0, x1, x2, x3, x4, x5] t)) w1) :
    w1.cell? ⟨b, 0, none⟩ = some x0 ∧ w1.cell? ⟨b, 1, none⟩ = some x1 ∧ w1.cell? ⟨b, 2, none⟩ = some x2 ∧ w1.cell? ⟨b, 3, none⟩ = some x3 ∧ w1.cell? ⟨b, 4, none⟩ = some x4 ∧ w1.cell? ⟨b, 5, none⟩ = some x5 ∧ w1.frozen? ⟨b, 0, none⟩ = false ∧ w1.frozen? ⟨b, 1, none⟩ = false ∧ w1.frozen? ⟨b, 2, none⟩ = false ∧ w1.frozen? ⟨b, 3, none⟩ = false ∧ w1.frozen? ⟨b, 4, none⟩ = false ∧ w1.frozen? ⟨b, 5, none⟩ = false := by
  subst hb
  refine ⟨?_, ?_, ?_, ?_, ?_, ?_, ?_, ?_, ?_, ?_, ?_, ?_⟩
  · rw [hB.cell (Nat.lt_succ_self _)]; simp
  · rw [hB.cell (Nat.lt_succ_self _)]; simp
  · rw [hB.cell (Nat.lt_succ_self _)]; simp
  · rw [hB.cell (Nat.lt_succ_self _)]; simp
  · rw [hB.cell (Nat.lt_succ_self _)]; simp
  · rw [hB.cell (Nat.lt_succ_self _)]; simp
  · rw [hB.frozen (Nat.lt_succ_self _)]; simp
  · rw [hB.frozen (Nat.lt_succ_self _)]; simp
  · rw [hB.frozen (Nat.lt_succ_self _)]; simp
  · rw [hB.frozen (Nat.lt_succ_self _)]; simp
  · rw [hB.frozen (Nat.lt_succ_self _)]; simp
  · rw [hB.frozen (Nat.lt_succ_self _)]; simp
def pcV (k : Int) (t : ByteArray) (n z : Int) : Value := .agg #[.int .i64 k, .string t, .int .i64 n, .int .i64 0, .bool false, .int .i64 z]
/-- What a kind makes of a text: a piece, or none. -/
def Told (r : Option Lx.Pc) (e : Ending) : Prop := ∃ (k n z : Nat) (t : List UInt8) (ok : Bool), e = .returned (.tuple #[.agg #[.int .i64 (k : Int), .string ⟨t.toArray⟩, .int .i64 (n : Int), .int .i64 0, .bool false, .int .i64 (z : Int)], .bool ok]) ∧ r = if ok then some ⟨k, t, n, z⟩ else none
set_option maxRecDepth 100000 in
set_option maxHeartbeats 400000 in
theorem end_any (s : ByteArray) (w : World) :
    Calls Tryz.prog 47 #[.string s] w fun e w' => Told (Lx.pEnd s.data.toList) e ∧ Below w.heap.size w w' := by
  by_cases h0 : s.size = 0
  · obtain rfl := empty_of h0
    go_enter Tryz.func47, Tryz.ntmps47
    go_wp2
    exact bodyPost_ret (v := .tuple #[.agg #[.int .i64 0, .string ⟨#[]⟩, .int .i64 0, .int .i64 0, .bool false, .int .i64 0], .bool true]) (by simp [results, Tryz.results47, go_sem]) rfl ⟨⟨0, 0, 0, [], true, rfl, rfl⟩, (Below.refl _ _).alloc (Nat.le_refl _) _⟩
  · have hne : s.data.toList ≠ [] := fun e => h0 (by rw [← size_list, e]; rfl)
    have hem : s.toList.isEmpty = false := by rw [ByteArray.toList_eq]; cases hl : s.data.toList with
      | nil => exact absurd hl hne
      | cons c l => rfl
    have HP : Hid (Lx.pEnd s.data.toList = none) := if_neg hne
    rw [HP.out]
    clear hne h0
    go_enter Tryz.func47, Tryz.ntmps47
    go_wp2
    exact bodyPost_ret (v := .tuple #[.agg #[.int .i64 0, .string ⟨#[]⟩, .int .i64 0, .int .i64 0, .bool false, .int .i64 0], .bool false]) (by simp [results, Tryz.results47, go_sem]) rfl ⟨⟨0, 0, 0, [], false, rfl, rfl⟩, (Below.refl _ _).alloc (Nat.le_refl _) _⟩
set_option maxRecDepth 100000 in
set_option maxHeartbeats 1000000 in
theorem number_core (s D : ByteArray) (T : List UInt8) (vl : Nat) (vb bg : Bool) (w : World) (HD : Hid (D = ⟨T.toArray⟩)) (hle : (D.size : Int) ≤ s.size) (hs : s.size ≤ 1000000)
    (H1 : Hid (∀ W, Calls Tryz.prog 67 #[.string s, .func (.func 68) #[] #[]] W fun e w' => e = .returned (.string D) ∧ w' = W))
    (HV : Hid (∀ W, Calls Tryz.prog 69 #[.string D] W fun e w' => e = .returned (if vb then .tuple #[.int .i64 (vl : Int), .bool true] else .tuple #[.int .i64 0, .bool false]) ∧ w' = W))
    (HB : Hid (∀ W, Calls Tryz.prog 70 #[.string (s.extract D.size s.size), .func (.func 71) #[] #[]] W fun e w' => e = .returned (.bool bg) ∧ w' = W))
    (HC : Hid (∀ W, Calls Tryz.prog 72 #[.string D] W fun e w' => e = .returned (.string D) ∧ Below W.heap.size W w')) :
    Calls Tryz.prog 48 #[.string s] w fun e w' => Told (if vb && !bg then some ⟨1, T, vl, D.size⟩ else none) e ∧ Below w.heap.size w w' := by
  cases vb
  · simp only [Bool.false_and, Bool.false_eq_true, if_false] at HV ⊢
    go_enter Tryz.func48, Tryz.ntmps48
    go_wp2_with (first | (go_at_call 67; refine Calls.mono (H1.out _) ?_; rintro e w' ⟨rfl, rfl⟩) | (go_at_call 69; refine Calls.mono (HV.out _) ?_; rintro e w' ⟨rfl, rfl⟩) | (go_at_call 70; refine Calls.mono (HB.out _) ?_; rintro e w' ⟨rfl, rfl⟩))
    exact bodyPost_ret (v := .tuple #[.agg #[.int .i64 0, .string ⟨#[]⟩, .int .i64 0, .int .i64 0, .bool false, .int .i64 0], .bool false]) (by simp [results, Tryz.results48, go_sem]) rfl ⟨⟨0, 0, 0, [], false, rfl, rfl⟩, (Below.refl _ _).alloc (Nat.le_refl _) _⟩
  · simp only [if_true] at HV
    cases bg
    · simp only [Bool.not_false, Bool.and_self, if_true]
      go_enter Tryz.func48, Tryz.ntmps48
      go_wp2_with (first | (go_at_call 67; refine Calls.mono (H1.out _) ?_; rintro e w' ⟨rfl, rfl⟩) | (go_at_call 69; refine Calls.mono (HV.out _) ?_; rintro e w' ⟨rfl, rfl⟩) | (go_at_call 70; refine Calls.mono (HB.out _) ?_; rintro e w' ⟨rfl, rfl⟩))
      refine Calls.mono (HC.out _) ?_
      rintro e w1 ⟨rfl, hb1⟩
      obtain ⟨q0, q1, q2, q3, q4, q5, f0, f1, f2, f3, f4, f5⟩ := cells6 rfl (hb1.mono (by simp))
      have hlt1 : w.heap.size < w1.heap.size := by have := hb1.size; simp at this; omega
      have hBB := ((Below.refl w.heap.size w).alloc (Nat.le_refl _) _).trans (hb1.mono (by simp))
      clear hb1
      go_wp2_with fail
      refine bodyPost_ret (v := .tuple #[.agg #[.int .i64 1, .string D, .int .i64 (vl : Int), .int .i64 0, .bool false, .int .i64 (D.size : Int)], .bool true]) (by simp [results, Tryz.results48, go_sem, *]) rfl ⟨⟨1, vl, D.size, T, true, by rw [← HD.out]; rfl, rfl⟩, ?_⟩
      repeat (first | with_reducible exact hBB | (with_reducible refine Below.drew ?_) | (with_reducible refine Below.setCell ?_ (by exact Nat.le_refl _) _) | (with_reducible refine Below.alloc ?_ (by simp; omega) _))
    · simp only [Bool.not_true, Bool.and_false, Bool.false_eq_true, if_false]
      go_enter Tryz.func48, Tryz.ntmps48
      go_wp2_with (first | (go_at_call 67; refine Calls.mono (H1.out _) ?_; rintro e w' ⟨rfl, rfl⟩) | (go_at_call 69; refine Calls.mono (HV.out _) ?_; rintro e w' ⟨rfl, rfl⟩) | (go_at_call 70; refine Calls.mono (HB.out _) ?_; rintro e w' ⟨rfl, rfl⟩))
      exact bodyPost_ret (v := .tuple #[.agg #[.int .i64 0, .string ⟨#[]⟩, .int .i64 0, .int .i64 0, .bool false, .int .i64 0], .bool false]) (by simp [results, Tryz.results48, go_sem]) rfl ⟨⟨0, 0, 0, [], false, rfl, rfl⟩, (Below.refl _ _).alloc (Nat.le_refl _) _⟩
theorem take_size (s : ByteArray) (m : Nat) (h : m ≤ s.size) : (⟨(s.data.toList.take m).toArray⟩ : ByteArray).size = m := by
  show (s.data.toList.take m).length = m
  rw [List.length_take, size_list]; omega
theorem number_any (s : ByteArray) (w : World) (hs : s.size ≤ 1000000) :
    Calls Tryz.prog 48 #[.string s] w fun e w' => Told (Lx.pNum s.data.toList) e ∧ Below w.heap.size w w' := by
  have hl := Lx.hd_le Lx.digit s.data.toList
  rw [size_list] at hl
  have hsz := take_size s _ hl
  have hP : Lx.pNum s.data.toList = if Lx.valB (s.data.toList.take (Lx.hd Lx.digit s.data.toList)) && !Lx.beg Lx.ofName (s.data.toList.drop (Lx.hd Lx.digit s.data.toList)) then some ⟨1, s.data.toList.take (Lx.hd Lx.digit s.data.toList), Lx.val (s.data.toList.take (Lx.hd Lx.digit s.data.toList)), (⟨(s.data.toList.take (Lx.hd Lx.digit s.data.toList)).toArray⟩ : ByteArray).size⟩ else none := by
    rw [hsz]; rfl
  rw [hP]
  refine number_core s ⟨(s.data.toList.take (Lx.hd Lx.digit s.data.toList)).toArray⟩ (s.data.toList.take (Lx.hd Lx.digit s.data.toList)) _ _ _ w rfl (by rw [hsz]; omega) hs (fun W => head_digit s W (by omega)) (fun W => value_any _ W (by rw [hsz]; omega) (fun j h => ?_)) (fun W => ?_) (fun W => clone_any _ W (by rw [hsz]; omega))
  · have h' : j < Lx.hd Lx.digit s.data.toList := by rw [hsz] at h; exact h
    have e : (⟨(s.data.toList.take (Lx.hd Lx.digit s.data.toList)).toArray⟩ : ByteArray)[j] = s.data.toList[j]'(by rw [size_list]; omega) := by
      show (s.data.toList.take _)[j] = _
      rw [List.getElem_take]
    rw [e]
    exact Lx.hd_all _ _ _ _ h'
  · have := begins_ofName (s.extract (⟨(s.data.toList.take (Lx.hd Lx.digit s.data.toList)).toArray⟩ : ByteArray).size s.size) W (by simp [ByteArray.size_extract]; omega)
    rw [tail_list] at this
    rw [hsz] at this ⊢
    exact this
set_option maxRecDepth 100000 in
set_option maxHeartbeats 1000000 in
theorem name_core (s D : ByteArray) (T : List UInt8) (bg iw : Bool) (w : World) (HD : Hid (D = ⟨T.toArray⟩))
    (H1 : Hid (∀ W, Calls Tryz.prog 67 #[.string s, .func (.func 71) #[] #[]] W fun e w' => e = .returned (.string D) ∧ w' = W))
    (HV : Hid (∀ W, Calls Tryz.prog 77 #[.string D] W fun e w' => e = .returned (.bool iw) ∧ w' = W))
    (HB : Hid (∀ W, Calls Tryz.prog 70 #[.string s, .func (.func 76) #[] #[]] W fun e w' => e = .returned (.bool bg) ∧ w' = W))
    (HC : Hid (∀ W, Calls Tryz.prog 72 #[.string D] W fun e w' => e = .returned (.string D) ∧ Below W.heap.size W w')) :
    Calls Tryz.prog 50 #[.string s] w fun e w' => Told (if bg then some ⟨if iw then 4 else 3, T, 0, D.size⟩ else none) e ∧ Below w.heap.size w w' := by
  cases bg
  · simp only [Bool.false_eq_true, if_false]
    go_enter Tryz.func50, Tryz.ntmps50
    go_wp2_with (first | (go_at_call 67; refine Calls.mono (H1.out _) ?_; rintro e w' ⟨rfl, rfl⟩) | (go_at_call 69; refine Calls.mono (HV.out _) ?_; rintro e w' ⟨rfl, rfl⟩) | (go_at_call 70; refine Calls.mono (HB.out _) ?_; rintro e w' ⟨rfl, rfl⟩))
    exact bodyPost_ret (v := .tuple #[.agg #[.int .i64 0, .string ⟨#[]⟩, .int .i64 0, .int .i64 0, .bool false, .int .i64 0], .bool false]) (by simp [results, Tryz.results50, go_sem]) rfl ⟨⟨0, 0, 0, [], false, rfl, rfl⟩, (Below.refl _ _).alloc (Nat.le_refl _) _⟩
  · simp only [if_true]
    cases iw
    · simp only [Bool.false_eq_true, if_false]
      go_enter Tryz.func50, Tryz.ntmps50
      go_wp2_with (first | (go_at_call 67; refine Calls.mono (H1.out _) ?_; rintro e w' ⟨rfl, rfl⟩) | (go_at_call 70; refine Calls.mono (HB.out _) ?_; rintro e w' ⟨rfl, rfl⟩))
      refine Calls.mono (HC.out _) ?_
      rintro e w1 ⟨rfl, hb1⟩
      obtain ⟨q0, q1, q2, q3, q4, q5, f0, f1, f2, f3, f4, f5⟩ := cells6 rfl (hb1.mono (by simp))
      have hlt1 : w.heap.size < w1.heap.size := by have := hb1.size; simp at this; omega
      have hBB := ((Below.refl w.heap.size w).alloc (Nat.le_refl _) _).trans (hb1.mono (by simp))
      clear hb1
      go_wp2_with (go_at_call 77; refine Calls.mono (HV.out _) ?_; rintro e w' ⟨rfl, rfl⟩)
      refine bodyPost_ret (v := .tuple #[.agg #[.int .i64 3, .string D, .int .i64 0, .int .i64 0, .bool false, .int .i64 (D.size : Int)], .bool true]) (by simp [results, Tryz.results50, go_sem, *]) rfl ⟨⟨3, 0, D.size, T, true, by rw [← HD.out]; rfl, rfl⟩, ?_⟩
      repeat (first | with_reducible exact hBB | (with_reducible refine Below.drew ?_) | (with_reducible refine Below.setCell ?_ (by exact Nat.le_refl _) _) | (with_reducible refine Below.alloc ?_ (by simp; omega) _))
    · simp only [if_true]
      go_enter Tryz.func50, Tryz.ntmps50
      go_wp2_with (first | (go_at_call 67; refine Calls.mono (H1.out _) ?_; rintro e w' ⟨rfl, rfl⟩) | (go_at_call 70; refine Calls.mono (HB.out _) ?_; rintro e w' ⟨rfl, rfl⟩))
      refine Calls.mono (HC.out _) ?_
      rintro e w1 ⟨rfl, hb1⟩
      obtain ⟨q0, q1, q2, q3, q4, q5, f0, f1, f2, f3, f4, f5⟩ := cells6 rfl (hb1.mono (by simp))
      have hlt1 : w.heap.size < w1.heap.size := by have := hb1.size; simp at this; omega
      have hBB := ((Below.refl w.heap.size w).alloc (Nat.le_refl _) _).trans (hb1.mono (by simp))
      clear hb1
      go_wp2_with (go_at_call 77; refine Calls.mono (HV.out _) ?_; rintro e w' ⟨rfl, rfl⟩)
      refine bodyPost_ret (v := .tuple #[.agg #[.int .i64 4, .string D, .int .i64 0, .int .i64 0, .bool false, .int .i64 (D.size : Int)], .bool true]) (by simp [results, Tryz.results50, go_sem, *]) rfl ⟨⟨4, 0, D.size, T, true, by rw [← HD.out]; rfl, rfl⟩, ?_⟩
      repeat (first | with_reducible exact hBB | (with_reducible refine Below.drew ?_) | (with_reducible refine Below.setCell ?_ (by exact Nat.le_refl _) _) | (with_reducible refine Below.alloc ?_ (by simp; omega) _))
theorem name_any (s : ByteArray) (w : World) (hs : s.size ≤ 1000000) :
    Calls Tryz.prog 50 #[.string s] w fun e w' => Told (Lx.pNam s.data.toList) e ∧ Below w.heap.size w w' := by
  have hl := Lx.hd_le Lx.ofName s.data.toList
  rw [size_list] at hl
  have hsz := take_size s _ hl
  have hP : Lx.pNam s.data.toList = if Lx.beg Lx.letter s.data.toList then some ⟨if Lx.isWord (s.data.toList.take (Lx.hd Lx.ofName s.data.toList)) then 4 else 3, s.data.toList.take (Lx.hd Lx.ofName s.data.toList), 0, (⟨(s.data.toList.take (Lx.hd Lx.ofName s.data.toList)).toArray⟩ : ByteArray).size⟩ else none := by
    rw [hsz]; rfl
  rw [hP]
  exact name_core s ⟨(s.data.toList.take (Lx.hd Lx.ofName s.data.toList)).toArray⟩ (s.data.toList.take (Lx.hd Lx.ofName s.data.toList)) _ _ w rfl (fun W => head_ofName s W (by omega)) (fun W => word_any _ W) (fun W => begins_letter s W (by omega)) (fun W => clone_any _ W (by rw [hsz]; omega))
end Go.Proofs.YtpjmapoiinjakaaGreatDoor.L
end
section
namespace Go.Proofs.YtpjmapoiinjakaaGreatDoor.L
open Go.RowKit
set_option linter.unusedVariables false
def sigV : List Value := Lx.signs.map fun s => .string ⟨s.toArray⟩
/-- The signs lie where they were laid at the start. -/
def Sig (w : World) : Prop := 0 < w.heap.size ∧ w.rangeAt 0 0 sigV
theorem Sig.below {w w' : World} (h : Sig w) (hb : Below w.heap.size w w') : Sig w' :=
  ⟨Nat.lt_of_lt_of_le h.1 hb.size, fun j v hj => by rw [hb.cell h.1]; exact h.2 j v hj⟩
theorem sigInfo : (Tryz.prog.info? 95).map (·.size) = some sigV.length := by kernel_rfl
theorem sig_index (k : Nat) (h : k < 26) (w : World) : (Instr.index 95 (.agg sigV.toArray) (.int .i64 (k : Int))).run Tryz.prog w = .ok (.string ⟨(Lx.signs[k]'h).toArray⟩) w := by
  have e : sigV[k]? = some (.string ⟨(Lx.signs[k]'h).toArray⟩) := by
    unfold sigV
    rw [List.getElem?_map, List.getElem?_eq_getElem h]; rfl
  simp [Instr.index, go_sem, h, e]
theorem sig_small : ∀ s ∈ Lx.signs, s.length ≤ 3 := by decide
theorem longer_small (l a s : List UInt8) (ha : a.length ≤ 3) (hs : s.length ≤ 3) : (Lx.longer l a s).length ≤ 3 := by
  unfold Lx.longer; split <;> assumption
theorem take_next {α : Type} (L : List α) (k : Nat) (h : k < L.length) : L.take (k + 1) = L.take k ++ [L[k]] := by
  rw [List.take_add_one, List.getElem?_eq_getElem h]; rfl
def upTo (l : List UInt8) (k : Nat) : List UInt8 := (Lx.signs.take k).foldl (Lx.longer l) []
theorem upTo_next (l : List UInt8) (k : Nat) (h : k < 26) : upTo l (k + 1) = Lx.longer l (upTo l k) (Lx.signs[k]'h) := by
  unfold upTo
  rw [take_next _ _ h, List.foldl_append]; rfl
theorem upTo_all (l : List UInt8) : Lx.pSgn l = if upTo l 26 = [] then none else some ⟨5, upTo l 26, 0, (upTo l 26).length⟩ := rfl
set_option maxRecDepth 100000 in
set_option maxHeartbeats 2000000 in
theorem sign_core (s : ByteArray) (w : World) (F : Nat → List UInt8) (S : Nat → List UInt8) (P : List UInt8 → Bool) (R : Option Lx.Pc) (h0 : w.heap.size ≠ 0)
    (HP : Hid (∀ (k : Nat) W, k < 26 → Calls Tryz.prog 65 #[.string s, .string ⟨(S k).toArray⟩] W fun e w' => e = .returned (.bool (P (S k))) ∧ w' = W))
    (HG : Hid (∀ o, (w.alloc o).rangeAt 0 0 sigV)) (HR : Hid (R = if F 26 = [] then none else some ⟨5, F 26, 0, (F 26).length⟩)) (HF0 : Hid (F 0 = []))
    (HF : Hid (∀ k, k < 26 → F (k + 1) = if (F k).length < (S k).length ∧ P (S k) = true then S k else F k)) (hS : Hid (∀ k, (S k).length ≤ 3))
    (HI : Hid (∀ (k : Nat) W, k < 26 → (Instr.index 95 (.agg sigV.toArray) (.int .i64 (k : Int))).run Tryz.prog W = .ok (.string ⟨(S k).toArray⟩) W)) :
    Calls Tryz.prog 51 #[.string s] w fun e w' => Told R e ∧ Below w.heap.size w w' := by
  go_enter Tryz.func51, Tryz.ntmps51
  go_upto_region 2 with fail
  first
  | (iterate 1 (first | go_values | go_skip | go_guarded | go_step | go_upon | go_back)
     refine wpList_load_mid rfl 95 (.global 0) rfl 0 0 rfl sigV _ (HG.out _) Tryz.underlying95 rfl sigInfo ?_)
  | (iterate 2 (first | go_values | go_skip | go_guarded | go_step | go_upon | go_back)
     refine wpList_load_mid rfl 95 (.global 0) rfl 0 0 rfl sigV _ (HG.out _) Tryz.underlying95 rfl sigInfo ?_)
  | (iterate 3 (first | go_values | go_skip | go_guarded | go_step | go_upon | go_back)
     refine wpList_load_mid rfl 95 (.global 0) rfl 0 0 rfl sigV _ (HG.out _) Tryz.underlying95 rfl sigInfo ?_)
  | (iterate 4 (first | go_values | go_skip | go_guarded | go_step | go_upon | go_back)
     refine wpList_load_mid rfl 95 (.global 0) rfl 0 0 rfl sigV _ (HG.out _) Tryz.underlying95 rfl sigInfo ?_)
  simp only [Act.put]
  generalize sigV.toArray = A at HI ⊢
  clear HG
  go_wp2_with fail
  go_loopw [4, 8] (fun a i W => ∃ (k : Nat) (T : List UInt8), k ≤ 26 ∧ T.length ≤ 3 ∧ i = .int .i64 k ∧ a = .string ⟨T.toArray⟩ ∧ Hid (T = F k) ∧ W = w.alloc (.cells #[.int .i64 0, .string ⟨#[]⟩, .int .i64 0, .int .i64 0, .bool false, .int .i64 0] 72)) (fun _ i _ => 26 - (intOf i).toNat)
  case atStart => exact ⟨0, [], by omega, by simp, rfl, rfl, HF0.out.symm, rfl⟩
  case round =>
    obtain ⟨k, T, hk, hT, rfl, rfl, HT, rfl⟩ := hrel
    clear HF0
    by_cases hlt : k < 26
    · have hlt' : (k : Int) < 26 := by omega
      have hix := fun W => HI.out k W hlt
      have HS := HF.out k hlt
      have hsm := hS.out k
      have HQ : Hid (_) := fun W => HP.out k W hlt
      rw [← HT.out] at HS
      have hz1 : (⟨(S k).toArray⟩ : ByteArray).size = (S k).length := rfl
      have hz2 : (⟨T.toArray⟩ : ByteArray).size = T.length := rfl
      clear HF HP hS HI HR HT
      generalize S k = U at *
      by_cases h1 : T.length < U.length
      · have h1' : ((⟨T.toArray⟩ : ByteArray).size : Int) < (⟨U.toArray⟩ : ByteArray).size := by rw [hz1, hz2]; omega
        cases hpre : P U
        · rw [hpre] at HQ
          have HE : Hid (T = F (k + 1)) := by show _ = _; rw [HS, if_neg (by rw [hpre]; simp)]
          clear HS hpre
          go_wp2_with (go_at_call 65; refine Calls.mono (HQ.out _) ?_; rintro e w' ⟨rfl, rfl⟩)
          go_roundw
          case rel => exact ⟨k + 1, T, by omega, hT, by go_num, rfl, HE, trivial⟩
          case measure => simp [intOf]; omega
        · rw [hpre] at HQ
          have HE : Hid (U = F (k + 1)) := by show _ = _; rw [HS, if_pos ⟨h1, hpre⟩]
          clear HS hpre
          go_wp2_with (go_at_call 65; refine Calls.mono (HQ.out _) ?_; rintro e w' ⟨rfl, rfl⟩)
          go_roundw
          case rel => exact ⟨k + 1, U, by omega, hsm, by go_num, rfl, HE, trivial⟩
          case measure => simp [intOf]; omega
      · have h1' : ¬ ((⟨T.toArray⟩ : ByteArray).size : Int) < (⟨U.toArray⟩ : ByteArray).size := by rw [hz1, hz2]; omega
        have HE : Hid (T = F (k + 1)) := by show _ = _; rw [HS, if_neg (fun h => h1 h.1)]
        clear HS
        go_wp2_with (go_at_call 65; refine Calls.mono (HQ.out _) ?_; rintro e w' ⟨rfl, rfl⟩)
        go_roundw
        case rel => exact ⟨k + 1, T, by omega, hT, by go_num, rfl, HE, trivial⟩
        case measure => simp [intOf]; omega
    · obtain rfl : k = 26 := by omega
      have HE := HR.out
      rw [← HT.out] at HE
      have HE' : Hid (_) := HE
      clear HP HI HF hS HR HT HE
      by_cases hem : T = []
      · subst hem
        go_wp2_with fail
        exact bodyPost_ret (v := .tuple #[.agg #[.int .i64 5, .string ⟨#[]⟩, .int .i64 0, .int .i64 0, .bool false, .int .i64 0], .bool false]) (by simp [results, Tryz.results51, go_sem]) rfl ⟨⟨5, 0, 0, [], false, rfl, HE'.out⟩, ((Below.refl _ _).alloc (Nat.le_refl _) _)⟩
      · have hem' : (⟨T.toArray⟩ : ByteArray).toList.isEmpty = false := by
          rw [ByteArray.toList_eq]; cases T with
          | nil => exact absurd rfl hem
          | cons c l => rfl
        have HE2 : Hid (R = some ⟨5, T, 0, T.length⟩) := HE'.out.trans (if_neg hem)
        clear HE'
        go_wp2_with fail
        exact bodyPost_ret (v := .tuple #[.agg #[.int .i64 5, .string ⟨T.toArray⟩, .int .i64 0, .int .i64 0, .bool false, .int .i64 (T.length : Int)], .bool true]) (by simp [results, Tryz.results51, go_sem, hem]) rfl ⟨⟨5, 0, T.length, T, true, rfl, HE2.out⟩, ((Below.refl _ _).alloc (Nat.le_refl _) _)⟩
theorem sign_any (s : ByteArray) (w : World) (hs : s.size ≤ 1000000) (hg : Sig w) :
    Calls Tryz.prog 51 #[.string s] w fun e w' => Told (Lx.pSgn s.data.toList) e ∧ Below w.heap.size w w' := by
  have e : ∀ k (h : k < 26), (Lx.signs[k]?.getD []) = Lx.signs[k]'h := fun k h => by rw [List.getElem?_eq_getElem h]; rfl
  have hsm : ∀ k, (Lx.signs[k]?.getD []).length ≤ 3 := fun k => by
    by_cases h : k < 26
    · rw [e k h]; exact sig_small _ (List.getElem_mem (l := Lx.signs) h)
    · rw [List.getElem?_eq_none (by show 26 ≤ k; omega)]; simp
  exact sign_core s w (upTo s.data.toList) (fun k => Lx.signs[k]?.getD []) (fun p => Lx.isPre p s.data.toList) _ (Nat.ne_of_gt hg.1)
    (fun k W _ => pre_any s ⟨(Lx.signs[k]?.getD []).toArray⟩ W (by omega) (by have := hsm k; simpa [ByteArray.size] using (by omega : (Lx.signs[k]?.getD []).length ≤ 100)))
    (fun o => (hg.below ((Below.refl _ _).alloc (Nat.le_refl _) o)).2) (upTo_all _) rfl
    (fun k h => by rw [upTo_next _ _ h]; show _ = if _ then _ else _; rw [e k h]; rfl) hsm
    (fun k W h => by rw [sig_index k h, e k h])
end Go.Proofs.YtpjmapoiinjakaaGreatDoor.L
end
section
namespace Go.Proofs.YtpjmapoiinjakaaGreatDoor.L
open Go.ChangeShapes Go.WideShapes Go.ChangeAt Go.RowKit
set_option linter.unusedVariables false
abbrev laidL : List (String × DataW Unit) := [("boomerang/lex.signs", Rows.laid_boomerang_lex_signs)]
theorem gSigns : Tryz.prog.globalNamed "boomerang/lex.signs" = some 0 := by kernel_rfl
theorem tSigns : (Tryz.prog.globals[0]?).map (·.type) = some 95 := by kernel_rfl
theorem laidDatum : (Rows.laid_boomerang_lex_signs : DataW Unit) = .agg (Lx.signs.map fun s => .lit (.string s)) := by rfl
theorem c9 : Tryz.prog.cellsOf 9 = 1 := by kernel_rfl
theorem cArr : Tryz.prog.cellsOf 95 = 26 := by kernel_rfl
theorem sig_of_laid {W : World} (h : laidMetH Tryz.prog laidL W) : Sig W := by
  rw [MakeChecks.laidMetH_plain _ _ _ (by kernel_rfl)] at h
  obtain ⟨ps, ⟨g0, t0, cs0, f0, p0, q0, hg0, ht0, hv0, hd0, _, _⟩, _, _⟩ := h
  obtain rfl := Option.some.inj (gSigns.symm.trans hg0)
  obtain rfl := Option.some.inj (tSigns.symm.trans ht0)
  obtain ⟨xs, m1, rfl, hx1, hlen, hn3, hel⟩ := DataW.trod_array Tryz.underlying95 hd0
  rw [cArr] at hlen
  rw [laidDatum] at hx1
  simp only [Prod.mk.injEq, DataW.agg.injEq] at hx1
  have hcell : ∀ k (h : k < 26), W.cell? ⟨0, k, none⟩ = some (.string ⟨(Lx.signs[k]'h).toArray⟩) := fun k hk => by
    have he := hel k hk
    rw [c9, Nat.mul_one] at he
    have hxk : k < xs.length := by omega
    rw [List.getElem?_eq_getElem hxk] at he
    obtain ⟨s, e1, e2, _⟩ := DataW.trod_string Tryz.underlying9 he
    have e3 : (xs.map (·.1))[k]? = (Lx.signs.map fun s => DataW.lit (.string s))[k]? := by rw [← hx1.1]
    rw [List.getElem?_map, List.getElem?_map, List.getElem?_eq_getElem hxk, List.getElem?_eq_getElem (show k < Lx.signs.length from hk), e2] at e3
    simp only [Option.map_some, Option.some.injEq, DataW.lit.injEq, Lit.string.injEq] at e3
    have hc := World.var?_cell hg0 hv0 k
    have e4 : cs0[k]? = some (.string s) := by
      have e5 : (List.take 1 (List.drop k cs0.toList))[0]? = some (Value.string s) := by rw [e1]; rfl
      rw [List.getElem?_take, if_pos (by omega), List.getElem?_drop, Nat.add_zero] at e5
      simpa using e5
    have e6 : s = ⟨(Lx.signs[k]'hk).toArray⟩ := by rw [← mk_list s]; exact congrArg (fun l : List UInt8 => (⟨l.toArray⟩ : ByteArray)) e3
    rw [hc, e4]; exact congrArg (fun x => some (Value.string x)) e6
  refine ⟨Nat.lt_of_not_le fun hg => ?_, fun j v hj => ?_⟩
  · have := hcell 0 (by omega)
    simp [World.cell?, Array.getElem?_eq_none hg] at this
  · have hj26 : j < 26 := by
      rcases Nat.lt_or_ge j 26 with h | h
      · exact h
      · rw [List.getElem?_eq_none (show sigV.length ≤ j from h)] at hj; cases hj
    rw [Nat.zero_add, hcell j hj26]
    unfold sigV at hj
    rw [List.getElem?_map, List.getElem?_eq_getElem hj26] at hj
    exact hj
end Go.Proofs.YtpjmapoiinjakaaGreatDoor.L
end
section
namespace Go.Proofs.YtpjmapoiinjakaaGreatDoor.L
open Go.RowKit
set_option linter.unusedVariables false
/-- An append whose run is known, guarded or not. -/
theorem wpList_append_run {P : Program} {ops : Array Oper} {rest : List Oper} {o : Oper} {a : Act} {w : World} {Q : Exit → Act → World → Prop} (s x : Operand) (t : TypeId) (hw : Region.wanted o (yielded ops a.tmps) = true)
    (ho : o.op = .call { callee := .builtin .append, args := #[s, x], argTypes := #[t, t] }) (v y v' : Value) (w' : World) (hs : a.eval s = v) (hx : a.eval x = y) (hr : (Builtin.append_ #[t, t] o.type #[v, y]).run P w = .ok v' w')
    (h : wpList P ops Q rest (a.put o.dst v') w') : wpList P ops Q (o :: rest) a w := by
  refine wpList_step fun K hK => ?_
  rw [if_pos hw]
  unfold Oper.wp execOp
  simp only [ho, resolve, invoke, builtin, Sem.run_bind, Sem.run_pure, Result.andThen_ok, List.map_toArray, List.map_cons, List.map_nil, hs, hx, hr]
  exact hK _ _ h
theorem info5 : (Tryz.prog.info? 5).map (fun i => (i.zero, i.size, i.bytes)) = some (some (.int .u8 0), 1, 1) := by kernel_rfl
theorem info_of {P : Program} {t : TypeId} {z : Value} {n m : Nat} (h : (P.info? t).map (fun i => (i.zero, i.size, i.bytes)) = some (some z, n, m)) : ∃ i, P.info? t = some i ∧ i.zero = some z ∧ i.size = n ∧ i.bytes = m := by
  obtain ⟨i, hi, e⟩ := Option.map_eq_some_iff.1 h
  simp only [Prod.mk.injEq] at e
  exact ⟨i, hi, e.1, e.2.1, e.2.2⟩
/-- One byte behind a row of bytes of one's own, as a run of the append; what is not the row's block stays. -/
theorem byte_more {B : Nat} {w : World} {v : Value} {bs : List Value} (h : w.ownsRow B 5 1 v bs.length bs) (hB : B ≤ w.heap.size) (hl : bs.length + 1 ≤ 140737488355328) (c : Int) (ty : TypeId) :
    ∃ v' w3, (Builtin.append_ #[22, 22] ty #[v, .slice (some ⟨w.heap.size, 0, none⟩) 1 1]).run Tryz.prog (w.alloc (.cells #[.int .u8 c] 5)) = .ok v' w3 ∧
      w3.ownsRow B 5 1 v' (bs ++ [Value.int .u8 c]).length (bs ++ [Value.int .u8 c]) ∧ (w.alloc (.cells #[.int .u8 c] 5)).grownBy w3 v.ownBlock ∧ Below B w w3 := by
  obtain ⟨i0, hi, hz0, hz1, hz2⟩ := info_of info5
  have hb : Below w.heap.size w (w.alloc (.cells #[.int .u8 c] 5)) := (Below.refl _ _).alloc (Nat.le_refl _) _
  have hown : ∀ k, v.ownBlock = some k → B ≤ k ∧ k < w.heap.size := fun k hk => by
    rcases h.2 with ⟨e, _⟩ | ⟨g, cap, cur, e, e1, e2, _⟩
    · rw [e] at hk; simp [Value.ownBlock] at hk
    · rw [e] at hk; simp [Value.ownBlock] at hk; subst hk
      refine ⟨e1, Nat.lt_of_not_le fun hg => ?_⟩
      rw [Array.getElem?_eq_none hg] at e2; cases e2
  have h2 : (w.alloc (.cells #[.int .u8 c] 5)).ownsRow B 5 1 v bs.length bs := by
    rcases h.2 with ⟨e, e0⟩ | ⟨g, cap, cur, e, e1, e2, e3⟩
    · exact ⟨h.1, .inl ⟨e, e0⟩⟩
    · refine ⟨h.1, .inr ⟨g, cap, cur, e, e1, ?_, e3⟩⟩
      rw [hb.block g (hown g (by rw [e]; rfl)).2]; exact e2
  obtain ⟨v', w3, hr, ho, hg, _⟩ := run_append_own (P := Tryz.prog) (w.alloc (.cells #[.int .u8 c] 5)) B 22 ty 5 i0 (.int .u8 0) 1 1 Tryz.underlying22 hi hz0 hz1 hz2 rfl (by decide) v bs.length bs h2 ⟨w.heap.size, 0, none⟩ 1 1 [.int .u8 c] rfl (by
      intro j u hj
      match j, hj with
      | 0, hj => simp at hj; subst hj; simp [Addr.add]) (by intro u hu; simp at hu; subst hu; rfl) (by unfold maxLen; omega) (by omega) (by simp; omega)
  exact ⟨v', w3, hr, by simpa using ho, hg, (hb.mono hB).trans ((Below.refl _ _).grown hg (by simp; omega) fun k hk => (hown k hk).1)⟩
set_option maxRecDepth 100000 in
set_option maxHeartbeats 1000000 in
theorem wbyte_any (B b : Nat) (bs : List Value) (c : Int) (w : World) (h : Lib.IsBuilder 89 5 B b bs w) (hlen : bs.length + 1 ≤ 140737488355328) (hBw : B ≤ w.heap.size) :
    Calls Tryz.prog 75 #[.pointer (some ⟨b, 0, none⟩), .int .u8 c] w fun e w' => e = .returned .nilIface ∧ (Lib.BuilderAt 89 5 B b (.pointer (some ⟨b, 0, none⟩)) (bs ++ [.int .u8 c]) w' ∧ Below B w w') := by
  have HC : Hid (_) := check_any B b bs w h
  clear h
  go_enter Tryz.func75, Tryz.ntmps75
  go_wp2_with fail
  refine Calls.mono HC.out ?_
  rintro e w1 ⟨rfl, ⟨hBb, v, hb, hown, hne⟩, hb1⟩
  clear HC
  have hs1 : B ≤ w1.heap.size := Nat.le_trans hBw hb1.size
  have hbl : b < w1.heap.size := Nat.lt_of_not_le fun hg => by rw [Array.getElem?_eq_none hg] at hb; cases hb
  have q1 : w1.cell? ⟨b, 1, none⟩ = some v := by simp [World.cell?, hb]
  obtain ⟨v', w3, hr, ho, hg, hb3⟩ := byte_more hown hs1 hlen c 22
  obtain ⟨a, n', cap, rfl⟩ : ∃ a n' cap, v' = .slice a n' cap := by
    rcases ho.2 with ⟨e, _⟩ | ⟨g, cap, cur, e, _⟩
    · exact ⟨_, _, _, e⟩
    · exact ⟨_, _, _, e⟩
  have hb2 : w3.heap[b]? = some (.cells #[.pointer (some ⟨b, 0, none⟩), v] 89 (0, 0)) := by
    have := hg.block b (by simp; omega) (fun e => hne e.symm)
    rw [this, ((Below.refl w1.heap.size w1).alloc (Nat.le_refl _) _).block b hbl]; exact hb
  have f1 : w3.frozen? ⟨b, 1, none⟩ = false := by simp [World.frozen?, hb2]
  have q2 : w3.cell? ⟨b, 1, none⟩ = some v := by simp [World.cell?, hb2]
  have HO : Hid (_) := Lib.BuilderAt.put (T := 89) (e := 5) (p := .pointer (some ⟨b, 0, none⟩)) hBb hb2 ho (by decide)
  have HBB : Hid (Below B w w3) := hb1.trans hb3
  clear hown hne hg ho hb hb2 hb3 hb1
  have HR : Hid (_) := hr
  clear hr
  go_wp2_with (at_builtin; refine wpList_append_run _ _ 22 rfl rfl _ _ _ _ rfl rfl HR.out ?_)
  go_ret
  exact ⟨rfl, HO.out, HBB.out.setCell (p := ⟨b, 1, none⟩) hBb _⟩
end Go.Proofs.YtpjmapoiinjakaaGreatDoor.L
end
