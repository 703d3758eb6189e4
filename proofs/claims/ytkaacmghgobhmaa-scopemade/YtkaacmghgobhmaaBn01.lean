/- Texts: LKit LRSmall LRBlanks. -/
import Derived.Test.YtkaacmghgobhmaaBn00
import Derived.Test.YtkaacmghgobhmaaRows
import Derived.WalkSpells
import Derived.WalkLawsBesides
import Derived.Lib.Bytealg
import Derived.Deep.DeepCutAuto
import Derived.Deep.CutBlock
import Derived.Laws.ResultCell
import Derived.WalkSmall
import Derived.Deep.QuietTactic
import Derived.BigQuiet
import Derived.BigRegion
section
namespace Go.Proofs.Ytkaacmghgobhmaa.L
open Go.RowKit
set_option linter.unusedVariables false
set_option linter.unusedVariables false
theorem ret_int {k : IntKind} {a b : Int} (h : a = b) : Ending.returned (.int k a) = .returned (.int k b) := by rw [h]
theorem ret_bool {a b : Bool} (h : a = b) : Ending.returned (.bool a) = .returned (.bool b) := by rw [h]
def intOf : Value → Int | .int _ q => q | _ => 0
theorem size_list (s : ByteArray) : s.data.toList.length = s.size := Array.length_toList
theorem at_list (s : ByteArray) (i : Nat) (h : i < s.size) : s.data.toList[i]'(by rw [size_list]; exact h) = s[i] := rfl
theorem extract_eq (s : ByteArray) (q m : Nat) : s.extract q (q + m) = ⟨((s.data.toList.drop q).take m).toArray⟩ := by
  apply ByteArray.ext
  apply Array.ext'
  rw [ByteArray.data_extract, Array.toList_extract]
  simp [List.take_drop]
set_option linter.unusedVariables false
theorem mk_list (s : ByteArray) : (⟨s.data.toList.toArray⟩ : ByteArray) = s := by
  obtain ⟨⟨l⟩⟩ := s
  rfl
theorem empty_of {s : ByteArray} (h : s.size = 0) : s = ⟨#[]⟩ := by
  obtain ⟨⟨l⟩⟩ := s
  have : l.length = 0 := h
  rw [List.length_eq_zero_iff.1 this]
end Go.Proofs.Ytkaacmghgobhmaa.L
namespace Go.Proofs.Ytkaacmghgobhmaa.Lx
set_option linter.unusedVariables false
def ne10 (c : UInt8) : Bool := decide (c.toNat ≠ 10)
theorem idx_hd : ∀ l : List UInt8, Lib.indexByte l 10 = if hd ne10 l < l.length then (hd ne10 l : Int) else -1
  | [] => rfl
  | c :: l => by
    have ih := idx_hd l
    have hl := hd_le ne10 l
    by_cases h : c = 10
    · subst h
      simp [Lib.indexByte, hd, ne10]
    · have h10 : ne10 c = true := by
        unfold ne10
        have : c.toNat ≠ 10 := fun e => h (UInt8.toNat_inj.1 e)
        simpa using this
      have e1 : hd ne10 (c :: l) = hd ne10 l + 1 := by rw [hd, if_pos h10]
      have e2 : (c == 10) = false := by simpa using h
      have e3 : Lib.indexByte (c :: l) 10 = if Lib.indexByte l 10 == -1 then -1 else Lib.indexByte l 10 + 1 := by rw [Lib.indexByte, e2]; rfl
      rw [e1, e3, ih]
      by_cases h2 : hd ne10 l < l.length
      · have h3 : ((hd ne10 l : Int) == -1) = false := by rw [beq_eq_false_iff_ne]; omega
        have h4 : hd ne10 l + 1 < (c :: l).length := by rw [List.length_cons]; omega
        rw [if_pos h2, if_pos h4, h3]
        simp
      · have h4 : ¬ hd ne10 l + 1 < (c :: l).length := by rw [List.length_cons]; omega
        rw [if_neg h2, if_neg h4]
        rfl
/-- Within a comment: as many bytes as are no line's end, then blanks. -/
theorem blk_true : ∀ l : List UInt8, blk true l = (hd ne10 l + (blk false (l.drop (hd ne10 l))).1, (blk false (l.drop (hd ne10 l))).2)
  | [] => rfl
  | c :: l => by
    have ih := blk_true l
    by_cases h : c.toNat = 10
    · have e1 : hd ne10 (c :: l) = 0 := by rw [hd, if_neg (by unfold ne10; simpa using h)]
      rw [e1]
      simp only [List.drop_zero, blk, h, if_true, Nat.zero_add]
    · have e1 : hd ne10 (c :: l) = hd ne10 l + 1 := by rw [hd, if_pos (by unfold ne10; simpa using h)]
      rw [e1, List.drop_succ_cons, blk, if_neg h, ih]
      simp only [Prod.mk.injEq, and_true]
      omega
theorem blk_line (c : UInt8) (l : List UInt8) (h : c.toNat = 10) : blk false (c :: l) = ((blk false l).1 + 1, true) := by rw [blk, if_pos h]
theorem blk_blank (c : UInt8) (l : List UInt8) (h : blank c = true) (h10 : c.toNat ≠ 10) : blk false (c :: l) = ((blk false l).1 + 1, (blk false l).2) := by
  unfold blank at h
  rw [blk, if_neg h10, if_pos (by simp at h; omega)]
theorem pre2 (c : UInt8) (l : List UInt8) : isPre [47, 47] (c :: l) = true ↔ c.toNat = 47 ∧ (l.head?.map (·.toNat)) = some 47 := by
  cases l with
  | nil => simp [isPre]
  | cons d l =>
    simp only [isPre, List.length_cons, List.length_nil, Bool.and_eq_true, decide_eq_true_eq, List.head?_cons, Option.map_some, Option.some.injEq]
    constructor
    · rintro ⟨_, h⟩
      simp at h
      obtain ⟨rfl, rfl⟩ := h
      exact ⟨rfl, rfl⟩
    · rintro ⟨h1, h2⟩
      have e1 : c = 47 := UInt8.toNat_inj.1 h1
      have e2 : d = 47 := UInt8.toNat_inj.1 h2
      subst e1; subst e2
      simp
theorem blk_note (c : UInt8) (l : List UInt8) (_hb : blank c = false) (h : isPre [47, 47] (c :: l) = true) : blk false (c :: l) = (hd ne10 (c :: l) + (blk false ((c :: l).drop (hd ne10 (c :: l)))).1, (blk false ((c :: l).drop (hd ne10 (c :: l)))).2) := by
  obtain ⟨h1, h2⟩ := (pre2 c l).1 h
  have e1 : hd ne10 (c :: l) = hd ne10 l + 1 := by rw [hd, if_pos (by unfold ne10; simp [h1])]
  rw [e1, List.drop_succ_cons, blk, if_neg (by omega), if_neg (by omega), if_pos ⟨h1, h2⟩, blk_true]
  simp only [Prod.mk.injEq, and_true]
  omega
theorem blk_none (c : UInt8) (l : List UInt8) (hb : blank c = false) (h : isPre [47, 47] (c :: l) = false) : blk false (c :: l) = (0, false) := by
  unfold blank at hb
  simp at hb
  rw [blk, if_neg (by omega), if_neg (by omega), if_neg (fun h' => by rw [(pre2 c l).2 h'] at h; cases h)]
end Go.Proofs.Ytkaacmghgobhmaa.Lx
namespace Go.Proofs.Ytkaacmghgobhmaa.L
open Go.RowKit
set_option linter.unusedVariables false
theorem drop_at (s : ByteArray) (k : Nat) (h : k < s.size) : s.data.toList.drop k = s[k] :: s.data.toList.drop (k + 1) := by
  rw [List.drop_eq_getElem_cons (by rw [size_list]; exact h)]; rfl
theorem tail_list (s : ByteArray) (k : Nat) : (s.extract k s.size).data.toList = s.data.toList.drop k := by
  rw [ByteArray.data_extract, Array.toList_extract]
  have := size_list s
  exact List.take_of_length_le (by rw [List.length_drop, this]; exact Nat.le_refl _)
theorem ret2 {k : IntKind} {a b : Int} {x y : Bool} (h : a = b) (h2 : x = y) : Ending.returned (.tuple #[.int k a, .bool x]) = .returned (.tuple #[.int k b, .bool y]) := by rw [h, h2]
set_option linter.unusedVariables false
theorem take_snoc (s : ByteArray) (k : Nat) (h : k < s.size) : s.data.toList.take (k + 1) = s.data.toList.take k ++ [s[k]] := by
  rw [List.take_succ_eq_append_getElem (by rw [size_list]; exact h)]; rfl
def valV (l : List UInt8) : Value := if Lx.valB l then .tuple #[.int .i64 (Lx.val l : Int), .bool true] else .tuple #[.int .i64 0, .bool false]
theorem valB_nil : Lx.valB [] = false := rfl
set_option linter.unusedVariables false
theorem alloc_size (w : World) (o : Obj) : (w.alloc o).heap.size = w.heap.size + 1 := Array.size_push _
theorem below_chain {a b c : World} (h : Below a.heap.size a b) (k : Below b.heap.size b c) : Below a.heap.size a c := h.trans (k.mono h.size)
/-- Cells that were laid, looked at later. -/
theorem cells5 {w w1 : World} {b : Nat} {x0 x1 x2 x3 x4 : Value} {t : TypeId} (hb : b = w.heap.size) (hB : Below (b + 1) (w.alloc (.cells #[x0, x1, x2, x3, x4] t)) w1) :
    w1.cell? ⟨b, 0, none⟩ = some x0 ∧ w1.cell? ⟨b, 1, none⟩ = some x1 ∧ w1.cell? ⟨b, 2, none⟩ = some x2 ∧ w1.cell? ⟨b, 3, none⟩ = some x3 ∧ w1.cell? ⟨b, 4, none⟩ = some x4 ∧ w1.frozen? ⟨b, 0, none⟩ = false ∧ w1.frozen? ⟨b, 1, none⟩ = false ∧ w1.frozen? ⟨b, 2, none⟩ = false ∧ w1.frozen? ⟨b, 3, none⟩ = false ∧ w1.frozen? ⟨b, 4, none⟩ = false := by
  subst hb
  refine ⟨?_, ?_, ?_, ?_, ?_, ?_, ?_, ?_, ?_, ?_⟩
  · rw [hB.cell (Nat.lt_succ_self _)]; simp
  · rw [hB.cell (Nat.lt_succ_self _)]; simp
  · rw [hB.cell (Nat.lt_succ_self _)]; simp
  · rw [hB.cell (Nat.lt_succ_self _)]; simp
  · rw [hB.cell (Nat.lt_succ_self _)]; simp
  · rw [hB.frozen (Nat.lt_succ_self _)]; simp
  · rw [hB.frozen (Nat.lt_succ_self _)]; simp
  · rw [hB.frozen (Nat.lt_succ_self _)]; simp
  · rw [hB.frozen (Nat.lt_succ_self _)]; simp
  · rw [hB.frozen (Nat.lt_succ_self _)]; simp
/-- Cells that were laid, looked at later. -/
theorem cells6 {w w1 : World} {b : Nat} {x0 x1 x2 x3 x4 x5 : Value} {t : TypeId} (hb : b = w.heap.size) (hB : Below (b + 1) (w.alloc (.cells #[x0, x1, x2, x3, x4, x5] t)) w1) :
    w1.cell? ⟨b, 0, none⟩ = some x0 ∧ w1.cell? ⟨b, 1, none⟩ = some x1 ∧ w1.cell? ⟨b, 2, none⟩ = some x2 ∧ w1.cell? ⟨b, 3, none⟩ = some x3 ∧ w1.cell? ⟨b, 4, none⟩ = some x4 ∧ w1.cell? ⟨b, 5, none⟩ = some x5 ∧ w1.frozen? ⟨b, 0, none⟩ = false ∧ w1.frozen? ⟨b, 1, none⟩ = false ∧ w1.frozen? ⟨b, 2, none⟩ = false ∧ w1.frozen? ⟨b, 3, none⟩ = false ∧ w1.frozen? ⟨b, 4, none⟩ = false ∧ w1.frozen? ⟨b, 5, none⟩ = false := by
  subst hb
  refine ⟨?_, ?_, ?_, ?_, ?_, ?_, ?_, ?_, ?_, ?_, ?_, ?_⟩
  · rw [hB.cell (Nat.lt_succ_self _)]; simp
  · rw [hB.cell (Nat.lt_succ_self _)]; simp
  · rw [hB.cell (Nat.lt_succ_self _)]; simp
  · rw [hB.cell (Nat.lt_succ_self _)]; simp
  · rw [hB.cell (Nat.lt_succ_self _)]; simp
  · rw [hB.cell (Nat.lt_succ_self _)]; simp
  · rw [hB.frozen (Nat.lt_succ_self _)]; simp
  · rw [hB.frozen (Nat.lt_succ_self _)]; simp
  · rw [hB.frozen (Nat.lt_succ_self _)]; simp
  · rw [hB.frozen (Nat.lt_succ_self _)]; simp
  · rw [hB.frozen (Nat.lt_succ_self _)]; simp
  · rw [hB.frozen (Nat.lt_succ_self _)]; simp
def pcV (k : Int) (t : ByteArray) (n z : Int) : Value := .agg #[.int .i64 k, .string t, .int .i64 n, .int .i64 0, .bool false, .int .i64 z]
/-- What a kind makes of a text: a piece, or none. -/
def Told (r : Option Lx.Pc) (e : Ending) : Prop := ∃ (k n z : Nat) (t : List UInt8) (ok : Bool), e = .returned (.tuple #[.agg #[.int .i64 (k : Int), .string ⟨t.toArray⟩, .int .i64 (n : Int), .int .i64 0, .bool false, .int .i64 (z : Int)], .bool ok]) ∧ r = if ok then some ⟨k, t, n, z⟩ else none
theorem take_size (s : ByteArray) (m : Nat) (h : m ≤ s.size) : (⟨(s.data.toList.take m).toArray⟩ : ByteArray).size = m := by
  show (s.data.toList.take m).length = m
  rw [List.length_take, size_list]; omega
set_option linter.unusedVariables false
def sigV : List Value := Lx.signs.map fun s => .string ⟨s.toArray⟩
theorem sig_small : ∀ s ∈ Lx.signs, s.length ≤ 3 := by decide
theorem longer_small (l a s : List UInt8) (ha : a.length ≤ 3) (hs : s.length ≤ 3) : (Lx.longer l a s).length ≤ 3 := by
  unfold Lx.longer; split <;> assumption
theorem take_next {α : Type} (L : List α) (k : Nat) (h : k < L.length) : L.take (k + 1) = L.take k ++ [L[k]] := by
  rw [List.take_add_one, List.getElem?_eq_getElem h]; rfl
def upTo (l : List UInt8) (k : Nat) : List UInt8 := (Lx.signs.take k).foldl (Lx.longer l) []
theorem upTo_next (l : List UInt8) (k : Nat) (h : k < 26) : upTo l (k + 1) = Lx.longer l (upTo l k) (Lx.signs[k]'h) := by
  unfold upTo
  rw [take_next _ _ h, List.foldl_append]; rfl
theorem upTo_all (l : List UInt8) : Lx.pSgn l = if upTo l 26 = [] then none else some ⟨5, upTo l 26, 0, (upTo l 26).length⟩ := rfl
set_option linter.unusedVariables false
/-- An append whose run is known, guarded or not. -/
theorem wpList_append_run {P : Program} {ops : Array Oper} {rest : List Oper} {o : Oper} {a : Act} {w : World} {Q : Exit → Act → World → Prop} (s x : Operand) (t : TypeId) (hw : Region.wanted o (yielded ops a.tmps) = true)
    (ho : o.op = .call { callee := .builtin .append, args := #[s, x], argTypes := #[t, t] }) (v y v' : Value) (w' : World) (hs : a.eval s = v) (hx : a.eval x = y) (hr : (Builtin.append_ #[t, t] o.type #[v, y]).run P w = .ok v' w')
    (h : wpList P ops Q rest (a.put o.dst v') w') : wpList P ops Q (o :: rest) a w := by
  refine wpList_step fun K hK => ?_
  rw [if_pos hw]
  unfold Oper.wp execOp
  simp only [ho, resolve, invoke, builtin, Sem.run_bind, Sem.run_pure, Result.andThen_ok, List.map_toArray, List.map_cons, List.map_nil, hs, hx, hr]
  exact hK _ _ h
theorem info5 : (Try.prog.info? 5).map (fun i => (i.zero, i.size, i.bytes)) = some (some (.int .u8 0), 1, 1) := by kernel_rfl
theorem info_of {P : Program} {t : TypeId} {z : Value} {n m : Nat} (h : (P.info? t).map (fun i => (i.zero, i.size, i.bytes)) = some (some z, n, m)) : ∃ i, P.info? t = some i ∧ i.zero = some z ∧ i.size = n ∧ i.bytes = m := by
  obtain ⟨i, hi, e⟩ := Option.map_eq_some_iff.1 h
  simp only [Prod.mk.injEq] at e
  exact ⟨i, hi, e.1, e.2.1, e.2.2⟩
/-- One byte behind a row of bytes of one's own, as a run of the append; what is not the row's block stays. -/
theorem byte_more {B : Nat} {w : World} {v : Value} {bs : List Value} (h : w.ownsRow B 5 1 v bs.length bs) (hB : B ≤ w.heap.size) (hl : bs.length + 1 ≤ 140737488355328) (c : Int) (ty : TypeId) :
    ∃ v' w3, (Builtin.append_ #[24, 24] ty #[v, .slice (some ⟨w.heap.size, 0, none⟩) 1 1]).run Try.prog (w.alloc (.cells #[.int .u8 c] 5)) = .ok v' w3 ∧
      w3.ownsRow B 5 1 v' (bs ++ [Value.int .u8 c]).length (bs ++ [Value.int .u8 c]) ∧ (w.alloc (.cells #[.int .u8 c] 5)).grownBy w3 v.ownBlock ∧ Below B w w3 := by
  obtain ⟨i0, hi, hz0, hz1, hz2⟩ := info_of info5
  have hb : Below w.heap.size w (w.alloc (.cells #[.int .u8 c] 5)) := (Below.refl _ _).alloc (Nat.le_refl _) _
  have hown : ∀ k, v.ownBlock = some k → B ≤ k ∧ k < w.heap.size := fun k hk => by
    rcases h.2 with ⟨e, _⟩ | ⟨g, cap, cur, e, e1, e2, _⟩
    · rw [e] at hk; simp [Value.ownBlock] at hk
    · rw [e] at hk; simp [Value.ownBlock] at hk; subst hk
      refine ⟨e1, Nat.lt_of_not_le fun hg => ?_⟩
      rw [Array.getElem?_eq_none hg] at e2; cases e2
  have h2 : (w.alloc (.cells #[.int .u8 c] 5)).ownsRow B 5 1 v bs.length bs := by
    rcases h.2 with ⟨e, e0⟩ | ⟨g, cap, cur, e, e1, e2, e3⟩
    · exact ⟨h.1, .inl ⟨e, e0⟩⟩
    · refine ⟨h.1, .inr ⟨g, cap, cur, e, e1, ?_, e3⟩⟩
      rw [hb.block g (hown g (by rw [e]; rfl)).2]; exact e2
  obtain ⟨v', w3, hr, ho, hg, _⟩ := run_append_own (P := Try.prog) (w.alloc (.cells #[.int .u8 c] 5)) B 24 ty 5 i0 (.int .u8 0) 1 1 Try.underlying24 hi hz0 hz1 hz2 rfl (by decide) v bs.length bs h2 ⟨w.heap.size, 0, none⟩ 1 1 [.int .u8 c] rfl (by
      intro j u hj
      match j, hj with
      | 0, hj => simp at hj; subst hj; simp [Addr.add]) (by intro u hu; simp at hu; subst hu; rfl) (by unfold maxLen; omega) (by omega) (by simp; omega)
  exact ⟨v', w3, hr, by simpa using ho, hg, (hb.mono hB).trans ((Below.refl _ _).grown hg (by simp; omega) fun k hk => (hown k hk).1)⟩
end Go.Proofs.Ytkaacmghgobhmaa.L
namespace Go.Proofs.Ytkaacmghgobhmaa.Lx
set_option linter.unusedVariables false
/-- The byte that the head of a text says, and how many bytes say it. -/
def said (l : List UInt8) : Option (UInt8 × Nat) := match l with
  | [] => none
  | [c] => if c.toNat = 92 then none else if 32 ≤ c.toNat ∧ c.toNat ≤ 126 then some (c, 1) else none
  | c :: d :: _ => if c.toNat = 92 then (if d.toNat = 34 ∨ d.toNat = 92 then some (d, 2) else if d.toNat = 110 then some (10, 2) else none) else if 32 ≤ c.toNat ∧ c.toNat ≤ 126 then some (c, 1) else none
theorem quo_said (c : UInt8) (l : List UInt8) (h : c.toNat ≠ 34) : quo (c :: l) = match said (c :: l) with
    | none => none
    | some (b, z) => (quo ((c :: l).drop z)).map fun r => (b :: r.1, r.2 + z) := by
  cases l with
  | nil =>
    rw [quo, if_neg h]
    unfold said
    by_cases h1 : c.toNat = 92
    · simp [h1]
    · by_cases h2 : 32 ≤ c.toNat ∧ c.toNat ≤ 126
      · simp [h1, h2, quo]
      · simp [h1, h2]
  | cons d l =>
    rw [quo, if_neg h]
    unfold said
    by_cases h1 : c.toNat = 92
    · by_cases h2 : d.toNat = 34 ∨ d.toNat = 92
      · simp [h1, h2]
      · by_cases h3 : d.toNat = 110
        · simp [h1, h3]
        · simp [h1, h2, h3]
    · by_cases h2 : 32 ≤ c.toNat ∧ c.toNat ≤ 126
      · simp [h1, h2]
      · simp [h1, h2]
theorem said_le (l : List UInt8) (b : UInt8) (z : Nat) (h : said l = some (b, z)) : 0 < z ∧ z ≤ l.length := by
  unfold said at h
  split at h
  · cases h
  · split at h
    · cases h
    · split at h
      · simp at h; simp; omega
      · cases h
  · split at h
    · split at h
      · simp at h; simp; omega
      · split at h
        · simp at h; simp; omega
        · cases h
    · split at h
      · simp at h; simp; omega
      · cases h
end Go.Proofs.Ytkaacmghgobhmaa.Lx
namespace Go.Proofs.Ytkaacmghgobhmaa.L
open Go.RowKit
set_option linter.unusedVariables false
set_option linter.unusedVariables false
def saidV (r : Option (UInt8 × Nat)) (e : Ending) : Prop := match r with
  | some (c, z) => e = .returned (.tuple #[.int .u8 (c.toNat : Int), .int .i64 (z : Int), .bool true])
  | none => ∃ (c : Nat) (z : Nat), e = .returned (.tuple #[.int .u8 (c : Int), .int .i64 (z : Int), .bool false])
def zeroP : Value := .agg #[.int .i64 0, .string ⟨#[]⟩, .int .i64 0, .int .i64 0, .bool false, .int .i64 0]
theorem byteCells_snoc (l : List UInt8) (c : UInt8) : Lib.byteCells l ++ [.int .u8 (c.toNat : Int)] = Lib.byteCells (l ++ [c]) := by simp [Lib.byteCells]
theorem heap_drewN (w : World) : ∀ n, (w.drewN n).heap = w.heap
  | 0 => rfl
  | n + 1 => heap_drewN w n
theorem below_drewN (B : Nat) (w : World) (n : Nat) : Below B w (w.drewN n) := by
  induction n with
  | zero => exact Below.refl _ _
  | succ n ih => exact ih.drew
theorem isB_drewN {T e : TypeId} {B b : Nat} {bs : List Value} {w : World} (h : Lib.IsBuilder T e B b bs w) : ∀ n, Lib.IsBuilder T e B b bs (w.drewN n)
  | 0 => h
  | n + 1 => by
    have ih := isB_drewN h n
    rcases ih with ih | ih
    · exact .inl ih.drew
    · exact .inr ih.drew
set_option linter.unusedVariables false
/-- What is still to be asked, from a kind on. -/
def rem (l : List UInt8) : Nat → Option Lx.Pc
  | 0 => Lx.piece l
  | 1 => (Lx.pNum l).or ((Lx.pTxt l).or ((Lx.pNam l).or (Lx.pSgn l)))
  | 2 => (Lx.pTxt l).or ((Lx.pNam l).or (Lx.pSgn l))
  | 3 => (Lx.pNam l).or (Lx.pSgn l)
  | 4 => Lx.pSgn l
  | _ => none
/-- What is told: the piece, or the zero one. -/
def pcOf : Option Lx.Pc → Lx.Pc
  | some p => p
  | none => ⟨0, [], 0, 0⟩
def ToldZ (r : Option Lx.Pc) (e : Ending) : Prop := e = .returned (.tuple #[.agg #[.int .i64 ((pcOf r).k : Int), .string ⟨(pcOf r).t.toArray⟩, .int .i64 ((pcOf r).n : Int), .int .i64 0, .bool false, .int .i64 ((pcOf r).z : Int)], .bool r.isSome])
set_option linter.unusedVariables false
/-- A token's five cells. -/
abbrev tkA (t : Lx.Tk) : Array Value := #[.int .i64 (t.k : Int), .string ⟨t.t.toArray⟩, .int .i64 (t.n : Int), .int .i64 (t.a : Int), .bool t.ln]
/-- The place that a number says. -/
def plc (a : Int) (n : Nat) : Nat := min a.toNat n
set_option linter.unusedVariables false
def tkCells (L : List Lx.Tk) : List Value := L.flatMap fun t => (tkA t).toList
theorem tkCells_snoc (L : List Lx.Tk) (t : Lx.Tk) : tkCells L ++ (tkA t).toList = tkCells (L ++ [t]) := by simp [tkCells]
theorem infoTK : (Try.prog.info? 54).map (fun i => (i.zero, i.size, i.bytes)) = some (some (.agg #[.int .i64 0, .string ⟨#[]⟩, .int .i64 0, .int .i64 0, .bool false]), 5, 48) := by kernel_rfl
theorem own_block {w : World} {B : Nat} {e : TypeId} {z : Nat} {v : Value} {n : Nat} {xs : List Value} (h : w.ownsRow B e z v n xs) : ∀ k, v.ownBlock = some k → B ≤ k ∧ k < w.heap.size := fun k hk => by
  rcases h.2 with ⟨e, _⟩ | ⟨g, cap, cur, e, e1, e2, _⟩
  · rw [e] at hk; simp [Value.ownBlock] at hk
  · rw [e] at hk; simp [Value.ownBlock] at hk; subst hk
    refine ⟨e1, Nat.lt_of_not_le fun hg => ?_⟩
    rw [Array.getElem?_eq_none hg] at e2; cases e2
theorem own_below {w w' : World} {B : Nat} {e : TypeId} {z : Nat} {v : Value} {n : Nat} {xs : List Value} (h : w.ownsRow B e z v n xs) (hb : Below w.heap.size w w') : w'.ownsRow B e z v n xs := by
  have hl := own_block h
  rcases h.2 with ⟨e, e0⟩ | ⟨g, cap, cur, e, e1, e2, e3⟩
  · exact ⟨h.1, .inl ⟨e, e0⟩⟩
  · refine ⟨h.1, .inr ⟨g, cap, cur, e, e1, ?_, e3⟩⟩
    rw [hb.block g (hl g (by rw [e]; rfl)).2]; exact e2
/-- A store below the row's memory leaves the row. -/
theorem own_set {w : World} {B : Nat} {e : TypeId} {z : Nat} {v : Value} {n : Nat} {xs : List Value} (h : w.ownsRow B e z v n xs) {X i : Nat} (hX : X < B) (u : Value) : (w.setCell ⟨X, i, none⟩ u).ownsRow B e z v n xs := by
  rcases h.2 with ⟨e, e0⟩ | ⟨g, cap, cur, e, e1, e2, e3⟩
  · exact ⟨h.1, .inl ⟨e, e0⟩⟩
  · refine ⟨h.1, .inr ⟨g, cap, cur, e, e1, ?_, e3⟩⟩
    rw [Below.heap_setCell _ _ _ _ (by show g ≠ X; omega)]; exact e2
/-- A token's five cells, from an address on. -/
def TokAt (w : World) (b off : Nat) (t : Lx.Tk) : Prop :=
  w.cell? ⟨b, off, none⟩ = some (.int .i64 (t.k : Int)) ∧ w.cell? ⟨b, off + 1, none⟩ = some (.string ⟨t.t.toArray⟩) ∧ w.cell? ⟨b, off + 2, none⟩ = some (.int .i64 (t.n : Int)) ∧ w.cell? ⟨b, off + 3, none⟩ = some (.int .i64 (t.a : Int)) ∧ w.cell? ⟨b, off + 4, none⟩ = some (.bool t.ln)
/-- Tokens lie from an address on. -/
def Toks (w : World) (ad : Option Addr) (L : List Lx.Tk) : Prop :=
  L.length = 0 ∨ ∃ b, ad = some ⟨b, 0, none⟩ ∧ b < w.heap.size ∧ ∀ j (h : j < L.length), TokAt w b (j * 5) L[j]
theorem Toks.below {w w' : World} {ad : Option Addr} {L : List Lx.Tk} (h : Toks w ad L) (hb : Below w.heap.size w w') : Toks w' ad L := by
  rcases h with h | ⟨b, h1, h2, h3⟩
  · exact .inl h
  · refine .inr ⟨b, h1, Nat.lt_of_lt_of_le h2 hb.size, fun j hj => ?_⟩
    obtain ⟨c0, c1, c2, c3, c4⟩ := h3 j hj
    exact ⟨(hb.cell h2).trans c0, (hb.cell h2).trans c1, (hb.cell h2).trans c2, (hb.cell h2).trans c3, (hb.cell h2).trans c4⟩
theorem tkCells_at : ∀ (L : List Lx.Tk) (j : Nat) (h : j < L.length) (i : Nat), i < 5 → (tkCells L)[j * 5 + i]? = (tkA L[j])[i]?
  | [], j, h, i, hi => by simp at h
  | t :: L, 0, h, i, hi => by
    rw [show tkCells (t :: L) = (tkA t).toList ++ tkCells L from rfl, List.getElem?_append_left (by simp; omega)]
    simp
  | t :: L, j + 1, h, i, hi => by
    have ih := tkCells_at L j (by simpa using h) i hi
    rw [show tkCells (t :: L) = (tkA t).toList ++ tkCells L from rfl, List.getElem?_append_right (by simp; omega)]
    rw [show (j + 1) * 5 + i - (tkA t).toList.length = j * 5 + i by simp; omega]
    simpa using ih
theorem Toks.own {w : World} {base : Nat} {v : Value} {L : List Lx.Tk} (h : w.ownsRow base 54 5 v L.length (tkCells L)) : ∃ ad cap, v = .slice ad L.length cap ∧ L.length ≤ cap ∧ Toks w ad L := by
  by_cases h0 : L.length = 0
  · obtain ⟨_, h1⟩ := h
    rcases h1 with ⟨rfl, _⟩ | ⟨g, cap, cur, rfl, _, _, h4, _⟩
    · exact ⟨none, 0, by rw [h0], by omega, .inl h0⟩
    · exact ⟨_, cap, rfl, h4, .inl h0⟩
  · have hl := own_block h
    obtain ⟨_, h1⟩ := h
    rcases h1 with ⟨rfl, hn⟩ | ⟨g, cap, cur, rfl, h2, h3, h4, _, _, h5⟩
    · exact absurd hn h0
    · refine ⟨_, cap, rfl, h4, .inr ⟨g, rfl, (hl g rfl).2, fun j hj => ?_⟩⟩
      have hc : ∀ i, i < 5 → w.cell? ⟨g, j * 5 + i, none⟩ = (tkA L[j])[i]? := fun i hi => by
        rw [← tkCells_at L j hj i hi, ← h5, List.getElem?_take, if_pos (by omega)]
        simp [World.cell?, h3]
      exact ⟨hc 0 (by omega), hc 1 (by omega), hc 2 (by omega), hc 3 (by omega), hc 4 (by omega)⟩
def lenOf : Value → Nat
  | .slice _ n _ => n
  | _ => 0
theorem cells5h {w : World} {b : Nat} {x0 x1 x2 x3 x4 : Value} {t : TypeId} (h : w.heap[b]? = some (.cells #[x0, x1, x2, x3, x4] t (0, 0))) :
    w.cell? ⟨b, 0, none⟩ = some x0 ∧ w.cell? ⟨b, 1, none⟩ = some x1 ∧ w.cell? ⟨b, 2, none⟩ = some x2 ∧ w.cell? ⟨b, 3, none⟩ = some x3 ∧ w.cell? ⟨b, 4, none⟩ = some x4 ∧ w.frozen? ⟨b, 0, none⟩ = false ∧ w.frozen? ⟨b, 1, none⟩ = false ∧ w.frozen? ⟨b, 2, none⟩ = false ∧ w.frozen? ⟨b, 3, none⟩ = false ∧ w.frozen? ⟨b, 4, none⟩ = false ∧ b < w.heap.size := by
  refine ⟨?_, ?_, ?_, ?_, ?_, ?_, ?_, ?_, ?_, ?_, Nat.lt_of_not_le fun hg => by rw [Array.getElem?_eq_none hg] at h; cases h⟩ <;> simp [World.cell?, World.frozen?, h]
theorem set5 {w : World} {b : Nat} {x0 x1 x2 x3 x4 y0 y1 y2 y3 y4 : Value} {t : TypeId} (h : w.heap[b]? = some (.cells #[x0, x1, x2, x3, x4] t (0, 0))) :
    (((((w.setCell ⟨b, 0, none⟩ y0).setCell ⟨b, 1, none⟩ y1).setCell ⟨b, 2, none⟩ y2).setCell ⟨b, 3, none⟩ y3).setCell ⟨b, 4, none⟩ y4).heap[b]? = some (.cells #[y0, y1, y2, y3, y4] t (0, 0)) := by
  simp [World.setCell, Array.getElem?_modify, h]
theorem own_set5 {w : World} {B : Nat} {e : TypeId} {z : Nat} {v : Value} {n : Nat} {xs : List Value} (h : w.ownsRow B e z v n xs) {X : Nat} (hX : X < B) (y0 y1 y2 y3 y4 : Value) :
    (((((w.setCell ⟨X, 0, none⟩ y0).setCell ⟨X, 1, none⟩ y1).setCell ⟨X, 2, none⟩ y2).setCell ⟨X, 3, none⟩ y3).setCell ⟨X, 4, none⟩ y4).ownsRow B e z v n xs :=
  own_set (own_set (own_set (own_set (own_set h hX _) hX _) hX _) hX _) hX _
theorem own_mono {w : World} {B B' : Nat} {e : TypeId} {z : Nat} {v : Value} {n : Nat} {xs : List Value} (h : w.ownsRow B e z v n xs) (hB : B' ≤ B) : w.ownsRow B' e z v n xs := by
  rcases h.2 with ⟨e, e0⟩ | ⟨g, cap, cur, e, e1, e2⟩
  · exact ⟨h.1, .inl ⟨e, e0⟩⟩
  · exact ⟨h.1, .inr ⟨g, cap, cur, e, Nat.le_trans hB e1, e2⟩⟩
/-- What stands while All goes: L is written down, the token at p lies at X. -/
structure AllS (w : World) (X : Nat) (F : Nat → List Lx.Tk) (R : List Lx.Tk) (W : World) (v : Value) (L : List Lx.Tk) (p : Nat) (t : Lx.Tk) : Prop where
  own : W.ownsRow (X + 1) 54 5 v L.length (tkCells L)
  at_ : W.heap[X]? = some (.cells (tkA t) 54 (0, 0))
  bel : Below w.heap.size w W
  few : L.length ≤ p
  rest : L ++ F p = R
end Go.Proofs.Ytkaacmghgobhmaa.L
end
section
namespace Go.Proofs.Ytkaacmghgobhmaa.L
open Go.RowKit
set_option linter.unusedVariables false
theorem rdigit_any (c : UInt8) (w : World) : Calls Try.prog 34 #[.int .u8 (c.toNat : Int)] w fun e w' => e = .returned (.bool (Lx.digit c)) ∧ w' = w := by
  have H : Hid (Lx.digit c = (decide (48 ≤ (c.toNat : Int)) && decide ((c.toNat : Int) ≤ 57))) := by
    unfold Lx.digit; congr 1 <;> (apply decide_eq_decide.2; omega)
  generalize (c.toNat : Int) = n at H ⊢
  by_cases h1 : 48 ≤ n
  all_goals
    by_cases h2 : n ≤ 57
    all_goals
      go_enter Try.func34, Try.ntmps34
      go_wp2
      go_ret
      exact ⟨ret_bool (by rw [H.out]; simp [h1, h2]), rfl⟩
theorem rletter_any (c : UInt8) (w : World) : Calls Try.prog 37 #[.int .u8 (c.toNat : Int)] w fun e w' => e = .returned (.bool (Lx.letter c)) ∧ w' = w := by
  have H : Hid (Lx.letter c = ((decide (97 ≤ (c.toNat : Int)) && decide ((c.toNat : Int) ≤ 122)) || (decide (65 ≤ (c.toNat : Int)) && decide ((c.toNat : Int) ≤ 90)) || decide ((c.toNat : Int) = 95) || decide ((c.toNat : Int) = 36))) := by
    unfold Lx.letter; congr 1; congr 1; congr 1; congr 1
    all_goals first | (apply decide_eq_decide.2; omega) | (congr 1 <;> (apply decide_eq_decide.2; omega))
  generalize (c.toNat : Int) = n at H ⊢
  by_cases h5 : n = 95
  · subst h5
    go_enter Try.func37, Try.ntmps37
    go_wp2
    go_ret
    exact ⟨ret_bool (by rw [H.out]; rfl), rfl⟩
  by_cases h6 : n = 36
  · subst h6
    go_enter Try.func37, Try.ntmps37
    go_wp2
    go_ret
    exact ⟨ret_bool (by rw [H.out]; rfl), rfl⟩
  have e5 : (n == 95) = false := by simpa using h5
  have e6 : (n == 36) = false := by simpa using h6
  by_cases h1 : 97 ≤ n
  all_goals
    by_cases h2 : n ≤ 122
    all_goals
      by_cases h3 : 65 ≤ n
      all_goals
        by_cases h4 : n ≤ 90
        all_goals
          first
          | (exfalso; omega)
          | (go_enter Try.func37, Try.ntmps37
             go_wp2
             go_ret
             exact ⟨ret_bool (by rw [H.out]; simp [h1, h2, h3, h4, h5, h6]), rfl⟩)
def strV (L : List (List UInt8)) : Array Value := (L.map fun s => .string ⟨s.toArray⟩).toArray
theorem words_any (w : World) : Calls Try.prog 48 #[] w fun e w' => e = .returned (.slice (some ⟨w.heap.size, 0, none⟩) 19 19) ∧ w' = w.alloc (.cells (strV Lx.words) 9) := by
  go_enter Try.func48, Try.ntmps48
  go_wp2
  go_ret
  exact ⟨rfl, rfl⟩
theorem osigns_any (w : World) : Calls Try.prog 39 #[] w fun e w' => e = .returned (.slice (some ⟨w.heap.size, 0, none⟩) 26 26) ∧ w' = w.alloc (.cells (strV Lx.osigns) 9) := by
  go_enter Try.func39, Try.ntmps39
  go_wp2
  go_ret
  exact ⟨rfl, rfl⟩
theorem strV_cell (L : List (List UInt8)) (w : World) (t : TypeId) (k : Nat) (h : k < L.length) : (w.alloc (.cells (strV L) t)).cell? ⟨w.heap.size, k, none⟩ = some (.string ⟨(L[k]'h).toArray⟩) := by
  have e : (strV L)[k]? = some (.string ⟨(L[k]'h).toArray⟩) := by simp [strV, h]
  have e2 : (w.alloc (.cells (strV L) t)).heap[w.heap.size]? = some (.cells (strV L) t) := by
    show (w.heap.push _)[w.heap.size]? = _
    simp
  unfold World.cell?
  rw [e2]
  exact e
/-- Texts that lie in a row. -/
def Lies (w : World) (b : Nat) (L : List (List UInt8)) : Prop := b < w.heap.size ∧ ∀ k (h : k < L.length), w.cell? ⟨b, k, none⟩ = some (.string ⟨(L[k]'h).toArray⟩)
theorem Lies.below {w w' : World} {b : Nat} {L : List (List UInt8)} (h : Lies w b L) (hb : Below w.heap.size w w') : Lies w' b L :=
  ⟨Nat.lt_of_lt_of_le h.1 hb.size, fun k hk => by rw [hb.cell h.1]; exact h.2 k hk⟩
theorem lies_alloc (L : List (List UInt8)) (w : World) (t : TypeId) : Lies (w.alloc (.cells (strV L) t)) w.heap.size L := ⟨by simp, fun k h => strV_cell L w t k h⟩
theorem bytes_beq (a b : List UInt8) : ((⟨a.toArray⟩ : ByteArray).toList == (⟨b.toArray⟩ : ByteArray).toList) = (a == b) := by
  rw [ByteArray.toList_eq, ByteArray.toList_eq]
set_option maxHeartbeats 400000 in
theorem in_any (b n cap : Nat) (L : List (List UInt8)) (s : ByteArray) (w : World) (hl : Lies w b L) (hn : n = L.length) (h1 : n ≤ 1000) (h2 : n ≤ cap) :
    Calls Try.prog 47 #[.slice (some ⟨b, 0, none⟩) n cap, .string s] w fun e w' => e = .returned (.bool (L.contains s.data.toList)) ∧ w' = w := by
  have HL : Hid (∀ k (h : k < L.length), w.cell? ⟨b, k, none⟩ = some (.string ⟨(L[k]'h).toArray⟩)) := hl.2
  clear hl
  obtain ⟨B, hB⟩ : ∃ B, L.contains s.data.toList = B := ⟨_, rfl⟩
  rw [hB]
  have HB : Hid (_) := hB
  clear hB
  go_enter Try.func47, Try.ntmps47
  go_wp2
  go_loop [5] (fun i => ∃ k : Nat, k ≤ n ∧ i = .int .i64 k ∧ Hid (∀ j (h : j < L.length), j < k → L[j] ≠ s.data.toList)) (fun i => n - (intOf i).toNat)
  case atStart => exact ⟨0, Nat.zero_le _, rfl, fun j h h' => absurd h' (by omega)⟩
  case round =>
    obtain ⟨k, hk, rfl, HA⟩ := hrel
    by_cases hlt : k < n
    · have hlt' : (k : Int) < n := by omega
      have hc := HL.out k (by omega)
      have hb : (L[k]'(by omega) == s.toList) = (L[k]'(by omega) == s.data.toList) := by
        rw [ByteArray.toList_eq]
      by_cases he : L[k]'(by omega) = s.data.toList
      · rw [beq_iff_eq.2 he] at hb
        have HR : Hid (B = true) := HB.out.symm.trans (List.contains_iff_mem.2 (he ▸ List.getElem_mem _))
        clear he HA HL
        generalize L[k]'(by omega) = T at *
        go_wp2
        go_ret
        exact ⟨ret_bool HR.out.symm, rfl⟩
      · rw [beq_eq_false_iff_ne.2 he] at hb
        have HE : Hid (_) := he
        clear he
        generalize hT : L[k]'(by omega) = T at *
        have HT : Hid (_) := hT
        clear hT HL
        go_wp2
        go_round
        case rel => exact ⟨k + 1, by omega, by go_num, fun j h h' => by
          by_cases e : j = k
          · subst e; rw [HT.out]; exact HE.out
          · exact HA.out j h (by omega)⟩
        case measure => simp [intOf]; omega
    · have hlt' : ¬ (k : Int) < n := by omega
      have HR : Hid (B = false) := by
        show _ = _
        rw [← HB.out]
        refine Bool.eq_false_iff.2 fun hm => ?_
        rw [List.contains_iff_mem] at hm
        obtain ⟨j, hj, e⟩ := List.getElem_of_mem hm
        exact HA.out j hj (by omega) e
      go_wp2
      go_ret
      exact ⟨ret_bool HR.out.symm, rfl⟩
theorem rword_any (s : ByteArray) (w : World) : Calls Try.prog 38 #[.string s] w fun e w' => e = .returned (.bool (Lx.isWord s.data.toList)) ∧ Below w.heap.size w w' := by
  have HI : Hid (_) := in_any w.heap.size 19 19 Lx.words s (w.alloc (.cells (strV Lx.words) 9)) (lies_alloc _ _ _) rfl (by omega) (by omega)
  have HW : Hid (_) := words_any w
  show Calls _ _ _ _ fun e w' => e = .returned (.bool (Lx.words.contains s.data.toList)) ∧ _
  generalize Lx.words.contains s.data.toList = B at *
  generalize strV Lx.words = V at *
  go_enter Try.func38, Try.ntmps38
  go_wp2_with (first | (go_at_call 48; refine Calls.mono HW.out ?_; rintro e w' ⟨rfl, rfl⟩) | (go_at_call 47; refine Calls.mono HI.out ?_; rintro e w' ⟨rfl, rfl⟩))
  go_ret
  exact ⟨rfl, (Below.refl _ _).alloc (Nat.le_refl _) _⟩
end Go.Proofs.Ytkaacmghgobhmaa.L
end
section
namespace Go.Proofs.Ytkaacmghgobhmaa.L
open Go.RowKit
set_option linter.unusedVariables false
theorem blkT_end (k : Nat) (s : ByteArray) (h : k = s.size) : Lx.blk true (s.data.toList.drop k) = Lx.blk false (s.data.toList.drop k) := by
  rw [List.drop_of_length_le (by rw [size_list]; omega)]; rfl
theorem blkT_line (c : UInt8) (l : List UInt8) (h : c.toNat = 10) : Lx.blk true (c :: l) = Lx.blk false (c :: l) := by
  rw [Lx.blk, if_pos h, Lx.blk_line _ _ h]
theorem blkT_on (c : UInt8) (l : List UInt8) (h : c.toNat ≠ 10) : Lx.blk true (c :: l) = ((Lx.blk true l).1 + 1, (Lx.blk true l).2) := by
  rw [Lx.blk, if_neg h]
theorem blk_note (c d : UInt8) (l : List UInt8) (h : c.toNat = 47) (h2 : d.toNat = 47) : Lx.blk false (c :: d :: l) = Lx.blk true (c :: d :: l) := by
  rw [blkT_on c _ (by omega)]
  simp [Lx.blk, h, h2]
theorem blk_stop (c : UInt8) (l : List UInt8) (h1 : c.toNat ≠ 10) (h2 : c.toNat ≠ 9) (h3 : c.toNat ≠ 13) (h4 : c.toNat ≠ 32) (h5 : ¬ (c.toNat = 47 ∧ (l.head?.map (·.toNat)) = some 47)) : Lx.blk false (c :: l) = (0, false) := by
  rw [Lx.blk, if_neg h1, if_neg (by omega), if_neg h5]
/-- Where one is, behind what. -/
def BlkS (s : ByteArray) (G1 : Nat) (G2 : Bool) (c : Bool) (k : Nat) (x : Bool) : Prop := k + (Lx.blk c (s.data.toList.drop k)).1 = G1 ∧ (x || (Lx.blk c (s.data.toList.drop k)).2) = G2
set_option maxRecDepth 100000 in
set_option maxHeartbeats 1000000 in
theorem rblanks_any (s : ByteArray) (p : Nat) (w : World) (hs : s.size ≤ 1000000) (hp : p ≤ s.size) :
    Calls Try.prog 33 #[.string s, .int .i64 (p : Int)] w fun e w' => e = .returned (.tuple #[.int .i64 ((p + (Lx.blk false (s.data.toList.drop p)).1 : Nat) : Int), .bool (Lx.blk false (s.data.toList.drop p)).2]) ∧ w' = w := by
  obtain ⟨G1, hG1⟩ : ∃ G1, p + (Lx.blk false (s.data.toList.drop p)).1 = G1 := ⟨_, rfl⟩
  obtain ⟨G2, hG2⟩ : ∃ G2, (Lx.blk false (s.data.toList.drop p)).2 = G2 := ⟨_, rfl⟩
  have HG : Hid (BlkS s G1 G2 false p false) := ⟨hG1, hG2⟩
  rw [hG1, hG2]
  clear hG1 hG2
  go_enter Try.func33, Try.ntmps33
  go_wp2
  go_loop [1, 6] (fun i b => ∃ (k : Nat) (x : Bool), k ≤ s.size ∧ i = .int .i64 k ∧ b = .bool x ∧ Hid (BlkS s G1 G2 false k x)) (fun i _ => s.size - (intOf i).toNat)
  case atStart => exact ⟨p, false, hp, rfl, rfl, HG⟩
  case round =>
    obtain ⟨k, x, hk, rfl, rfl, HR⟩ := hrel
    clear HG
    by_cases hlt : k < s.size
    · have hlt' : (k : Int) < s.size := by omega
      have hd := drop_at s k hlt
      by_cases h10 : s[k].toNat = 10
      · have HN : Hid (BlkS s G1 G2 false (k + 1) true) := by
          have := HR.out
          unfold BlkS at this
          rw [hd, Lx.blk_line _ _ h10] at this
          exact ⟨by have := this.1; simp only [] at this; omega, by have := this.2; simpa using this⟩
        have hc : ((s[k].toNat : Int) == 10) = true := by rw [beq_iff_eq]; omega
        clear hd HR h10
        go_wp2
        go_round
        case rel => exact ⟨k + 1, true, by omega, by go_num, rfl, HN⟩
        case measure => simp [intOf]; omega
      have hc10 : ((s[k].toNat : Int) == 10) = false := by rw [beq_eq_false_iff_ne]; omega
      by_cases hb : Lx.blank s[k] = true
      · have HN : Hid (BlkS s G1 G2 false (k + 1) x) := by
          have := HR.out
          unfold BlkS at this
          rw [hd, Lx.blk_blank _ _ hb h10] at this
          exact ⟨by have := this.1; simp only [] at this; omega, this.2⟩
        have hb3 : s[k].toNat = 9 ∨ s[k].toNat = 13 ∨ s[k].toNat = 32 := by unfold Lx.blank at hb; simp at hb; omega
        clear hd HR hb
        rcases hb3 with h | h | h
        · have hc : ((s[k].toNat : Int) == 9) = true := by rw [beq_iff_eq]; omega
          clear h h10
          go_wp2
          go_round
          case rel => exact ⟨k + 1, x, by omega, by go_num, rfl, HN⟩
          case measure => simp [intOf]; omega
        · have hc : ((s[k].toNat : Int) == 13) = true := by rw [beq_iff_eq]; omega
          have hc2 : ((s[k].toNat : Int) == 9) = false := by rw [beq_eq_false_iff_ne]; omega
          clear h h10
          go_wp2
          go_round
          case rel => exact ⟨k + 1, x, by omega, by go_num, rfl, HN⟩
          case measure => simp [intOf]; omega
        · have hc : ((s[k].toNat : Int) == 32) = true := by rw [beq_iff_eq]; omega
          have hc2 : ((s[k].toNat : Int) == 9) = false := by rw [beq_eq_false_iff_ne]; omega
          have hc3 : ((s[k].toNat : Int) == 13) = false := by rw [beq_eq_false_iff_ne]; omega
          clear h h10
          go_wp2
          go_round
          case rel => exact ⟨k + 1, x, by omega, by go_num, rfl, HN⟩
          case measure => simp [intOf]; omega
      have hb3 : s[k].toNat ≠ 9 ∧ s[k].toNat ≠ 13 ∧ s[k].toNat ≠ 32 := by unfold Lx.blank at hb; simp at hb; omega
      have hc9 : ((s[k].toNat : Int) == 9) = false := by rw [beq_eq_false_iff_ne]; omega
      have hc13 : ((s[k].toNat : Int) == 13) = false := by rw [beq_eq_false_iff_ne]; omega
      have hc32 : ((s[k].toNat : Int) == 32) = false := by rw [beq_eq_false_iff_ne]; omega
      by_cases hq : s[k].toNat = 47 ∧ ((s.data.toList.drop (k + 1)).head?.map (·.toNat)) = some 47
      · have hlt2 : k + 1 < s.size := by
          rcases Nat.lt_or_ge (k + 1) s.size with h | h
          · exact h
          · rw [List.drop_of_length_le (by rw [size_list]; exact h)] at hq; simp at hq
        have hlt2' : (k : Int) + 1 < s.size := by omega
        have hd2 := drop_at s (k + 1) hlt2
        have hn : s[k + 1].toNat = 47 := by rw [hd2] at hq; simpa using hq.2
        have hc47 : ((s[k].toNat : Int) == 47) = true := by rw [beq_iff_eq]; omega
        have hn47 : ((s[k + 1].toNat : Int) == 47) = true := by rw [beq_iff_eq]; omega
        have HT : Hid (BlkS s G1 G2 true k x) := by
          have := HR.out
          unfold BlkS at this
          rw [hd, hd2, blk_note _ _ _ hq.1 hn, ← hd2, ← hd] at this
          exact this
        have HK : Hid (s[k].toNat ≠ 10) := h10
        clear hd hd2 HR hb hb3 h10 hq hn
        go_wp2
        go_loop [1] (fun i => ∃ (m : Nat), k ≤ m ∧ m ≤ s.size ∧ i = .int .i64 m ∧ Hid (BlkS s G1 G2 true m x)) (fun i => s.size - (intOf i).toNat)
        case atStart => exact ⟨k, by omega, hk, rfl, HT⟩
        case round =>
          obtain ⟨m, hkm, hm, rfl, HM⟩ := hrel
          clear HT
          by_cases hmt : m < s.size
          · have hmt' : (m : Int) < s.size := by omega
            have hdm := drop_at s m hmt
            by_cases hm10 : s[m].toNat = 10
            · have HN : Hid (k < m ∧ BlkS s G1 G2 false m x) := by
                refine ⟨Nat.lt_of_le_of_ne hkm (fun e => HK.out (by subst e; exact hm10)), ?_⟩
                have := HM.out
                unfold BlkS at this ⊢
                rw [hdm, blkT_line _ _ hm10, ← hdm] at this
                exact this
              have hcm : ((s[m].toNat : Int) == 10) = true := by rw [beq_iff_eq]; omega
              clear hdm HM hm10
              go_wp2
              go_round
              case rel => exact ⟨m, x, hm, rfl, rfl, HN.out.2⟩
              case measure => have := HN.out.1; simp [intOf]; omega
            · have HN : Hid (BlkS s G1 G2 true (m + 1) x) := by
                have := HM.out
                unfold BlkS at this ⊢
                rw [hdm, blkT_on _ _ hm10] at this
                exact ⟨by have := this.1; simp only [] at this; omega, this.2⟩
              have hcm : ((s[m].toNat : Int) == 10) = false := by rw [beq_eq_false_iff_ne]; omega
              clear hdm HM hm10
              go_wp2
              go_round
              case rel => exact ⟨m + 1, by omega, by omega, by go_num, HN⟩
              case measure => simp [intOf]; omega
          · have hmt' : ¬ (m : Int) < s.size := by omega
            have HN : Hid (k < m ∧ BlkS s G1 G2 false m x) := by
              refine ⟨by omega, ?_⟩
              have := HM.out
              unfold BlkS at this ⊢
              rw [blkT_end m s (by omega)] at this
              exact this
            clear HM
            go_wp2
            go_round
            case rel => exact ⟨m, x, hm, rfl, rfl, HN.out.2⟩
            case measure => have := HN.out.1; simp [intOf]; omega
      · have HN : Hid (k = G1 ∧ x = G2) := by
          have := HR.out
          unfold BlkS at this
          rw [hd, blk_stop _ _ h10 hb3.1 hb3.2.1 hb3.2.2 hq] at this
          exact ⟨by have := this.1; simpa using this, by have := this.2; simpa using this⟩
        by_cases h47 : s[k].toNat = 47
        · have hc47 : ((s[k].toNat : Int) == 47) = true := by rw [beq_iff_eq]; omega
          by_cases hlt2 : k + 1 < s.size
          · have hlt2' : (k : Int) + 1 < s.size := by omega
            have hd2 := drop_at s (k + 1) hlt2
            have hn47 : ((s[k + 1].toNat : Int) == 47) = false := by
              rw [beq_eq_false_iff_ne]; intro e
              exact hq ⟨h47, by rw [hd2]; simp; omega⟩
            clear hd hd2 HR hb hb3 h10 hq h47
            go_wp2
            go_ret2
            exact ⟨ret2 (by rw [HN.out.1]) HN.out.2, rfl⟩
          · have hlt2' : ¬ (k : Int) + 1 < s.size := by omega
            clear hd HR hb hb3 h10 hq h47
            go_wp2
            go_ret2
            exact ⟨ret2 (by rw [HN.out.1]) HN.out.2, rfl⟩
        · have hc47 : ((s[k].toNat : Int) == 47) = false := by rw [beq_eq_false_iff_ne]; omega
          clear hd HR hb hb3 h10 hq h47
          go_wp2
          go_ret2
          exact ⟨ret2 (by rw [HN.out.1]) HN.out.2, rfl⟩
    · have hlt' : ¬ (k : Int) < s.size := by omega
      have HN : Hid (k = G1 ∧ x = G2) := by
        have := HR.out
        unfold BlkS at this
        rw [List.drop_of_length_le (by rw [size_list]; omega)] at this
        exact ⟨by have := this.1; simpa [Lx.blk] using this, by have := this.2; simpa [Lx.blk] using this⟩
      clear HR
      go_wp2
      go_ret2
      exact ⟨ret2 (by rw [HN.out.1]) HN.out.2, rfl⟩
end Go.Proofs.Ytkaacmghgobhmaa.L
end
