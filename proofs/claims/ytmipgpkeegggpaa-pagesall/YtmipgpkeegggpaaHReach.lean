-- PROVED: the walk from cell to cell (6.2): what is put on the list, and taken of it.
import Derived.Test.YtmipgpkeegggpaaHpMath
import Derived.Test.YtmipgpkeegggpaaHAwake
import Derived.Test.YtmipgpkeegggpaaPOwn
import Derived.WalkSmall
namespace Go.Proofs.Ytmipgpkeegggpaa.P
open Go.RowKit Hq
set_option linter.unusedVariables false
/-- A row of flags. -/
def Fl (w : World) (B : Nat) (D : List Bool) : Prop := w.heap[B]? = some (.cells (D.map Value.bool).toArray 4 (0, 0))
theorem Fl.keep {S : List TypeId} {base : Nat} {w w' : World} {B : Nat} {D : List Bool} (h : Fl w B D) (k : Keep S base w w') (hS : 4 ∉ S) : Fl w' B D := (k.same B _ _ _ h hS).trans h
theorem Fl.at_ {w : World} {B : Nat} {D : List Bool} (h : Fl w B D) {j : Nat} {x : Bool} (hj : D[j]? = some x) : w.cell? ⟨B, j, none⟩ = some (.bool x) ∧ w.frozen? ⟨B, j, none⟩ = false ∧ B < w.heap.size :=
  ⟨by rw [cellsOf h]; simp [hj], by simp [World.frozen?, show w.heap[B]? = _ from h], heap_lt h⟩
theorem Fl.set {w : World} {B : Nat} {D : List Bool} (h : Fl w B D) (j : Nat) : Fl (w.setCell ⟨B, j, none⟩ (.bool true)) B (D.set j true) := by
  unfold Fl
  rw [Lib.heap_setCell_same h]
  congr 2
  apply Array.ext'
  simp [List.map_set]
theorem info4 : (Try.prog.info? 4).map (fun i => (i.zero, i.size, i.bytes)) = some (some (.bool false), 1, 1) := by kernel_rfl
theorem madeF : ∀ n : Nat, madeCells #[Value.bool false] n = ((List.replicate n false).map Value.bool).toArray := fun n => by
  apply Array.ext'
  rw [toList_madeCells_one]
  simp
theorem makeF (W : World) (n : Nat) (hn : n ≤ 1000000) : (Instr.makeSlice 70 (.int .i64 (n : Int)) (.int .i64 (n : Int))).run Try.prog W = .ok (.slice (some ⟨W.heap.size, 0, none⟩) n n) (W.alloc (.cells ((List.replicate n false).map Value.bool).toArray 4)) := by
  obtain ⟨i0, hi, hz0, hz1, hz2⟩ := info_parts info4
  have := run_make (P := Try.prog) W 70 4 i0 (.bool false) Try.underlying70 hi hz0 .i64 .i64 n n (by omega) (by omega) (by rw [hz2]; omega) (by omega)
  rw [this, hz1, Nat.mul_one, ← madeF]
  rfl
theorem nums_push2 {base : Nat} {w : World} {v : Value} {l : List Nat} (h : w.ownsRow base 3 1 v l.length (nums l)) (hB : base ≤ w.heap.size) (hl : l.length ≤ 10000000) (x : Nat) (ty : TypeId) :
    ∃ a cap w3, (Builtin.append_ #[23, 23] ty #[v, .slice (some ⟨w.heap.size, 0, none⟩) 1 1]).run Try.prog (w.alloc (.cells #[.int .i64 (x : Int)] 3)) = .ok (.slice a (l.length + 1) cap) w3 ∧
      w3.ownsRow base 3 1 (.slice a (l.length + 1) cap) (l.length + 1) (nums (l ++ [x])) ∧ Keep [3] base w w3 := by
  obtain ⟨i0, hi, hz0, hz1, hz2⟩ := info_parts info3
  have hbel : Below w.heap.size w (w.alloc (.cells #[.int .i64 (x : Int)] 3)) := (Below.refl _ _).alloc (Nat.le_refl _) _
  have htmp := heap_alloc_new w (.cells #[.int .i64 (x : Int)] 3)
  have k2 := keepB hB hbel
  have c3 : World.ownsRow _ base 3 1 v l.length (nums l) := own_same h fun g cur _ hg => hbel.block g (heap_lt hg)
  have hsz : (w.alloc (.cells #[.int .i64 (x : Int)] 3)).heap.size = w.heap.size + 1 := by simp
  generalize (w.alloc (.cells #[.int .i64 (x : Int)] 3)) = w2 at *
  obtain ⟨v', w3, hr, ho, hg, _, hat⟩ := run_append_own_at (P := Try.prog) w2 base 23 ty 3 i0 (.int .i64 0) 1 8 Try.underlying23 hi hz0 hz1 hz2 rfl (by decide) v l.length (nums l) c3 ⟨w.heap.size, 0, none⟩ 1 1 [.int .i64 (x : Int)] rfl (by
      intro j u hj
      match j, hj with
      | 0, hj => simp at hj; subst hj; simp [Addr.add, World.cell?, htmp]) (by intro u hu; simp at hu; subst hu; rfl) (by unfold maxLen; omega) (by omega) (by omega)
  obtain ⟨a, cap, rfl⟩ : ∃ a cap, v' = .slice a (l.length + 1) cap := by
    rcases ho.2 with ⟨_, e⟩ | ⟨g, cap, cur, e, _⟩
    · omega
    · exact ⟨_, _, e⟩
  have hrowlt : ∀ k, v.ownBlock = some k → base ≤ k ∧ ∃ arr T fz, w2.heap[k]? = some (.cells arr T fz) ∧ T ∈ [3] := fun k hk => by
    rcases c3.2 with ⟨e, _⟩ | ⟨g, cap, cur, e, e1, e2, _⟩
    · rw [e] at hk; simp [Value.ownBlock] at hk
    · rw [e] at hk; simp [Value.ownBlock] at hk; subst hk; exact ⟨e1, cur, _, _, e2, by simp⟩
  exact ⟨a, cap, w3, hr, by simpa [nums] using ho, (k2.mono (by simp)).trans ((Keep.refl _ _ _).grown hg (by omega) hrowlt)⟩
theorem blk3 {w : World} {b : Nat} {x y z : Value} {t : TypeId} (h : w.heap[b]? = some (.cells #[x, y, z] t)) :
    w.cell? ⟨b, 0, none⟩ = some x ∧ w.cell? ⟨b, 1, none⟩ = some y ∧ w.cell? ⟨b, 2, none⟩ = some z ∧
    w.frozen? ⟨b, 0, none⟩ = false ∧ w.frozen? ⟨b, 1, none⟩ = false ∧ w.frozen? ⟨b, 2, none⟩ = false ∧ b < w.heap.size := by
  refine ⟨?_, ?_, ?_, ?_, ?_, ?_, heap_lt h⟩ <;> simp [World.cell?, World.frozen?, h]
/-- The walk in memory: at B; its flags at rB; the cells are at al. -/
structure Wk (base : Nat) (w : World) (B rB : Nat) (al : Option Addr) (cl : Nat) (p : List Bool × List Nat) : Prop where
  low : base ≤ B
  lowR : base ≤ rB
  head : ∃ vt, w.heap[B]? = some (.cells #[.slice al p.1.length cl, .slice (some ⟨rB, 0, none⟩) p.1.length p.1.length, vt] 74 (0, 0)) ∧ w.ownsRow base 3 1 vt p.2.length (nums p.2)
  fl : Fl w rB p.1
  few : p.1.length ≤ 100000 ∧ 2 * p.1.count false + p.2.length ≤ 2 * p.1.length
  size : base ≤ w.heap.size
abbrev WTs : List TypeId := [74, 4, 3]
section
variable {base B rB cl : Nat} {w w' : World} {al : Option Addr} {p : List Bool × List Nat}
theorem Wk.keep {S : List TypeId} (h : Wk base w B rB al cl p) (k : Keep S base w w') (hS : 74 ∉ S ∧ 4 ∉ S ∧ 3 ∉ S) : Wk base w' B rB al cl p := by
  obtain ⟨vt, h1, h2⟩ := h.head
  exact ⟨h.low, h.lowR, ⟨vt, (k.same _ _ _ _ h1 hS.1).trans h1, own_same h2 fun g cur _ hg => k.same g _ _ _ hg hS.2.2⟩, h.fl.keep k hS.2.1, h.few, Nat.le_trans h.size k.size⟩
set_option maxRecDepth 100000 in
set_option maxHeartbeats 2000000 in
theorem ladd_any (h : Wk base w B rB al cl p) (hc : 2 * p.1.count false + p.2.length + 1 ≤ 2 * p.1.length) (x : Nat) : Calls Try.prog 58 #[.pointer (some ⟨B, 2, none⟩), .int .i64 (x : Int)] w fun e w' => e = .returned (.tuple #[]) ∧ Hid (Wk base w' B rB al cl (p.1, p.2 ++ [x])) ∧ Hid (Keep WTs base w w') := by
  obtain ⟨vt, h1, h2⟩ := h.head
  obtain ⟨a, cap, w3, hr, ho, hk⟩ := nums_push2 h2 h.size (by have := h.few; omega) x 23
  obtain ⟨a0, a1, a2, f0, f1, f2, la⟩ := blk3 h1
  have h3 := (hk.same _ _ _ _ h1 (by simp)).trans h1
  obtain ⟨b0, b1, b2, g0, g1, g2, lb⟩ := blk3 h3
  have hend := Lib.heap_setCell_same (i := 2) h3 (.slice a (p.2.length + 1) cap)
  have k4 : Keep WTs base w (w3.setCell ⟨B, 2, none⟩ (.slice a (p.2.length + 1) cap)) := (hk.mono (by simp)).trans ((Keep.refl _ _ _).set (p := ⟨B, 2, none⟩) h3 (by simp) h.low _)
  have k5 : Keep [74] base w3 (w3.setCell ⟨B, 2, none⟩ (.slice a (p.2.length + 1) cap)) := (Keep.refl _ _ _).set (p := ⟨B, 2, none⟩) h3 (by simp) h.low _
  have HW : Hid (Wk base (w3.setCell ⟨B, 2, none⟩ (.slice a (p.2.length + 1) cap)) B rB al cl (p.1, p.2 ++ [x])) := (show Wk _ _ _ _ _ _ _ from ⟨h.low, h.lowR, ⟨_, hend, (by
    have := own_same ho fun g cur _ hg => k5.same g _ _ _ hg (by simp)
    simpa using this)⟩, (h.fl.keep hk (by simp)).keep k5 (by simp), ⟨h.few.1, by simp; omega⟩, Nat.le_trans h.size k4.size⟩)
  have HK : Hid (Keep WTs base w (w3.setCell ⟨B, 2, none⟩ (.slice a (p.2.length + 1) cap))) := k4
  have HR : Hid (_) := hr
  clear h1 h2 h3 hr ho hk hend k4 k5 h hc
  go_enter Try.func58, Try.ntmps58
  go_wp2_with (at_builtin; refine wpList_append_run _ _ 23 rfl rfl _ _ _ _ rfl rfl HR.out ?_)
  go_end0
  exact ⟨rfl, HW, HK⟩
theorem Wk.mark (h : Wk base w B rB al cl p) {k : Nat} (hk : p.1[k]? = some false) : Wk base (w.setCell ⟨rB, k, none⟩ (.bool true)) B rB al cl (p.1.set k true, p.2) ∧ Keep WTs base w (w.setCell ⟨rB, k, none⟩ (.bool true)) ∧ 2 * (p.1.set k true).count false + p.2.length + 1 ≤ 2 * (p.1.set k true).length := by
  obtain ⟨vt, h1, h2⟩ := h.head
  have k4 : Keep [4] base w (w.setCell ⟨rB, k, none⟩ (.bool true)) := (Keep.refl _ _ _).set (p := ⟨rB, k, none⟩) h.fl (by simp) h.lowR _
  have hf := falses_set _ _ hk
  have h5 := h.few.2
  refine ⟨⟨h.low, h.lowR, ⟨vt, ?_, own_same h2 fun g cur _ hg => k4.same g _ _ _ hg (by simp)⟩, h.fl.set k, ⟨by simpa using h.few.1, by simp; omega⟩, Nat.le_trans h.size k4.size⟩, k4.mono (by simp), by simp; omega⟩
  rw [List.length_set]
  exact (k4.same _ _ _ _ h1 (by simp)).trans h1
set_option maxRecDepth 100000 in
set_option maxHeartbeats 2000000 in
theorem goTo_any (h : Wk base w B rB al cl p) (x : Int) : Calls Try.prog 53 #[.pointer (some ⟨B, 0, none⟩), .int .i64 x] w fun e w' => e = .returned (.tuple #[]) ∧ Hid (Wk base w' B rB al cl (go1 p x)) ∧ Hid (Keep WTs base w w') := by
  obtain ⟨vt, h1, h2⟩ := h.head
  obtain ⟨a0, a1, a2, f0, f1, f2, la⟩ := blk3 h1
  have hfew := h.few.1
  clear h1 h2
  by_cases hc : 1 ≤ x ∧ x ≤ p.1.length
  · obtain ⟨hc1, hc2⟩ := hc
    obtain ⟨k, rfl⟩ : ∃ k : Nat, x = (k : Int) + 1 := ⟨x.toNat - 1, by omega⟩
    have hk : k < p.1.length := by omega
    obtain ⟨c0, cf, lc⟩ := h.fl.at_ (List.getElem?_eq_getElem hk)
    cases hb : p.1[k] with
    | true =>
      rw [hb] at c0
      have HG : Hid (go1 p ((k : Int) + 1) = p) := (show _ = _ from by
        unfold go1
        rw [if_neg]
        rintro ⟨_, _, h3⟩
        rw [show ((k : Int) + 1).toNat - 1 = k by omega, List.getElem?_eq_getElem hk, hb] at h3
        cases h3)
      have HW : Hid (Wk base w B rB al cl p) := h
      clear h hb
      have e1 : ¬ ((k : Int) + 1 < 1) := by omega
      have e2 : ¬ ((k : Int) + 1 > (p.1.length : Int)) := by omega
      have e3 : (k : Int) + 1 - 1 = (k : Int) := by omega
      generalize p.1.length = n at *
      go_enter Try.func53, Try.ntmps53
      go_wp2_with fail
      refine bodyPost_ret (results_none rfl _ _ _) rfl ?_
      rw [HG.out]
      exact ⟨rfl, HW, Keep.refl _ _ _⟩
    | false =>
      rw [hb] at c0
      have HG : Hid (go1 p ((k : Int) + 1) = (p.1.set k true, p.2 ++ [k + 1])) := (show _ = _ from by
        unfold go1
        rw [show ((k : Int) + 1).toNat = k + 1 by omega, if_pos ⟨hc1, hc2, by rw [Nat.add_sub_cancel, List.getElem?_eq_getElem hk, hb]⟩, Nat.add_sub_cancel])
      obtain ⟨m1, m2, m3⟩ := h.mark (k := k) (by rw [List.getElem?_eq_getElem hk, hb])
      have HA : Hid (_) := ladd_any m1 m3 (k + 1)
      have HK : Hid (Keep WTs base w (w.setCell ⟨rB, k, none⟩ (.bool true))) := m2
      clear h hb m1 m2 m3
      have e1 : ¬ ((k : Int) + 1 < 1) := by omega
      have e2 : ¬ ((k : Int) + 1 > (p.1.length : Int)) := by omega
      have e3 : (k : Int) + 1 - 1 = (k : Int) := by omega
      generalize p.1.length = n at *
      rw [show ((k + 1 : Nat) : Int) = (k : Int) + 1 by push_cast; rfl] at HA
      go_enter Try.func53, Try.ntmps53
      go_wp2_with fail
      refine Calls.mono HA.out ?_
      rintro e w2 ⟨rfl, HW2, HK2⟩
      go_wp2_with fail
      go_end0
      rw [HG.out]
      exact ⟨rfl, HW2, HK.out.trans HK2.out⟩
  · have HG : Hid (go1 p x = p) := (show _ = _ from by
      unfold go1
      rw [if_neg]
      exact fun h => hc ⟨h.1, h.2.1⟩)
    have HW : Hid (Wk base w B rB al cl p) := h
    clear h
    generalize p.1.length = n at *
    by_cases e1 : x < 1
    · clear hc
      go_enter Try.func53, Try.ntmps53
      go_wp2_with fail
      refine bodyPost_ret (results_none rfl _ _ _) rfl ?_
      rw [HG.out]
      exact ⟨rfl, HW, Keep.refl _ _ _⟩
    · have e2 : x > (n : Int) := by omega
      clear hc
      go_enter Try.func53, Try.ntmps53
      go_wp2_with fail
      refine bodyPost_ret (results_none rfl _ _ _) rfl ?_
      rw [HG.out]
      exact ⟨rfl, HW, Keep.refl _ _ _⟩
set_option maxRecDepth 100000 in
set_option maxHeartbeats 2000000 in
theorem take_none (h : Wk base w B rB al cl (p.1, [])) : Calls Try.prog 40 #[.pointer (some ⟨B, 2, none⟩)] w fun e w' => e = .returned (.tuple #[.int .i64 0, .bool false]) ∧ w' = w := by
  obtain ⟨vt, h1, h2⟩ := h.head
  obtain ⟨a0, a1, a2, f0, f1, f2, la⟩ := blk3 h1
  obtain ⟨a, c, rfl⟩ : ∃ a c, vt = .slice a 0 c := by
    rcases h2.2 with ⟨e, _⟩ | ⟨g, cap, cur, e, _⟩
    · exact ⟨_, _, e⟩
    · exact ⟨_, _, e⟩
  clear h h1 h2
  go_enter Try.func40, Try.ntmps40
  go_wp2_with fail
  go_ret2
  exact ⟨rfl, rfl⟩
set_option maxRecDepth 100000 in
set_option maxHeartbeats 2000000 in
theorem take_some {S : List Bool} {T : List Nat} {x : Nat} (h : Wk base w B rB al cl (S, T ++ [x])) : Calls Try.prog 40 #[.pointer (some ⟨B, 2, none⟩)] w fun e w' => e = .returned (.tuple #[.int .i64 (x : Int), .bool true]) ∧ Hid (Wk base w' B rB al cl (S, T)) ∧ Hid (Keep WTs base w w') := by
  obtain ⟨vt, h1, h2⟩ := h.head
  simp only [List.length_append, List.length_singleton] at h2
  have hm : T.length + 1 ≤ 200000 := by
    have := h.few
    simp at this
    omega
  obtain ⟨g, c, rfl⟩ : ∃ g c, vt = .slice (some ⟨g, 0, none⟩) (T.length + 1) c := by
    rcases h2.2 with ⟨_, e⟩ | ⟨g, cap, cur, e, _⟩
    · omega
    · exact ⟨_, _, e⟩
  have hn : nums (T ++ [x]) = nums T ++ [.int .i64 (x : Int)] := by simp [nums]
  rw [hn] at h2
  have hp := ownsRow_pop (by simp [nums]) h2
  have hlt : T.length + 1 ≤ c ∧ c ≤ maxLen := by
    rcases h2.2 with ⟨e, _⟩ | ⟨g', cap, cur, e, _, _, e4, e5, _⟩
    · cases e
    · cases e; exact ⟨e4, e5⟩
  have hgl := (h2.lt g rfl).2
  have hgc := h2.cellAt T.length (by omega)
  rw [List.getElem?_append_right (by simp [nums])] at hgc
  simp [nums] at hgc
  obtain ⟨a0, a1, a2, f0, f1, f2, la⟩ := blk3 h1
  have hend := Lib.heap_setCell_same (i := 2) h1 (.slice (some ⟨g, 0, none⟩) T.length c)
  have k5 : Keep [74] base w (w.setCell ⟨B, 2, none⟩ (.slice (some ⟨g, 0, none⟩) T.length c)) := (Keep.refl _ _ _).set (p := ⟨B, 2, none⟩) h1 (by simp) h.low _
  have HW : Hid (Wk base (w.setCell ⟨B, 2, none⟩ (.slice (some ⟨g, 0, none⟩) T.length c)) B rB al cl (S, T)) := (show Wk _ _ _ _ _ _ _ from ⟨h.low, h.lowR, ⟨_, hend, own_same hp fun g cur _ hg => k5.same g _ _ _ hg (by simp)⟩, h.fl.keep k5 (by simp), ⟨h.few.1, by have := h.few.2; simp at this ⊢; omega⟩, Nat.le_trans h.size k5.size⟩)
  have HK : Hid (Keep WTs base w (w.setCell ⟨B, 2, none⟩ (.slice (some ⟨g, 0, none⟩) T.length c))) := k5.mono (by simp)
  clear h h1 h2 hn hp hend k5
  obtain ⟨hlt1, hlt2⟩ := hlt
  unfold maxLen at hlt2
  generalize T.length = t at *
  go_enter Try.func40, Try.ntmps40
  go_wp2_with fail
  go_ret2
  exact ⟨rfl, HW, HK⟩
end
end Go.Proofs.Ytmipgpkeegggpaa.P
