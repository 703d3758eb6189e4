/- strings.Builder's WriteByte by its contract: a byte more, in memory of its own. -/
import Derived.Test.YtoeolonbkeldoaaDoorLBuild
import Derived.Deep.CutBlock
import Derived.WalkSmall
namespace Go.Proofs.YtoeolonbkeldoaaDoor.L
open Go.RowKit
set_option linter.unusedVariables false
/-- An append whose run is known, guarded or not. -/
theorem wpList_append_run {P : Program} {ops : Array Oper} {rest : List Oper} {o : Oper} {a : Act} {w : World} {Q : Exit → Act → World → Prop} (s x : Operand) (t : TypeId) (hw : Region.wanted o (yielded ops a.tmps) = true)
    (ho : o.op = .call { callee := .builtin .append, args := #[s, x], argTypes := #[t, t] }) (v y v' : Value) (w' : World) (hs : a.eval s = v) (hx : a.eval x = y) (hr : (Builtin.append_ #[t, t] o.type #[v, y]).run P w = .ok v' w')
    (h : wpList P ops Q rest (a.put o.dst v') w') : wpList P ops Q (o :: rest) a w := by
  refine wpList_step fun K hK => ?_
  rw [if_pos hw]
  unfold Oper.wp execOp
  simp only [ho, resolve, invoke, builtin, Sem.run_bind, Sem.run_pure, Result.andThen_ok, List.map_toArray, List.map_cons, List.map_nil, hs, hx, hr]
  exact hK _ _ h
theorem info5 : (Tryd.prog.info? 5).map (fun i => (i.zero, i.size, i.bytes)) = some (some (.int .u8 0), 1, 1) := by kernel_rfl
theorem info_of {P : Program} {t : TypeId} {z : Value} {n m : Nat} (h : (P.info? t).map (fun i => (i.zero, i.size, i.bytes)) = some (some z, n, m)) : ∃ i, P.info? t = some i ∧ i.zero = some z ∧ i.size = n ∧ i.bytes = m := by
  obtain ⟨i, hi, e⟩ := Option.map_eq_some_iff.1 h
  simp only [Prod.mk.injEq] at e
  exact ⟨i, hi, e.1, e.2.1, e.2.2⟩
/-- One byte behind a row of bytes of one's own, as a run of the append; what is not the row's block stays. -/
theorem byte_more {B : Nat} {w : World} {v : Value} {bs : List Value} (h : w.ownsRow B 5 1 v bs.length bs) (hB : B ≤ w.heap.size) (hl : bs.length + 1 ≤ 140737488355328) (c : Int) (ty : TypeId) :
    ∃ v' w3, (Builtin.append_ #[30, 30] ty #[v, .slice (some ⟨w.heap.size, 0, none⟩) 1 1]).run Tryd.prog (w.alloc (.cells #[.int .u8 c] 5)) = .ok v' w3 ∧
      w3.ownsRow B 5 1 v' (bs ++ [Value.int .u8 c]).length (bs ++ [Value.int .u8 c]) ∧ (w.alloc (.cells #[.int .u8 c] 5)).grownBy w3 v.ownBlock ∧ Below B w w3 := by
  obtain ⟨i0, hi, hz0, hz1, hz2⟩ := info_of info5
  have hb : Below w.heap.size w (w.alloc (.cells #[.int .u8 c] 5)) := (Below.refl _ _).alloc (Nat.le_refl _) _
  have hown : ∀ k, v.ownBlock = some k → B ≤ k ∧ k < w.heap.size := fun k hk => by
    rcases h.2 with ⟨e, _⟩ | ⟨g, cap, cur, e, e1, e2, _⟩
    · rw [e] at hk; simp [Value.ownBlock] at hk
    · rw [e] at hk; simp [Value.ownBlock] at hk; subst hk
      refine ⟨e1, Nat.lt_of_not_le fun hg => ?_⟩
      rw [Array.getElem?_eq_none hg] at e2; cases e2
  have h2 : (w.alloc (.cells #[.int .u8 c] 5)).ownsRow B 5 1 v bs.length bs := by
    rcases h.2 with ⟨e, e0⟩ | ⟨g, cap, cur, e, e1, e2, e3⟩
    · exact ⟨h.1, .inl ⟨e, e0⟩⟩
    · refine ⟨h.1, .inr ⟨g, cap, cur, e, e1, ?_, e3⟩⟩
      rw [hb.block g (hown g (by rw [e]; rfl)).2]; exact e2
  obtain ⟨v', w3, hr, ho, hg, _⟩ := run_append_own (P := Tryd.prog) (w.alloc (.cells #[.int .u8 c] 5)) B 30 ty 5 i0 (.int .u8 0) 1 1 Tryd.underlying30 hi hz0 hz1 hz2 rfl (by decide) v bs.length bs h2 ⟨w.heap.size, 0, none⟩ 1 1 [.int .u8 c] rfl (by
      intro j u hj
      match j, hj with
      | 0, hj => simp at hj; subst hj; simp [Addr.add]) (by intro u hu; simp at hu; subst hu; rfl) (by unfold maxLen; omega) (by omega) (by simp; omega)
  exact ⟨v', w3, hr, by simpa using ho, hg, (hb.mono hB).trans ((Below.refl _ _).grown hg (by simp; omega) fun k hk => (hown k hk).1)⟩
set_option maxRecDepth 100000 in
set_option maxHeartbeats 1000000 in
theorem wbyte_any (B b : Nat) (bs : List Value) (c : Int) (w : World) (h : Lib.IsBuilder 73 5 B b bs w) (hlen : bs.length + 1 ≤ 140737488355328) (hBw : B ≤ w.heap.size) :
    Calls Tryd.prog 44 #[.pointer (some ⟨b, 0, none⟩), .int .u8 c] w fun e w' => e = .returned .nilIface ∧ (Lib.BuilderAt 73 5 B b (.pointer (some ⟨b, 0, none⟩)) (bs ++ [.int .u8 c]) w' ∧ Below B w w') := by
  have HC : Hid (_) := check_any B b bs w h
  clear h
  go_enter Tryd.func44, Tryd.ntmps44
  go_wp2_with fail
  refine Calls.mono HC.out ?_
  rintro e w1 ⟨rfl, ⟨hBb, v, hb, hown, hne⟩, hb1⟩
  clear HC
  have hs1 : B ≤ w1.heap.size := Nat.le_trans hBw hb1.size
  have hbl : b < w1.heap.size := Nat.lt_of_not_le fun hg => by rw [Array.getElem?_eq_none hg] at hb; cases hb
  have q1 : w1.cell? ⟨b, 1, none⟩ = some v := by simp [World.cell?, hb]
  obtain ⟨v', w3, hr, ho, hg, hb3⟩ := byte_more hown hs1 hlen c 30
  obtain ⟨a, n', cap, rfl⟩ : ∃ a n' cap, v' = .slice a n' cap := by
    rcases ho.2 with ⟨e, _⟩ | ⟨g, cap, cur, e, _⟩
    · exact ⟨_, _, _, e⟩
    · exact ⟨_, _, _, e⟩
  have hb2 : w3.heap[b]? = some (.cells #[.pointer (some ⟨b, 0, none⟩), v] 73 (0, 0)) := by
    have := hg.block b (by simp; omega) (fun e => hne e.symm)
    rw [this, ((Below.refl w1.heap.size w1).alloc (Nat.le_refl _) _).block b hbl]; exact hb
  have f1 : w3.frozen? ⟨b, 1, none⟩ = false := by simp [World.frozen?, hb2]
  have q2 : w3.cell? ⟨b, 1, none⟩ = some v := by simp [World.cell?, hb2]
  have HO : Hid (_) := Lib.BuilderAt.put (T := 73) (e := 5) (p := .pointer (some ⟨b, 0, none⟩)) hBb hb2 ho (by decide)
  have HBB : Hid (Below B w w3) := hb1.trans hb3
  clear hown hne hg ho hb hb2 hb3 hb1
  have HR : Hid (_) := hr
  clear hr
  go_wp2_with (at_builtin; refine wpList_append_run _ _ 30 rfl rfl _ _ _ _ rfl rfl HR.out ?_)
  go_ret
  exact ⟨rfl, HO.out, HBB.out.setCell (p := ⟨b, 1, none⟩) hBb _⟩
end Go.Proofs.YtoeolonbkeldoaaDoor.L
