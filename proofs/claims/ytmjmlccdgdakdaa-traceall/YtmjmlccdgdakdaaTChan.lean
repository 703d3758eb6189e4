-- PROVED: a send with room and a select of one receive with a default, in one goroutine, as laws of the ordinary walk.
import Derived.Conc.LoneSelect
import Derived.Tactics2
namespace Go.Proofs.Ytmjmlccdgdakdaa.Ch
open Go.Conc Go.RowKit
/-- Stop the walk here. -/
structure Here (p : Prop) : Prop where
  out : p
section
variable {P : Program} {ops : Array Oper} {Q : Exit → Act → World → Prop} {a : Act} {w w' w1 : World} {o : Oper} {v : Value} {i : Nat} {rest : List Nat} {cases : Array CommCase} {blocking : Bool} {shape : CommShape}
theorem hold {id : Nat} (h : Here ((Code.region id ops false).wp P Q a w)) : (Code.region id ops false).wp P Q a w := h.out
/-- From within a region. -/
def RegWp (P : Program) (ops : Array Oper) (Q : Exit → Act → World → Prop) (l : List Nat) (a : Act) (w : World) : Prop :=
  ∀ (b : Frame) (k : List Item) (cs : List Frame), ∃ e a' w', Q e a' w' ∧ Arrives P (lone (b.at a (.inRegion ops l :: k)) cs w) b k cs e a' w'
theorem region_of {id : Nat} (h : RegWp P ops Q (List.range ops.size) a w) : (Code.region id ops false).wp P Q a w := fun b k cs => by
  obtain ⟨e, a', w', hq, harr⟩ := h b k cs
  exact ⟨e, a', w', hq, .of_steps (.one step_region) harr⟩
theorem regWp_ops {l : List Nat} (h : wpOps P ops Q l a w) : RegWp P ops Q l a w := wp_ops l a w h
theorem regWp_value (ho : ops[i]? = some o) (hw : Region.wanted o (yielded ops a.tmps) = true) (hr : (execOp a.eval o).run P w = .ok (.value v) w') (h : RegWp P ops Q rest (a.put o.dst v) w') : RegWp P ops Q (i :: rest) a w := by
  intro b k cs
  have hg := stepG_op (P := P) (b := b) (k := k) (cs := cs) (w := w) (rest := rest) ho hw
  have hfin : ∀ v, (b.at a (.inRegion ops (i :: rest) :: k)).finish v = b.at (a.put o.dst v) (.inRegion ops rest :: k) := by
    intro v; rw [Frame.finish_at, ho]; rfl
  obtain ⟨e, a', w'', hq, harr⟩ := h b k cs
  refine ⟨e, a', w'', hq, .of_steps (.one (step_lone_go ?_)) harr⟩
  rw [hg, ← hfin]; simp [stepG.apply, hr]
theorem regWp_comm (ho : ops[i]? = some o) (hw : Region.wanted o (yielded ops a.tmps) = true) (hr : (execOp a.eval o).run P w = .ok (.comm cases blocking shape) w1)
    (hst : ∀ fr cs es, stepG P true (G fr cs) w = .comm (G fr cs) cases blocking shape w1 es → step P (solo (G fr cs) w) = .next (solo (G (fr.finish v) cs) w'))
    (h : RegWp P ops Q rest (a.put o.dst v) w') : RegWp P ops Q (i :: rest) a w := by
  intro b k cs
  have hg : ∃ es, stepG P true (G (b.at a (.inRegion ops (i :: rest) :: k)) cs) w = .comm (G (b.at a (.inRegion ops (i :: rest) :: k)) cs) cases blocking shape w1 es := by
    rw [stepG_oper ho hw]
    simp [stepG.apply, hr, G, Frame.at, GStep.after]
  obtain ⟨es, hg⟩ := hg
  have hs := hst _ _ es hg
  have hfin : (b.at a (.inRegion ops (i :: rest) :: k)).finish v = b.at (a.put o.dst v) (.inRegion ops rest :: k) := by
    rw [Frame.finish_at, ho]; rfl
  rw [hfin] at hs
  obtain ⟨e, a', w'', hq, harr⟩ := h b k cs
  exact ⟨e, a', w'', hq, .of_steps (.one hs) harr⟩
end
section
variable {P : Program} {Q : Exit → Act → World → Prop} {a : Act} {w w' w1 : World} {o : Oper} {v : Value} {cases : Array CommCase} {blocking : Bool} {shape : CommShape}
/-- The first operation is a communication. -/
theorem first {id : Nat} {rest : List Oper} (hw : Region.wanted o (yielded (o :: rest).toArray a.tmps) = true) (hr : (execOp a.eval o).run P w = .ok (.comm cases blocking shape) w1)
    (hst : ∀ fr cs es, stepG P true (G fr cs) w = .comm (G fr cs) cases blocking shape w1 es → step P (solo (G fr cs) w) = .next (solo (G (fr.finish v) cs) w'))
    (h : wpList P (o :: rest).toArray Q rest (a.put o.dst v) w') : (Code.region id (o :: rest).toArray false).wp P Q a w := by
  refine region_of ?_
  have hl : List.range (o :: rest).toArray.size = 0 :: List.range' 1 rest.length := by
    rw [List.range_eq_range']; simp [List.range'_succ]
  rw [hl]
  refine regWp_comm (o := o) (by simp) hw hr hst (regWp_ops ?_)
  rw [wpOps_eq_wpList rest 1 (by intro j; simp [Nat.add_comm 1 j])]
  exact h
/-- The third of three operations is a communication. -/
theorem third {id : Nat} {o0 o1 : Oper} {v0 v1 : Value} (h0 : Region.wanted o0 (yielded #[o0, o1, o] a.tmps) = true) (r0 : (execOp a.eval o0).run P w = .ok (.value v0) w)
    (h1 : Region.wanted o1 (yielded #[o0, o1, o] (a.put o0.dst v0).tmps) = true) (r1 : (execOp (a.put o0.dst v0).eval o1).run P w = .ok (.value v1) w)
    (hw : Region.wanted o (yielded #[o0, o1, o] ((a.put o0.dst v0).put o1.dst v1).tmps) = true) (hr : (execOp ((a.put o0.dst v0).put o1.dst v1).eval o).run P w = .ok (.comm cases blocking shape) w1)
    (hst : ∀ fr cs es, stepG P true (G fr cs) w = .comm (G fr cs) cases blocking shape w1 es → step P (solo (G fr cs) w) = .next (solo (G (fr.finish v) cs) w'))
    (h : Q .normal (((a.put o0.dst v0).put o1.dst v1).put o.dst v) w') : (Code.region id #[o0, o1, o] false).wp P Q a w := by
  refine region_of ?_
  rw [show List.range (#[o0, o1, o] : Array Oper).size = [0, 1, 2] from rfl]
  exact regWp_value (o := o0) rfl h0 r0 (regWp_value (o := o1) rfl h1 r1 (regWp_comm (o := o) rfl hw hr hst (regWp_ops h)))
end
end Go.Proofs.Ytmjmlccdgdakdaa.Ch
