/- The parser's add, by its contract: a node more. -/
import Derived.Test.YtoeolonbkeldoaaDoorPsT
import Derived.Maps.AppendAt
import Derived.Deep.RegionLaw
namespace Go.Proofs.YtoeolonbkeldoaaDoor.R
open Go.RowKit
open L (TokAt tkA own_block own_below intOf cells5h cells5 info_of)
set_option linter.unusedVariables false
theorem infoND : (Tryd.prog.info? 33).map (fun i => (i.zero, i.size, i.bytes)) = some (some (.agg #[.int .i64 0, .int .i64 0, .string ⟨#[]⟩, .slice none 0 0, .slice none 0 0, .int .i64 0]), 6, 88) := by kernel_rfl
theorem ndCells_snoc (vs : List (Ps.Nd × Value × Value)) (x : Ps.Nd × Value × Value) : ndCells vs ++ (ndA x.1 x.2.1 x.2.2).toList = ndCells (vs ++ [x]) := by simp [ndCells]
/-- What an append of a node leaves. -/
structure Added (base : Nat) (w : World) (nv : Value) (vs : List (Ps.Nd × Value × Value)) (x : Ps.Nd × Value × Value) (v' : Value) (w' : World) : Prop where
  form : ∃ ad cap, v' = .slice ad (vs.length + 1) cap
  own : w'.ownsRow base 33 6 v' (vs ++ [x]).length (ndCells (vs ++ [x]))
  os : w'.os = w.os
  tape : w'.tape = w.tape
  output : w'.output = w.output
  size : w.heap.size ≤ w'.heap.size
  block : ∀ k, k < w.heap.size → nv.ownBlock ≠ some k → w'.heap[k]? = w.heap[k]?
  fresh : ∀ k, v'.ownBlock = some k → nv.ownBlock = some k ∨ w.heap.size ≤ k
theorem nd_more {base : Nat} {w W : World} {nv : Value} {vs : List (Ps.Nd × Value × Value)} (h : w.ownsRow base 33 6 nv vs.length (ndCells vs)) (hB : base ≤ w.heap.size) (hl : vs.length ≤ 1000000000) (x : Ps.Nd × Value × Value) (h1 : x.2.1.oneCell' = true) (h2 : x.2.2.oneCell' = true) (ty : TypeId)
    (hW : Below w.heap.size w W) (X : Nat) (hX : W.heap[X]? = some (.cells (ndA x.1 x.2.1 x.2.2) 33 (0, 0))) :
    ∃ v' w', (Builtin.append_ #[22, 22] ty #[nv, .slice (some ⟨X, 0, none⟩) 1 1]).run Tryd.prog W = .ok v' w' ∧ Added base w nv vs x v' w' := by
  obtain ⟨i0, hi, hz0, hz1, hz2⟩ := info_of infoND
  have hown := own_block h
  obtain ⟨v', w3, hr, ho, hg, _, hat⟩ := run_append_own_at (P := Tryd.prog) W base 22 ty 33 i0 _ 6 88 Tryd.underlying22 hi hz0 hz1 hz2 rfl (by decide) nv vs.length (ndCells vs) (own_below h hW) ⟨X, 0, none⟩ 1 1 (ndA x.1 x.2.1 x.2.2).toList rfl (by
      intro j u hj
      have hj6 : j < 6 := by
        rcases Nat.lt_or_ge j 6 with h | h
        · exact h
        · rw [List.getElem?_eq_none (by simpa using h)] at hj; cases hj
      have hc : W.cell? ⟨X, j, none⟩ = (ndA x.1 x.2.1 x.2.2)[j]? := by unfold World.cell?; rw [hX]; rfl
      rw [show (⟨X, 0, none⟩ : Addr).add j = ⟨X, j, none⟩ by unfold Addr.add; split <;> simp_all, hc]
      simpa using hj) (by intro u hu; simp at hu; rcases hu with rfl | rfl | rfl | rfl | rfl | rfl <;> first | rfl | assumption) (by unfold maxLen; omega) (by omega) (Nat.le_trans hB hW.size)
  obtain ⟨a, cap, rfl⟩ : ∃ a cap, v' = .slice a (vs.length + 1) cap := by
    rcases ho.2 with ⟨_, e⟩ | ⟨g, cap, cur, e, _⟩
    · omega
    · exact ⟨_, _, e⟩
  rw [ndCells_snoc] at ho
  refine ⟨_, w3, hr, ⟨a, cap, rfl⟩, by simpa using ho, hg.os.trans hW.os, hg.tape.trans hW.tape, hg.output.trans hW.output, Nat.le_trans hW.size hg.size, fun k hk hn => (hg.block k (Nat.lt_of_lt_of_le hk hW.size) (fun e => hn e.symm)).trans (hW.block k hk), fun k hk => ?_⟩
  rcases hat with e | e
  · exact .inl (e ▸ hk)
  · rw [e] at hk
    have := hW.size
    exact .inr (by simp at hk; omega)
/-- An append whose run is known, as one step of a region that draws. -/
theorem step_append_ex {P : Program} {ops : Array Oper} {o : Oper} {a : Act} {w : World} {K : Act → World → Prop} {Q : Exit → Act → World → Prop} {E : Prop} (hgd : o.guard = none) (s x : Operand) (t : TypeId)
    (ho : o.op = .call { callee := .builtin .append, args := #[s, x], argTypes := #[t, t] }) (v y : Value) (hs : a.eval s = v) (hx : a.eval x = y) (R : Value → World → Prop)
    (hr : ∃ v' w', (Builtin.append_ #[t, t] o.type #[v, y]).run P w = .ok v' w' ∧ R v' w') (h : ∀ v' w', R v' w' → K (a.put o.dst v') w') :
    if Region.wanted o (yielded ops a.tmps) = true then Oper.wp P o a w K Q else E := by
  have hw : Region.wanted o (yielded ops a.tmps) = true := by simp [Region.wanted, hgd]
  rw [if_pos hw]
  obtain ⟨v', w', h1, h2⟩ := hr
  unfold Oper.wp execOp
  simp only [ho, resolve, invoke, builtin, Sem.run_bind, Sem.run_pure, Result.andThen_ok, List.map_toArray, List.map_cons, List.map_nil, hs, hx, h1]
  exact h v' w' h2
theorem Added.drew {base : Nat} {w w' : World} {nv v' : Value} {vs : List (Ps.Nd × Value × Value)} {x : Ps.Nd × Value × Value} (h : Added base w nv vs x v' w') : Added base w nv vs x v' w'.drew :=
  ⟨h.form, own_below h.own (Below.refl _ _).drew, h.os, h.tape, h.output, h.size, h.block, h.fresh⟩
theorem set1 {w : World} {b : Nat} {x0 x1 x2 x3 x4 : Value} {t : TypeId} (h : w.heap[b]? = some (.cells #[x0, x1, x2, x3, x4] t (0, 0))) (y : Value) : (w.setCell ⟨b, 1, none⟩ y).heap[b]? = some (.cells #[x0, y, x2, x3, x4] t (0, 0)) := by
  simp [World.setCell, Array.getElem?_modify, h]
/-- The reader with a node more. -/
theorem RS.added {F : Nat → Prop} {base B dep : Nat} {st : Ps.St} {nv v' : Value} {w w' : World} {vs : List (Ps.Nd × Value × Value)} {n : Ps.Nd} {nm kd : Value} (h : RS F base B dep st nv w) (e : vs.map (·.1) = st.nodes) (hvs : ∀ x ∈ vs, NdIn F w B nv x.1 x.2.1 x.2.2)
    (hA : Added base w nv vs (n, nm, kd) v' w') (hx : NdIn F w B nv n nm kd) :
    RS F base B dep (Ps.add n st).2 v' (w'.setCell ⟨B, 1, none⟩ v') ∧ Chg B nv v' w (w'.setCell ⟨B, 1, none⟩ v') := by
  have c0 : Chg B nv v' w w' := ⟨hA.os, hA.tape, hA.output, hA.size, fun k h1 _ h3 => hA.block k h1 h3, hA.fresh⟩
  have c := c0.setBB 1 v'
  have hB := h.lt
  obtain ⟨tv, h1, h2, h3⟩ := h.rd
  have hnB : v'.ownBlock ≠ some B := fun e => by
    rcases hA.fresh B e with e | e
    · exact h.own e
    · omega
  have htl : ∀ k, blockOf tv = some k → k < w.heap.size := fun k hk => by
    obtain ⟨g, off, cap, rfl, _, _, hg, _⟩ := h2
    have : g = k := by simpa [blockOf] using hk
    omega
  refine ⟨⟨h.hB, h.few, h.last, ⟨tv, set1 ((hA.block B hB h.own).trans h1) v', h2.go h3 c, h3.go htl c⟩, ⟨vs ++ [(n, nm, kd)], ?_, own_keep hA.own (fun k hk => Below.heap_setCell _ _ _ _ (by show k ≠ B; intro e; subst e; exact hnB hk)), fun x hm => ?_⟩, hnB, fun k hk => ⟨Nat.lt_of_lt_of_le (h.far k hk).1 c.size, (h.far k hk).2.1, fun e => by
    rcases hA.fresh k e with e | e
    · exact (h.far k hk).2.2 e
    · have := (h.far k hk).1; omega⟩⟩, c⟩
  · rw [List.map_append, e]; rfl
  · rcases List.mem_append.1 hm with hm | hm
    · exact (hvs x hm).go c
    · rw [List.mem_singleton] at hm
      subst hm
      exact hx.go c
/-- What the walk is told behind the append. -/
def AddR (base B : Nat) (w : World) (nv : Value) (vs : List (Ps.Nd × Value × Value)) (x : Ps.Nd × Value × Value) (v' : Value) (w' : World) : Prop :=
  ∃ ad cap, v' = .slice ad (vs.length + 1) cap ∧ Hid (Added base w nv vs x (.slice ad (vs.length + 1) cap) w') ∧ w'.cell? ⟨B, 1, none⟩ = some nv ∧ w'.frozen? ⟨B, 1, none⟩ = false ∧ B < w'.heap.size
theorem heap_alloc_new (w : World) (V : Array Value) (t : TypeId) : (w.alloc (.cells V t)).heap[w.heap.size]? = some (.cells V t (0, 0)) := Array.getElem?_push_size
theorem alloc_drew_new (w : World) (V : Array Value) (t : TypeId) : (w.alloc (.cells V t)).drew.heap[w.heap.size]? = some (.cells V t (0, 0)) := Array.getElem?_push_size
theorem alloc2_new (w : World) (o : Obj) (V : Array Value) (t : TypeId) : ((w.alloc o).alloc (.cells V t)).heap[w.heap.size + 1]? = some (.cells V t (0, 0)) := by
  rw [← alloc_size' w o]; exact Array.getElem?_push_size
set_option maxRecDepth 100000 in
set_option maxHeartbeats 2000000 in
theorem add_any {F : Nat → Prop} {base B dep : Nat} {st : Ps.St} {nv : Value} {w : World} (h : RS F base B dep st nv w) (hbw : base ≤ w.heap.size) (hlen : st.nodes.length ≤ 1000000000) (n : Ps.Nd) (nm kd : Value) (hx : NdIn F w B nv n nm kd) (h1 : nm.oneCell' = true) (h2 : kd.oneCell' = true) :
    Calls Tryd.prog 15 #[.pointer (some ⟨B, 0, none⟩), .agg (ndA n nm kd)] w fun e w' => e = .returned (.int .i64 (st.nodes.length : Int)) ∧ ∃ nv', RS F base B dep (Ps.add n st).2 nv' w' ∧ Chg B nv nv' w w' := by
  obtain ⟨tv, e1, -, -⟩ := h.rd
  obtain ⟨vs, e, ho, hvs⟩ := h.nd
  have hvl : vs.length = st.nodes.length := by rw [← e, List.length_map]
  obtain ⟨q0, q1, q2, q3, q4, f0, f1, f2, f3, f4, hlt⟩ := cells5h e1
  have HP : Hid (∀ W X, Below w.heap.size w W → W.heap[X]? = some (.cells #[.int .i64 (n.k : Int), .int .i64 (n.n : Int), .string ⟨n.t.toArray⟩, nm, kd, .int .i64 (n.a : Int)] 33 (0, 0)) → ∀ ty, ∃ v' w', (Builtin.append_ #[22, 22] ty #[nv, .slice (some ⟨X, 0, none⟩) 1 1]).run Tryd.prog W = .ok v' w' ∧ AddR base B w nv vs (n, nm, kd) v' w') := fun W X hW hX ty => by
    obtain ⟨v', w', hr, hA⟩ := nd_more ho hbw (by omega) (n, nm, kd) h1 h2 ty hW X hX
    obtain ⟨ad, cap, rfl⟩ := hA.form
    obtain ⟨p0, p1, p2, p3, p4, g0, g1, g2, g3, g4, hl⟩ := cells5h ((hA.block B hlt h.own).trans e1)
    exact ⟨_, w', hr, ad, cap, rfl, hA, p1, g1, hl⟩
  have HM : Hid (∀ v' w', Added base w nv vs (n, nm, kd) v' w' → RS F base B dep (Ps.add n st).2 v' (w'.setCell ⟨B, 1, none⟩ v') ∧ Chg B nv v' w (w'.setCell ⟨B, 1, none⟩ v')) := fun v' w' hA => h.added e hvs hA hx
  have HL : Hid (st.nodes.length = vs.length) := hvl.symm
  have hm : ((vs.length : Int) + 1 - 1) = vs.length := by omega
  have hvb : (vs.length : Int) ≤ 1000000000 := by omega
  clear h e e1 hvs ho hx hvl hlen
  obtain ⟨nk, nn, nt, nms, nks, na⟩ := n
  simp only at HP ⊢
  go_enter Tryd.func15, Tryd.ntmps15
  go_wp2_with fail
  go_region_law ((refine step_append_ex (by rfl) _ _ 22 (by rfl) _ _ (by rfl) (by rfl) (AddR base B w nv vs (⟨nk, nn, nt, nms, nks, na⟩, nm, kd)) (HP.out _ _ (by repeat (first | with_reducible exact Below.refl _ _ | (with_reducible refine Below.drew ?_) | (with_reducible refine Below.alloc ?_ (by first | exact Nat.le_refl _ | (simp; omega) | simp) _))) (by first | exact heap_alloc_new _ _ _ | exact alloc_drew_new _ _ _ | exact alloc2_new _ _ _ _) _) ?_; rintro v' w7 ⟨a7, cap7, rfl, HA7, hc7, hf7, hl7⟩))
  all_goals
    go_wp2_with fail
    go_ret
    exact ⟨congrArg (fun x : Nat => Ending.returned (Value.int .i64 (x : Int))) HL.out.symm, _, by first | exact HM.out _ _ HA7.out | exact HM.out _ _ HA7.out.drew⟩
end Go.Proofs.YtoeolonbkeldoaaDoor.R
