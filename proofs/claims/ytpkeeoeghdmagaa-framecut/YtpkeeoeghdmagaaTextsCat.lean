-- PROVED: one slice of texts behind another: 'append(a, b...)'.
import Derived.Test.YtpkeeoeghdmagaaTexts
import Derived.Deep.Upon
namespace Go.Proofs.Ytpkeeoeghdmagaa
open Go.RowKit
/-- An append whose run is known, guarded or not. -/
theorem wpList_append_run {P : Program} {ops : Array Oper} {rest : List Oper} {o : Oper} {a : Act} {w : World} {Q : Exit → Act → World → Prop} (s x : Operand) (t : TypeId) (hw : Region.wanted o (yielded ops a.tmps) = true)
    (ho : o.op = .call { callee := .builtin .append, args := #[s, x], argTypes := #[t, t] }) (v y v' : Value) (w' : World) (hs : a.eval s = v) (hx : a.eval x = y) (hr : (Builtin.append_ #[t, t] o.type #[v, y]).run P w = .ok v' w')
    (h : wpList P ops Q rest (a.put o.dst v') w') : wpList P ops Q (o :: rest) a w := by
  refine wpList_step fun K hK => ?_
  rw [if_pos hw]
  unfold Oper.wp execOp
  simp only [ho, resolve, invoke, builtin, Sem.run_bind, Sem.run_pure, Result.andThen_ok, List.map_toArray, List.map_cons, List.map_nil, hs, hx, hr]
  exact hK _ _ h
theorem src_nothing (xo : Option Addr) (c : Nat) (size : Nat) (w : World) : Src Try.prog size 29 (.slice xo 0 c) 0 [] w :=
  ⟨.inl ⟨9, Try.underlying29⟩, fun w' => by simp [Builtin.lenOf], by cases xo <;> simp [Builtin.firstCells, loadCells, loadCellsFrom], by cases xo <;> simp [Builtin.firstCells, loadCells, loadCellsFrom], by simp, by simp⟩
/-- One list behind another. -/
theorem run_cat {base : Nat} {w : World} {v : Value} {L X : List (List UInt8)} (ho : w.ownsRow base 9 1 v L.length (F.texts L)) (xo : Option Addr) (c : Nat) (hx : Lies w xo X) (hb : base ≤ w.heap.size) (hn : L.length + X.length ≤ 1000000) (ty : TypeId) :
    ∃ v' w', (Builtin.append_ #[29, 29] ty #[v, .slice xo X.length c]).run Try.prog w = .ok v' w' ∧ w'.ownsRow base 9 1 v' (L ++ X).length (F.texts (L ++ X)) ∧ w.grownBy w' v.ownBlock := by
  obtain ⟨i0, hi, hz0, hz1, hz2⟩ := info_parts F.Try.info9
  by_cases h0 : X.length = 0
  · have hX : X = [] := List.length_eq_zero_iff.1 h0
    subst hX
    have hv : ∃ bo cap, v = .slice bo L.length cap ∧ L.length ≤ cap := by
      obtain ⟨_, h1⟩ := ho
      rcases h1 with ⟨rfl, h⟩ | ⟨g, cap, cur, rfl, _, _, h4, _⟩
      · exact ⟨none, 0, by rw [h], by omega⟩
      · exact ⟨_, _, rfl, h4⟩
    obtain ⟨bo, cap, rfl, hcap⟩ := hv
    refine ⟨_, w, run_append_nothing w 29 29 ty 9 i0 Try.underlying29 hi bo L.length cap hcap _ (src_nothing xo c _ w), by simpa using ho, ⟨rfl, rfl, rfl, Nat.le_refl _, fun _ _ _ => rfl⟩⟩
  · obtain ⟨b, off, rfl, hbl, hc⟩ := hx.resolve_left h0
    obtain ⟨v', w', h1, h2, h3, _⟩ := run_append_own (P := Try.prog) w base 29 ty 9 i0 (.string ⟨#[]⟩) 1 16 Try.underlying29 hi hz0 hz1 hz2 rfl (by decide) v L.length (F.texts L) ho ⟨b, off, none⟩ X.length c (F.texts X) (by simp [F.texts]) (by
        intro j u hj
        have hjl : j < X.length := by
          have := (List.getElem?_eq_some_iff.mp hj).1
          simpa [F.texts] using this
        have hu : u = .string ⟨X[j].toArray⟩ := by
          simp [F.texts, hjl] at hj
          exact hj.symm
        rw [Go.WideShapes.add_plain, hc j hjl, hu]) (by
        intro u hu
        simp [F.texts] at hu
        obtain ⟨a, _, rfl⟩ := hu
        rfl) (by unfold maxLen; omega) (by omega) hb
    refine ⟨v', w', h1, ?_, h3⟩
    rw [List.length_append]
    have : F.texts L ++ F.texts X = F.texts (L ++ X) := by simp [F.texts]
    rw [← this]; exact h2
end Go.Proofs.Ytpkeeoeghdmagaa
