-- PROVED: lists that are copied; a cell with lists of its own.
import Derived.Test.YtmipgpkeegggpaaPSplit
import Derived.Deep.Upon
import Derived.OwnWalk
namespace Go.Proofs.Ytmipgpkeegggpaa.P
open Go.RowKit
set_option linter.unusedVariables false
theorem info9 : (Try.prog.info? 9).map (fun i => (i.zero, i.size, i.bytes)) = some (some (.string ⟨#[]⟩), 1, 16) := by kernel_rfl
theorem infoPP : (Try.prog.info? 87).map (fun i => (i.zero, i.size, i.bytes)) = some (some (.pointer none), 1, 8) := by kernel_rfl
theorem infoVL : (Try.prog.info? 46).map (fun i => (i.zero, i.size, i.bytes)) = some (some (.agg #[.int .i64 0, .int .i64 0, .string ⟨#[]⟩]), 3, 32) := by kernel_rfl
/-- An append whose run is known, guarded or not. -/
theorem wpList_append_run {P : Program} {ops : Array Oper} {rest : List Oper} {o : Oper} {a : Act} {w : World} {Q : Exit → Act → World → Prop} (s x : Operand) (t : TypeId) (hw : Region.wanted o (yielded ops a.tmps) = true)
    (ho : o.op = .call { callee := .builtin .append, args := #[s, x], argTypes := #[t, t] }) (v y v' : Value) (w' : World) (hs : a.eval s = v) (hx : a.eval x = y) (hr : (Builtin.append_ #[t, t] o.type #[v, y]).run P w = .ok v' w')
    (h : wpList P ops Q rest (a.put o.dst v') w') : wpList P ops Q (o :: rest) a w := by
  refine wpList_step fun K hK => ?_
  rw [if_pos hw]
  unfold Oper.wp execOp
  simp only [ho, resolve, invoke, builtin, Sem.run_bind, Sem.run_pure, Result.andThen_ok, List.map_toArray, List.map_cons, List.map_nil, hs, hx, hr]
  exact hK _ _ h
theorem src_nothing {t e : TypeId} (ht : Try.prog.underlying t = some (.slice e)) (xo : Option Addr) (c : Nat) (size : Nat) (w : World) : Src Try.prog size t (.slice xo 0 c) 0 [] w :=
  ⟨.inl ⟨e, ht⟩, fun w' => by simp [Builtin.lenOf], by cases xo <;> simp [Builtin.firstCells, loadCells, loadCellsFrom], by cases xo <;> simp [Builtin.firstCells, loadCells, loadCellsFrom], by simp, by simp⟩
/-- A list is copied. -/
theorem run_copy {t e : TypeId} {z : Value} {size bytes : Nat} (ht : Try.prog.underlying t = some (.slice e)) (hinf : (Try.prog.info? e).map (fun i => (i.zero, i.size, i.bytes)) = some (some z, size, bytes)) (hzs : z.cells.size = size) (hsz : 0 < size) (hby : bytes ≤ 1000)
    {w : World} {m : Nat} {news : List Value} (xo : Option Addr) (c : Nat) (hm : m ≤ 100000) (hl : news.length = m * size) (h1 : ∀ u ∈ news, u.oneCell' = true) (hx : m = 0 ∨ ∃ b off, xo = some ⟨b, off, none⟩ ∧ ∀ j u, news[j]? = some u → w.cell? ⟨b, off + j, none⟩ = some u) (ty : TypeId) :
    ∃ v' w', (Builtin.append_ #[t, t] ty #[.slice none 0 0, .slice xo m c]).run Try.prog w = .ok v' w' ∧ w'.ownsRow w.heap.size e size v' m news ∧ Below w.heap.size w w' := by
  obtain ⟨i0, hi, hz0, hz1, hz2⟩ := info_parts hinf
  by_cases h0 : m = 0
  · subst h0
    have hX : news = [] := List.length_eq_zero_iff.1 (by simpa using hl)
    subst hX
    exact ⟨_, w, run_append_nothing w t t ty e i0 ht hi none 0 0 (Nat.le_refl _) _ (src_nothing ht xo c _ w), World.ownsRow_nil _ _ _ _, Below.refl _ _⟩
  · obtain ⟨b, off, rfl, hc⟩ := hx.resolve_left h0
    have hmb : (0 + m) * bytes ≤ 140737488355328 := by
      have : (0 + m) * bytes ≤ 100000 * 1000 := Nat.mul_le_mul (by omega) hby
      omega
    obtain ⟨v', w', g1, g2, g3, _⟩ := run_append_own (P := Try.prog) w w.heap.size t ty e i0 z size bytes ht hi hz0 hz1 hz2 hzs hsz (.slice none 0 0) 0 [] (World.ownsRow_nil _ _ _ _) ⟨b, off, none⟩ m c news hl (by
        intro j u hj
        rw [Go.WideShapes.add_plain]; exact hc j u hj) h1 (by unfold maxLen; omega) hmb (Nat.le_refl _)
    refine ⟨v', w', g1, by simpa using g2, (Below.refl _ _).grown g3 (Nat.le_refl _) (by simp [Value.ownBlock])⟩
theorem own_fixed {base : Nat} {w : World} {B n size : Nat} {e : TypeId} {v : Value} {xs : List Value} (h : w.ownsRow B e size v n xs) (he : ¬ Mine e) (h0 : 0 < n) : ∃ g cap, v = .slice (some ⟨g, 0, none⟩) n cap ∧ n ≤ cap ∧ Fixed base w g ∧ B ≤ g ∧ ∀ j u, xs[j]? = some u → w.cell? ⟨g, j, none⟩ = some u := by
  have hc := fun g hg => h.cells (g := g) hg
  obtain ⟨_, h1⟩ := h
  rcases h1 with ⟨rfl, rfl⟩ | ⟨g, cap, cur, rfl, h2, h3, h4, _⟩
  · omega
  · refine ⟨g, cap, rfl, h4, .inr ⟨cur, e, (0, 0), h3, he⟩, h2, fun j u hj => ?_⟩
    have := hc g rfl j u hj
    rw [Go.WideShapes.add_plain, Nat.zero_add] at this
    exact this
theorem own_null {w : World} {B size : Nat} {e : TypeId} {v : Value} {xs : List Value} (h : w.ownsRow B e size v 0 xs) : ∃ a cap, v = .slice a 0 cap := by
  rcases h.2 with ⟨rfl, _⟩ | ⟨g, cap, cur, rfl, _⟩
  · exact ⟨_, _, rfl⟩
  · exact ⟨_, _, rfl⟩
def strs (L : List ByteArray) : List Value := L.map .string
def vcells (L : List Vl) : List Value := L.flatMap fun v => [.int .i64 v.kind, .int .i64 v.n, .string v.s]
theorem vcells_length (L : List Vl) : (vcells L).length = L.length * 3 := by
  induction L with
  | nil => rfl
  | cons v L ih => simp only [vcells, List.flatMap_cons, List.length_append] at ih ⊢; rw [ih]; simp; omega
theorem vcells_at : ∀ (L : List Vl) (j : Nat) (h : j < L.length), (vcells L)[j * 3]? = some (.int .i64 L[j].kind) ∧ (vcells L)[j * 3 + 1]? = some (.int .i64 L[j].n) ∧ (vcells L)[j * 3 + 2]? = some (.string L[j].s)
  | [], j, h => by simp at h
  | r :: L, 0, _ => by simp [vcells]
  | r :: L, j + 1, h => by
    have e : vcells (r :: L) = [.int .i64 r.kind, .int .i64 r.n, .string r.s] ++ vcells L := rfl
    have ih := vcells_at L j (by simpa using h)
    rw [e]
    rw [List.getElem?_append_right (by simp; omega), List.getElem?_append_right (by simp; omega), List.getElem?_append_right (by simp; omega)]
    simp only [List.length_cons, List.length_nil, List.getElem_cons_succ]
    rw [show (j + 1) * 3 - (0 + 1 + 1 + 1) = j * 3 by omega, show (j + 1) * 3 + 1 - (0 + 1 + 1 + 1) = j * 3 + 1 by omega, show (j + 1) * 3 + 2 - (0 + 1 + 1 + 1) = j * 3 + 2 by omega]
    exact ih
theorem vcells_of {w : World} {b off : Nat} {L : List Vl} (h : ∀ j (h : j < L.length), w.cell? ⟨b, off + j * 3, none⟩ = some (.int .i64 L[j].kind) ∧ w.cell? ⟨b, off + j * 3 + 1, none⟩ = some (.int .i64 L[j].n) ∧ w.cell? ⟨b, off + j * 3 + 2, none⟩ = some (.string L[j].s)) :
    ∀ j u, (vcells L)[j]? = some u → w.cell? ⟨b, off + j, none⟩ = some u := by
  intro j u hj
  have hl := (List.getElem?_eq_some_iff.1 hj).1
  rw [vcells_length] at hl
  have hq : j / 3 < L.length := by omega
  obtain ⟨a0, a1, a2⟩ := vcells_at L (j / 3) hq
  obtain ⟨c0, c1, c2⟩ := h (j / 3) hq
  have hr : j % 3 = 0 ∨ j % 3 = 1 ∨ j % 3 = 2 := by omega
  rcases hr with hr | hr | hr
  · have e : j = j / 3 * 3 := by omega
    rw [e, a0] at hj
    rw [← Option.some.inj hj, show off + j = off + j / 3 * 3 by omega]; exact c0
  · have e : j = j / 3 * 3 + 1 := by omega
    rw [e, a1] at hj
    rw [← Option.some.inj hj, show off + j = off + j / 3 * 3 + 1 by omega]; exact c1
  · have e : j = j / 3 * 3 + 2 := by omega
    rw [e, a2] at hj
    rw [← Option.some.inj hj, show off + j = off + j / 3 * 3 + 2 by omega]; exact c2
theorem copyS_any {base : Nat} {w : World} {v : Value} {L : List ByteArray} (h : Texts base w v L) (hL : L.length ≤ 1000) :
    Calls Try.prog 56 #[v] w fun e w' => ∃ v', e = .returned v' ∧ Texts base w' v' L ∧ Below w.heap.size w w' := by
  obtain ⟨a, cap, rfl, hcap, hx⟩ := h
  obtain ⟨v', w', hr, ho, hb⟩ := run_copy (t := 27) (news := strs L) Try.underlying27 info9 rfl (by decide) (by decide) (w := w) (m := L.length) a cap (by omega) (by simp [strs]) (by
    intro u hu
    simp [strs] at hu
    obtain ⟨s, _, rfl⟩ := hu
    rfl) (hx.imp id fun ⟨b, off, h1, _, h3⟩ => ⟨b, off, h1, fun j u hj => by
      have hl : j < L.length := by have := (List.getElem?_eq_some_iff.1 hj).1; simpa [strs] using this
      rw [h3 j hl]
      simp [strs, hl] at hj
      rw [hj]⟩) 27
  have HT : Hid (Texts base w' v' L) := by
    by_cases h0 : L.length = 0
    · rw [h0] at ho
      obtain ⟨a', c', rfl⟩ := own_null ho
      exact ⟨a', c', by rw [h0], by omega, .inl h0⟩
    · obtain ⟨g, c', rfl, h1, h2, _, h3⟩ := own_fixed (base := base) ho (by simp [Mine]) (by omega)
      exact ⟨_, c', rfl, h1, .inr ⟨g, 0, rfl, h2, fun j hj => by rw [Nat.zero_add]; exact h3 j _ (by simp [strs, hj])⟩⟩
  clear hx ho hcap
  generalize L.length = n at *
  go_enter Try.func56, Try.ntmps56
  go_wp2_with (at_builtin; refine wpList_append_run _ _ 27 rfl rfl _ _ _ _ rfl rfl hr ?_)
  go_ret
  exact ⟨_, rfl, HT.out, hb⟩
theorem copyV_any {base : Nat} {w : World} {v : Value} {L : List Vl} (h : Vals base w v L) (hL : L.length ≤ 1000) :
    Calls Try.prog 57 #[v] w fun e w' => ∃ v', e = .returned v' ∧ Vals base w' v' L ∧ Below w.heap.size w w' := by
  obtain ⟨a, cap, rfl, hcap, hx⟩ := h
  obtain ⟨v', w', hr, ho, hb⟩ := run_copy (t := 28) (news := vcells L) Try.underlying28 infoVL rfl (by decide) (by decide) (w := w) (m := L.length) a cap (by omega) (vcells_length L) (by
    intro u hu
    simp [vcells] at hu
    obtain ⟨s, _, rfl | rfl | rfl⟩ := hu <;> rfl) (hx.imp id fun ⟨b, off, h1, _, h3⟩ => ⟨b, off, h1, vcells_of h3⟩) 28
  have HT : Hid (Vals base w' v' L) := by
    by_cases h0 : L.length = 0
    · rw [h0] at ho
      obtain ⟨a', c', rfl⟩ := own_null ho
      exact ⟨a', c', by rw [h0], by omega, .inl h0⟩
    · obtain ⟨g, c', rfl, h1, h2, _, h3⟩ := own_fixed (base := base) ho (by simp [Mine]) (by omega)
      refine ⟨_, c', rfl, h1, .inr ⟨g, 0, rfl, h2, fun j hj => ?_⟩⟩
      obtain ⟨a0, a1, a2⟩ := vcells_at L j hj
      rw [Nat.zero_add]
      exact ⟨h3 _ _ a0, h3 _ _ a1, h3 _ _ a2⟩
  clear hx ho hcap
  generalize L.length = n at *
  go_enter Try.func57, Try.ntmps57
  go_wp2_with (at_builtin; refine wpList_append_run _ _ 28 rfl rfl _ _ _ _ rfl rfl hr ?_)
  go_ret
  exact ⟨_, rfl, HT.out, hb⟩
theorem copyP_any {base : Nat} {w : World} {v : Value} {l : List Nat} (h : w.ownsRow base 87 1 v l.length (ptrs l)) (hL : l.length ≤ 1000) :
    Calls Try.prog 48 #[v] w fun e w' => ∃ v', e = .returned v' ∧ w'.ownsRow w.heap.size 87 1 v' l.length (ptrs l) ∧ Below w.heap.size w w' := by
  obtain ⟨a, cap, rfl, hx⟩ : ∃ a cap, v = .slice a l.length cap ∧ (l.length = 0 ∨ ∃ b off, a = some ⟨b, off, none⟩ ∧ ∀ j u, (ptrs l)[j]? = some u → w.cell? ⟨b, off + j, none⟩ = some u) := by
    have hc := fun g hg => h.cells (g := g) hg
    rcases h.2 with ⟨rfl, h0⟩ | ⟨g, cap, cur, rfl, _⟩
    · exact ⟨none, 0, by rw [h0], .inl h0⟩
    · refine ⟨_, cap, rfl, .inr ⟨g, 0, rfl, fun j u hj => ?_⟩⟩
      have := hc g rfl j u hj
      rw [Go.WideShapes.add_plain] at this
      exact this
  obtain ⟨v', w', hr, ho, hb⟩ := run_copy (t := 84) (news := ptrs l) Try.underlying84 infoPP rfl (by decide) (by decide) (w := w) (m := l.length) a cap (by omega) (by simp [ptrs]) (by
    intro u hu
    simp [ptrs] at hu
    obtain ⟨s, _, rfl⟩ := hu
    rfl) hx 84
  have HT : Hid (w'.ownsRow w.heap.size 87 1 v' l.length (ptrs l)) := ho
  clear hx ho h
  generalize l.length = n at *
  go_enter Try.func48, Try.ntmps48
  go_wp2_with (at_builtin; refine wpList_append_run _ _ 84 rfl rfl _ _ _ _ rfl rfl hr ?_)
  go_ret
  exact ⟨_, rfl, HT.out, hb⟩
end Go.Proofs.Ytmipgpkeegggpaa.P
