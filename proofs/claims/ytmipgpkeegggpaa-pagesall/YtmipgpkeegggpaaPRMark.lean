-- PROVED: the reference's Mark.
import Derived.Test.YtmipgpkeegggpaaPRLive
import Derived.Deep.RegionLaw
namespace Go.Proofs.Ytmipgpkeegggpaa.P
open Go.RowKit
set_option linter.unusedVariables false
theorem alloc_drew_new (w : World) (o : Obj) : (w.alloc o).drew.heap[w.heap.size]? = some o := heap_alloc_new w o
theorem infoRB : (Try.prog.info? 55).map (fun i => (i.zero, i.size, i.bytes)) = some (some (.agg #[.slice none 0 0, .slice none 0 0, .bool false]), 3, 56) := by kernel_rfl
/-- An append whose run is known, as one step of a region that draws. -/
theorem step_append_ex {P : Program} {ops : Array Oper} {o : Oper} {a : Act} {w : World} {K : Act → World → Prop} {Q : Exit → Act → World → Prop} {E : Prop} (hgd : o.guard = none) (s x : Operand) (t : TypeId)
    (ho : o.op = .call { callee := .builtin .append, args := #[s, x], argTypes := #[t, t] }) (v y : Value) (hs : a.eval s = v) (hx : a.eval x = y) (R : Value → World → Prop)
    (hr : ∃ v' w', (Builtin.append_ #[t, t] o.type #[v, y]).run P w = .ok v' w' ∧ R v' w') (h : ∀ v' w', R v' w' → K (a.put o.dst v') w') :
    if Region.wanted o (yielded ops a.tmps) = true then Oper.wp P o a w K Q else E := by
  have hw : Region.wanted o (yielded ops a.tmps) = true := by simp [Region.wanted, hgd]
  rw [if_pos hw]
  obtain ⟨v', w', h1, h2⟩ := hr
  unfold Oper.wp execOp
  simp only [ho, resolve, invoke, builtin, Sem.run_bind, Sem.run_pure, Result.andThen_ok, List.map_toArray, List.map_cons, List.map_nil, hs, hx, h1]
  exact h v' w' h2
section
variable {base fB nx : Nat} {w : World} {rs : List Rb}
theorem rcells_snoc (rs : List Rb) (r : Rb) : rcells (rs ++ [r]) = rcells rs ++ [r.vC, r.vP, .bool r.gone] := by simp [rcells]
/-- What is known behind the append. -/
def MarkR (base fB : Nat) (w : World) (rs : List Rb) (r : Rb) (vv : Value) (v' : Value) (w' : World) : Prop :=
  ∃ a cap, v' = .slice a (rs.length + 1) cap ∧ Hid (w'.ownsRow base 55 3 (.slice a (rs.length + 1) cap) (rs.length + 1) (rcells (rs ++ [r]))) ∧ Hid (Keep [55] base w w') ∧ w'.cell? ⟨fB, 0, none⟩ = some vv ∧ w'.frozen? ⟨fB, 0, none⟩ = false ∧ fB < w'.heap.size
theorem Fam.push (h : Fam base w fB rs nx) (hB : base ≤ w.heap.size) {b : Nat} {r : Rb} (hr : rs[b]? = some r) {g cap : Nat} (hv : w.cell? ⟨fB, 0, none⟩ = some (.slice (some ⟨g, 0, none⟩) rs.length cap)) {W : World} (hW : Below w.heap.size w W) {tB : Nat} (ht : W.heap[tB]? = some (.cells #[r.vC, r.vP, .bool r.gone] 55 (0, 0))) (ty : TypeId) :
    ∃ v' w', (Builtin.append_ #[56, 56] ty #[.slice (some ⟨g, 0, none⟩) rs.length cap, .slice (some ⟨tB, 0, none⟩) 1 1]).run Try.prog W = .ok v' w' ∧ MarkR base fB w rs r (.slice (some ⟨g, 0, none⟩) rs.length cap) v' w' := by
  obtain ⟨i0, hi, hz0, hz1, hz2⟩ := info_parts infoRB
  obtain ⟨v, h1, h2⟩ := h.fam
  have hvv : v = .slice (some ⟨g, 0, none⟩) rs.length cap := by
    have := cellsOf h1 0
    rw [hv] at this
    simp at this
    exact this.symm
  subst hvv
  have hfew := h.few
  have k1 := keepB hB hW
  have c3 : W.ownsRow base 55 3 (.slice (some ⟨g, 0, none⟩) rs.length cap) rs.length (rcells rs) := own_same h2 fun g cur _ hg => hW.block g (heap_lt hg)
  obtain ⟨ca, cc, e1, -⟩ := (h.book b r hr).1
  obtain ⟨pa, pc, e2, -⟩ := (h.book b r hr).2.1
  obtain ⟨v', w3, hrn, ho, hg, _, hat⟩ := run_append_own_at (P := Try.prog) W base 56 ty 55 i0 (.agg #[.slice none 0 0, .slice none 0 0, .bool false]) 3 56 Try.underlying56 hi hz0 hz1 hz2 rfl (by decide) _ rs.length (rcells rs) c3 ⟨tB, 0, none⟩ 1 1 [r.vC, r.vP, .bool r.gone] rfl (by
      intro j u hj
      rw [Go.WideShapes.add_plain, Nat.zero_add, cellsOf ht]
      match j, hj with
      | 0, hj => simpa using hj
      | 1, hj => simpa using hj
      | 2, hj => simpa using hj) (by
      intro u hu
      simp at hu
      rcases hu with rfl | rfl | rfl
      · rw [e1]; rfl
      · rw [e2]; rfl
      · rfl) (by unfold maxLen; omega) (by omega) (Nat.le_trans hB hW.size)
  obtain ⟨a, cap3, rfl⟩ : ∃ a cap, v' = .slice a (rs.length + 1) cap := by
    rcases ho.2 with ⟨_, e⟩ | ⟨g, cap, cur, e, _⟩
    · omega
    · exact ⟨_, _, e⟩
  have hrowlt : ∀ k, (Value.slice (some ⟨g, 0, none⟩) rs.length cap).ownBlock = some k → base ≤ k ∧ ∃ arr T fz, W.heap[k]? = some (.cells arr T fz) ∧ T ∈ [55] := fun k hk => by
    rcases c3.2 with ⟨e, _⟩ | ⟨g', cap', cur, e, e1, e2, _⟩
    · rw [e] at hk; simp [Value.ownBlock] at hk
    · rw [e] at hk; simp [Value.ownBlock] at hk; subst hk; exact ⟨e1, cur, _, _, e2, by simp⟩
  have k3 : Keep [55] base W w3 := (Keep.refl _ _ _).grown hg (Nat.le_trans hB hW.size) hrowlt
  have kk := (k1.mono (S' := [55]) (by simp)).trans k3
  have hf3 := (kk.same _ _ _ _ h1 (by simp)).trans h1
  exact ⟨_, w3, hrn, a, cap3, rfl, (show World.ownsRow _ _ _ _ _ _ _ from by rw [rcells_snoc]; exact ho), kk, cellsOf hf3 0, by simp [World.frozen?, hf3], heap_lt hf3⟩
theorem Fam.marked (h : Fam base w fB rs nx) {b : Nat} {r : Rb} (hr : rs[b]? = some r) (hl : rs.length < 1000) {w' : World} {a : Option Addr} {cap : Nat} (ho : w'.ownsRow base 55 3 (.slice a (rs.length + 1) cap) (rs.length + 1) (rcells (rs ++ [r]))) (k : Keep [55] base w w') :
    Fam base (w'.setCell ⟨fB, 0, none⟩ (.slice a (rs.length + 1) cap)) fB (rs ++ [r]) nx ∧ Keep [58, 55] base w (w'.setCell ⟨fB, 0, none⟩ (.slice a (rs.length + 1) cap)) := by
  obtain ⟨v, h1, h2⟩ := h.fam
  have e1 := (k.same _ _ _ _ h1 (by simp)).trans h1
  have kk : Keep [58] base w' (w'.setCell ⟨fB, 0, none⟩ (.slice a (rs.length + 1) cap)) := (Keep.refl _ _ _).set e1 (by simp) h.low _
  have k2 := (k.mono (S' := [58, 55]) (by simp)).trans (kk.mono (by simp))
  refine ⟨⟨h.low, ⟨_, Lib.heap_setCell_same e1 _, ?_⟩, fun j c hc => ?_, by simp; omega⟩, k2⟩
  · rw [List.length_append]; exact own_same ho fun g cur _ hg => kk.same _ _ _ _ hg (by simp)
  · have : ∃ (j' : Nat), rs[j']? = some c := by
      rcases Nat.lt_or_ge j rs.length with hl | hl
      · rw [List.getElem?_append_left hl] at hc; exact ⟨j, hc⟩
      · rw [List.getElem?_append_right hl] at hc
        by_cases e : j - rs.length = 0
        · rw [e] at hc; simp at hc; subst hc; exact ⟨b, hr⟩
        · rw [List.getElem?_eq_none (by simp; omega)] at hc; cases hc
    obtain ⟨j', hj'⟩ := this
    obtain ⟨g1, g2, g3⟩ := h.book j' c hj'
    exact ⟨g1.keep k2 (by simp) (by simp [Mine]), g2.keep k2 (by simp), g3⟩
set_option maxRecDepth 100000 in
set_option maxHeartbeats 4000000 in
theorem rmark_any (h : Fam base w fB rs nx) (hB : base ≤ w.heap.size) (hl : rs.length < 1000) {b : Nat} {r : Rb} (hr : rs[b]? = some r) :
    Calls Try.prog 31 #[.pointer (some ⟨fB, 0, none⟩), .int .i64 (b : Int)] w fun e w' => e = .returned (.tuple #[]) ∧ Fam base w' fB (rs ++ [r]) nx ∧ Keep [58, 55] base w w' := by
  obtain ⟨g, cap, c0, c1, lf, fz1, fz0, hbl, hcap, -, hgl, g0, g1, g2, hfz, -, -⟩ := h.at_ hr
  obtain ⟨ca, cc, e1, -⟩ := (h.book b r hr).1
  obtain ⟨pa, pc, e2, -⟩ := (h.book b r hr).2.1
  have hbl' : (b : Int) < (rs.length : Int) := by omega
  have hb0 : (0 : Int) ≤ (b : Int) := by omega
  have HP : Hid (∀ W tB, Below w.heap.size w W → W.heap[tB]? = some (.cells #[.slice ca r.cells.length cc, .slice pa r.pgs.length pc, .bool r.gone] 55 (0, 0)) → ∀ ty, ∃ v' w', (Builtin.append_ #[56, 56] ty #[.slice (some ⟨g, 0, none⟩) rs.length cap, .slice (some ⟨tB, 0, none⟩) 1 1]).run Try.prog W = .ok v' w' ∧ MarkR base fB w rs r (.slice (some ⟨g, 0, none⟩) rs.length cap) v' w') := fun W tB hW ht ty => h.push hB hr c0 hW (by rw [e1, e2]; exact ht) ty
  have HM : Hid (∀ (w' : World) (a : Option Addr) (cap : Nat), w'.ownsRow base 55 3 (.slice a (rs.length + 1) cap) (rs.length + 1) (rcells (rs ++ [r])) → Keep [55] base w w' → _) := fun w' a cap ho k => h.marked hr hl ho k (cap := cap)
  rw [e1] at g0
  rw [e2] at g1
  clear h e1 e2 hr
  go_enter Try.func31, Try.ntmps31
  go_wp2_with fail
  go_region_law ((refine step_append_ex (by rfl) _ _ 56 (by rfl) _ _ (by rfl) (by rfl) (MarkR base fB w rs r (.slice (some ⟨g, 0, none⟩) rs.length cap)) (HP.out _ _ (by first | exact (Below.refl _ _).alloc (Nat.le_refl _) _ | exact ((Below.refl _ _).alloc (Nat.le_refl _) _).drew | exact ((Below.refl _ _).drew.alloc (Nat.le_refl _) _) | exact ((Below.refl _ _).drew.alloc (Nat.le_refl _) _).drew) (by first | exact heap_alloc_new _ _ | exact alloc_drew_new _ _) _) ?_; rintro v' w7 ⟨a7, cap7, rfl, HO7, HK7, hc7, hf7, hl7⟩))
  all_goals
    go_end0
    exact ⟨rfl, HM.out _ _ _ HO7.out HK7.out⟩
end
end Go.Proofs.Ytmipgpkeegggpaa.P
