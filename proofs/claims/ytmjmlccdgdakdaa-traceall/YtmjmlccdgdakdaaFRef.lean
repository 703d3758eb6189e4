-- PROVED: the reference's 'PutFrame', 'AllFrames', 'Used' (3.1, 3.2).
import Derived.Test.YtmjmlccdgdakdaaTLies
import Derived.Test.YtmjmlccdgdakdaaVRefGet
import Derived.Test.YtmjmlccdgdakdaaCRefGet
import Derived.Maps.AppendAt
namespace Go.Proofs.Ytmjmlccdgdakdaa.Fm
theorem all_at_err {l : List UInt8} {p r : Nat} {L : List (List UInt8)} (hall : all l = (L ++ (all (l.drop p)).1, p + (all (l.drop p)).2.1, (all (l.drop p)).2.2)) (hp : p < l.length) (h : rec_ l p = ([], 0, r)) (hr : r ≠ 0) :
    all l = (L, p, r) := by
  have hdl : (l.drop p).length = l.length - p := List.length_drop
  have hne : l.drop p ≠ [] := fun h => by rw [h] at hdl; simp at hdl; omega
  have ho : (one (l.drop p)).2.2 = r := by
    unfold rec_ at h
    by_cases h0 : (one (l.drop p)).2.2 = 0
    · rw [if_pos h0] at h
      have := congrArg (·.2.2) h
      simp at this
      omega
    · rw [if_neg h0] at h
      exact congrArg (·.2.2) h
  rw [hall, all_err hne (by omega), ho]
  simp
theorem all_at_ok {l : List UInt8} {p q : Nat} {t : List UInt8} {L : List (List UInt8)} (hall : all l = (L ++ (all (l.drop p)).1, p + (all (l.drop p)).2.1, (all (l.drop p)).2.2)) (hp : p ≤ l.length) (h : rec_ l p = (t, q, 0)) :
    all l = ((L ++ [t]) ++ (all (l.drop q)).1, q + (all (l.drop q)).2.1, (all (l.drop q)).2.2) ∧ p + 5 ≤ q ∧ q ≤ l.length := by
  have hdl : (l.drop p).length = l.length - p := List.length_drop
  unfold rec_ at h
  by_cases h0 : (one (l.drop p)).2.2 = 0
  · rw [if_pos h0] at h
    have h1 : (one (l.drop p)).1 = t := congrArg (·.1) h
    have h2 : p + (one (l.drop p)).2.1 = q := congrArg (·.2.1) h
    have hk := one_ok h0
    refine ⟨?_, by omega, by omega⟩
    rw [hall, all_step h0, h1, List.drop_drop, h2]
    simp
    omega
  · rw [if_neg h0] at h
    exact absurd (congrArg (·.2.2) h) h0
end Go.Proofs.Ytmjmlccdgdakdaa.Fm
namespace Go.Proofs.Ytmjmlccdgdakdaa.F
open Go.RowKit
theorem Try.info3 : (Try.prog.info? 3).map (fun i => (i.zero, i.size, i.bytes)) = some (some (.int .i64 0), 1, 8) := by kernel_rfl
def ints (E : List Nat) : List Value := E.map fun (n : Nat) => .int .i64 (n : Int)
theorem ints_snoc (E : List Nat) (n : Nat) : ints E ++ [.int .i64 (n : Int)] = ints (E ++ [n]) := by simp [ints]
theorem heap_below {w w' : World} {g : Nat} {o : Obj} (h : w.heap[g]? = some o) (hb : Below w.heap.size w w') : w'.heap[g]? = some o := by
  have hg : g < w.heap.size := by
    rcases Nat.lt_or_ge g w.heap.size with hg | hg
    · exact hg
    · rw [Array.getElem?_eq_none hg] at h; cases h
  rw [hb.block g hg]; exact h
theorem own_set {w : World} {base n size : Nat} {e : TypeId} {v : Value} {xs : List Value} (h : w.ownsRow base e size v n xs) (a : Addr) (u : Value) (hb : ∀ g, v.ownBlock = some g → g ≠ a.block) : (w.setCell a u).ownsRow base e size v n xs := by
  obtain ⟨h0, h1⟩ := h
  refine ⟨h0, ?_⟩
  rcases h1 with h1 | ⟨g, cap, cur, h1, h2, h3, h4⟩
  · exact .inl h1
  · refine .inr ⟨g, cap, cur, h1, h2, ?_, h4⟩
    rw [Below.heap_setCell _ _ _ _ (hb g (by rw [h1]; rfl))]; exact h3
theorem blk3 {w : World} {b : Nat} {x y z : Value} {t : TypeId} (h : w.heap[b]? = some (.cells #[x, y, z] t)) :
    w.cell? ⟨b, 0, none⟩ = some x ∧ w.cell? ⟨b, 1, none⟩ = some y ∧ w.cell? ⟨b, 2, none⟩ = some z ∧
    w.frozen? ⟨b, 0, none⟩ = false ∧ w.frozen? ⟨b, 1, none⟩ = false ∧ w.frozen? ⟨b, 2, none⟩ = false ∧ b < w.heap.size := by
  have hg : b < w.heap.size := by
    rcases Nat.lt_or_ge b w.heap.size with hg | hg
    · exact hg
    · rw [Array.getElem?_eq_none hg] at h; cases h
  refine ⟨?_, ?_, ?_, ?_, ?_, ?_, hg⟩ <;> simp [World.cell?, World.frozen?, h]
/-- What is out so far: the result's cells, those of the variable, the two rows that it holds. -/
structure Outs (w W : World) (vL vE : Value) (L : List (List UInt8)) (E : List Nat) : Prop where
  bel : Below w.heap.size w W
  res : W.heap[w.heap.size]? = some (.cells #[.slice none 0 0, .slice none 0 0, .int .i64 0] 83)
  out : W.heap[w.heap.size + 1]? = some (.cells #[vL, vE, .int .i64 0] 83)
  ownL : W.ownsRow (w.heap.size + 2) 9 1 vL L.length (texts L)
  ownE : W.ownsRow (w.heap.size + 2) 3 1 vE E.length (ints E)
  apart : ∀ g, vL.ownBlock = some g → vE.ownBlock ≠ some g
  size : w.heap.size + 2 ≤ W.heap.size
theorem Outs.go {w W W' : World} {vL vE : Value} {L : List (List UInt8)} {E : List Nat} (h : Outs w W vL vE L E) (hb : Below W.heap.size W W') : Outs w W' vL vE L E :=
  ⟨C.below_chain h.bel hb, heap_below h.res hb, heap_below h.out hb, own_below h.ownL hb, own_below h.ownE hb, h.apart, Nat.le_trans h.size hb.size⟩
theorem Outs.alloc {w W : World} {vL vE : Value} {L : List (List UInt8)} {E : List Nat} (h : Outs w W vL vE L E) (o : Obj) : Outs w (W.alloc o) vL vE L E :=
  h.go ((Below.refl _ _).alloc (Nat.le_refl _) o)
theorem Outs.drew {w W : World} {vL vE : Value} {L : List (List UInt8)} {E : List Nat} (h : Outs w W vL vE L E) : Outs w W.drew vL vE L E :=
  h.go (Below.refl _ _).drew
theorem Outs.addL {w W W' : World} {vL vE v : Value} {L : List (List UInt8)} {E : List Nat} {t : List UInt8} (h : Outs w W vL vE L E) (hg : W.grownBy W' vL.ownBlock) (ho : W'.ownsRow (w.heap.size + 2) 9 1 v (L.length + 1) (texts (L ++ [t])))
    (ha : v.ownBlock = vL.ownBlock ∨ v.ownBlock = some W.heap.size) : Outs w (W'.setCell ⟨w.heap.size + 1, 0, none⟩ v) v vE (L ++ [t]) E := by
  have hl := h.ownL.lt
  have he := h.ownE.lt
  have hv := ho.lt
  have hs := h.size
  have hblk : ∀ g, g < w.heap.size + 2 → W'.heap[g]? = W.heap[g]? := fun g hg1 => hg.block g (by omega) (fun e => by have := (hl g e.symm).1; omega)
  refine ⟨?_, ?_, ?_, ?_, ?_, ?_, ?_⟩
  · exact ((h.bel.grown hg (by omega) (fun k hk => by have := (hl k hk).1; omega)).setCell (by simp) _)
  · rw [Below.heap_setCell _ _ _ _ (by simp), hblk _ (by omega)]; exact h.res
  · have := Lib.heap_setCell_same (w := W') (b := w.heap.size + 1) (i := 0) ((hblk _ (by omega)).trans h.out) v
    rw [this]; rfl
  · rw [List.length_append]
    exact own_set ho _ _ (fun g hg => by have := (hv g hg).1; simp; omega)
  · refine own_set (h.ownE.kept hg ?_) _ _ (fun g hg => by have := (he g hg).1; simp; omega)
    rcases hvE : vE.ownBlock with _ | g
    · exact .inl rfl
    · exact .inr (fun e => h.apart g e.symm hvE)
  · intro g hg1 hg2
    rcases ha with ha | ha
    · exact h.apart g (ha ▸ hg1) hg2
    · rw [ha] at hg1
      have := (he g hg2).2
      cases hg1
      omega
  · have := hg.size
    simp [World.setCell]
    omega
theorem Outs.addE {w W W' : World} {vL vE v : Value} {L : List (List UInt8)} {E : List Nat} {t : Nat} (h : Outs w W vL vE L E) (hg : W.grownBy W' vE.ownBlock) (ho : W'.ownsRow (w.heap.size + 2) 3 1 v (E.length + 1) (ints (E ++ [t])))
    (ha : v.ownBlock = vE.ownBlock ∨ v.ownBlock = some W.heap.size) : Outs w (W'.setCell ⟨w.heap.size + 1, 1, none⟩ v) vL v L (E ++ [t]) := by
  have hl := h.ownL.lt
  have he := h.ownE.lt
  have hv := ho.lt
  have hs := h.size
  have hblk : ∀ g, g < w.heap.size + 2 → W'.heap[g]? = W.heap[g]? := fun g hg1 => hg.block g (by omega) (fun e => by have := (he g e.symm).1; omega)
  refine ⟨?_, ?_, ?_, ?_, ?_, ?_, ?_⟩
  · exact ((h.bel.grown hg (by omega) (fun k hk => by have := (he k hk).1; omega)).setCell (by simp) _)
  · rw [Below.heap_setCell _ _ _ _ (by simp), hblk _ (by omega)]; exact h.res
  · have := Lib.heap_setCell_same (w := W') (b := w.heap.size + 1) (i := 1) ((hblk _ (by omega)).trans h.out) v
    rw [this]; rfl
  · refine own_set (h.ownL.kept hg ?_) _ _ (fun g hg => by have := (hl g hg).1; simp; omega)
    rcases hvL : vL.ownBlock with _ | g
    · exact .inl rfl
    · exact .inr (fun e => h.apart g hvL e.symm)
  · rw [List.length_append]
    exact own_set ho _ _ (fun g hg => by have := (hv g hg).1; simp; omega)
  · intro g hg1 hg2
    rcases ha with ha | ha
    · exact h.apart g hg1 (ha ▸ hg2)
    · rw [ha] at hg2
      have := (hl g hg1).2
      cases hg2
      omega
  · have := hg.size
    simp [World.setCell]
    omega
theorem Outs.outL {w W W' : World} {vL vE : Value} {L : List (List UInt8)} {E : List Nat} (h : Outs w W vL vE L E) (hg : W.grownBy W' vL.ownBlock) : W'.heap[w.heap.size + 1]? = some (.cells #[vL, vE, .int .i64 0] 83) := by
  have hs := h.size
  rw [hg.block (w.heap.size + 1) (by omega) (fun e => by have := (h.ownL.lt _ e.symm).1; omega)]; exact h.out
theorem Outs.outE {w W W' : World} {vL vE : Value} {L : List (List UInt8)} {E : List Nat} (h : Outs w W vL vE L E) (hg : W.grownBy W' vE.ownBlock) : W'.heap[w.heap.size + 1]? = some (.cells #[vL, vE, .int .i64 0] 83) := by
  have hs := h.size
  rw [hg.block (w.heap.size + 1) (by omega) (fun e => by have := (h.ownE.lt _ e.symm).1; omega)]; exact h.out
theorem one_cell3 (w : World) (a : Addr) (u x : Value) (t : TypeId) : ∀ j y, [x][j]? = some y → ((w.setCell a u).alloc (.cells #[x] t)).cell? ((⟨w.heap.size, 0, none⟩ : Addr).add j) = some y := by
  have := V.one_cell (w.setCell a u) x t
  rw [C.setCell_size] at this
  exact this
end Go.Proofs.Ytmjmlccdgdakdaa.F
