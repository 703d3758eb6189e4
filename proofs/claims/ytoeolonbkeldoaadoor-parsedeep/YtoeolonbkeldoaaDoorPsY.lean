/- The parser's contracts by what its functions tell of a state; kids, names, boxes beside the reader. -/
import Derived.Test.YtoeolonbkeldoaaDoorPsJ
import Derived.Test.YtoeolonbkeldoaaDoorPsK
import Derived.Test.YtoeolonbkeldoaaDoorPsH
namespace Go.Proofs.YtoeolonbkeldoaaDoor.R
open Go.RowKit
open L (tkA own_block own_below cells5h)
set_option linter.unusedVariables false
/-- At s a function tells r and leaves s'; nodes are not too many. -/
structure Ru {α : Type} (f : Ps.M α) (s : Ps.St) (r : α) (s' : Ps.St) : Prop where
  eq : f s = (r, s')
  small : s'.nodes.length ≤ 1000000000
theorem Ru.back {α : Type} {f : Ps.M α} {s : Ps.St} {r : α} {s' : Ps.St} (h : Ru f s r s') (g : Ps.Gr f) : s.nodes.length ≤ 1000000000 := by
  have := g s
  rw [h.eq] at this
  exact Nat.le_trans this h.small
theorem Ru.mk' {α : Type} {f : Ps.M α} {s : Ps.St} (n : (f s).2.nodes.length ≤ 1000000000) : Ru f s (f s).1 (f s).2 := ⟨rfl, n⟩
/-- Back along a step. -/
theorem gb {α : Type} {f : Ps.M α} {s : Ps.St} {r : α} {s' : Ps.St} (g : Ps.Gr f) (e : f s = (r, s')) (n : s'.nodes.length ≤ 1000000000) : s.nodes.length ≤ 1000000000 := (Ru.mk e n).back g
/-- A call ends with a value and leaves the reader in a state. -/
def Tells (F : Nat → Prop) (base B dep : Nat) (nv : Value) (w : World) (s' : Ps.St) (v : Value) : Ending → World → Prop := fun e w' => e = .returned v ∧ Leaves F base B dep nv w s' w'
section
variable {F : Nat → Prop} {base B dep : Nat} {s s' : Ps.St} {nv : Value} {w : World}
theorem c_next (h : RS F base B dep s nv w) : Calls Tryd.prog 13 #[.pointer (some ⟨B, 0, none⟩)] w (Tells F base B dep nv w s (.agg (tkA (Ps.nxt s)))) := by
  refine (next_any h).mono ?_
  rintro e w' ⟨rfl, hb⟩
  exact ⟨rfl, nv, h.below hb, Chg.below nv hb⟩
theorem c_mark (h : RS F base B dep s nv w) : Calls Tryd.prog 30 #[.pointer (some ⟨B, 0, none⟩)] w (Tells F base B dep nv w s (.string ⟨(Ps.mark s).toArray⟩)) := by
  refine (mark_any h).mono ?_
  rintro e w' ⟨rfl, hb⟩
  exact ⟨rfl, nv, h.below hb, Chg.below nv hb⟩
theorem c_closes (h : RS F base B dep s nv w) : Calls Tryd.prog 18 #[.pointer (some ⟨B, 0, none⟩)] w (Tells F base B dep nv w s (.bool (Ps.closes s))) := by
  refine (closes_any h).mono ?_
  rintro e w' ⟨rfl, hb⟩
  exact ⟨rfl, nv, h.below hb, Chg.below nv hb⟩
theorem c_skip {T : Lx.Tk} (E : Ru Ps.skip s T s') (h : RS F base B dep s nv w) : Calls Tryd.prog 62 #[.pointer (some ⟨B, 0, none⟩)] w (Tells F base B dep nv w s' (.agg (tkA T))) := by
  have e1 : Ps.nxt s = T := congrArg Prod.fst E.eq
  have e2 : (Ps.skip s).2 = s' := congrArg Prod.snd E.eq
  refine (skip_any h).mono ?_
  rintro e w' ⟨rfl, hr, hc⟩
  rw [e2] at hr
  exact ⟨by rw [e1], nv, hr, hc⟩
theorem c_take {b : Bool} {m : List UInt8} (E : Ru (Ps.take m) s b s') (h : RS F base B dep s nv w) : Calls Tryd.prog 65 #[.pointer (some ⟨B, 0, none⟩), .string ⟨m.toArray⟩] w (Tells F base B dep nv w s' (.bool b)) := by
  have e1 : (Ps.take m s).1 = b := congrArg Prod.fst E.eq
  have e2 : (Ps.take m s).2 = s' := congrArg Prod.snd E.eq
  refine (take_any h m).mono ?_
  rintro e w' ⟨rfl, hr, hc⟩
  rw [e2] at hr
  exact ⟨by rw [e1], nv, hr, hc⟩
theorem c_want {u : Unit} {m : List UInt8} (E : Ru (Ps.want m) s u s') (h : RS F base B dep s nv w) : Calls Tryd.prog 68 #[.pointer (some ⟨B, 0, none⟩), .string ⟨m.toArray⟩] w (Tells F base B dep nv w s' (.tuple #[])) := by
  have e2 : (Ps.want m s).2 = s' := congrArg Prod.snd E.eq
  have := want_any h (E.back (Ps.gr_want m)) m
  rw [e2] at this
  exact this
theorem c_name {t : List UInt8} (E : Ru Ps.name s t s') (h : RS F base B dep s nv w) : Calls Tryd.prog 69 #[.pointer (some ⟨B, 0, none⟩)] w (Tells F base B dep nv w s' (.string ⟨t.toArray⟩)) := by
  have := name_any h (E.back Ps.gr_name)
  rw [E.eq] at this
  exact this
theorem c_endS {u : Unit} (E : Ru Ps.endS s u s') (h : RS F base B dep s nv w) : Calls Tryd.prog 66 #[.pointer (some ⟨B, 0, none⟩)] w (Tells F base B dep nv w s' (.tuple #[])) := by
  have := endS_any h (E.back Ps.gr_endS)
  rw [E.eq] at this
  exact this
theorem c_fail {r : Nat} (E : Ru Ps.fail s r s') (h : RS F base B dep s nv w) : Calls Tryd.prog 14 #[.pointer (some ⟨B, 0, none⟩)] w (Tells F base B dep nv w s' (.int .i64 (r : Int))) := by
  have e1 : s.nodes.length = r := by
    have e0 : (Ps.fail s).1 = r := congrArg Prod.fst E.eq
    rw [← e0]; unfold Ps.fail; split <;> rfl
  have e2 : (Ps.fail s).2 = s' := congrArg Prod.snd E.eq
  have := fail_any h (E.back Ps.gr_fail)
  rw [e1, e2] at this
  exact this
theorem c_leaf {r k n : Nat} {t : List UInt8} (E : Ru (Ps.leaf { k := k, n := n, t := t }) s r s') (h : RS F base B dep s nv w) : Calls Tryd.prog 90 #[.pointer (some ⟨B, 0, none⟩), .agg #[.int .i64 (k : Int), .int .i64 (n : Int), .string ⟨t.toArray⟩, .slice none 0 0, .slice none 0 0, .int .i64 0]] w (Tells F base B dep nv w s' (.int .i64 (r : Int))) := by
  have e1 : s.nodes.length = r := by
    have e0 : (Ps.leaf { k := k, n := n, t := t } s).1 = r := congrArg Prod.fst E.eq
    rw [← e0]; show _ = (Ps.skip s).2.nodes.length; rw [skip_nodes]
  have e2 : (Ps.leaf { k := k, n := n, t := t } s).2 = s' := congrArg Prod.snd E.eq
  have := leaf_any h (E.back (Ps.gr_leaf _)) k n t
  rw [e1, e2] at this
  exact this
theorem c_e {L : Ps.Lv} (hL : ∀ F, LvC F base B dep L) {r : Nat} (E : Ru L.e s r s') (h : RS F base B dep s nv w) : Calls Tryd.prog 67 #[.pointer (some ⟨B, 0, none⟩)] w (Tells F base B dep nv w s' (.int .i64 (r : Int))) := by
  have := (hL F).e h (by rw [E.eq]; exact E.small)
  rw [E.eq] at this
  exact this
theorem c_u {L : Ps.Lv} (hL : ∀ F, LvC F base B dep L) {r : Nat} (E : Ru L.u s r s') (h : RS F base B dep s nv w) : Calls Tryd.prog 85 #[.pointer (some ⟨B, 0, none⟩)] w (Tells F base B dep nv w s' (.int .i64 (r : Int))) := by
  have := (hL F).u h (by rw [E.eq]; exact E.small)
  rw [E.eq] at this
  exact this
theorem c_s {L : Ps.Lv} (hL : ∀ F, LvC F base B dep L) {r : Nat} (E : Ru L.s s r s') (h : RS F base B dep s nv w) : Calls Tryd.prog 19 #[.pointer (some ⟨B, 0, none⟩)] w (Tells F base B dep nv w s' (.int .i64 (r : Int))) := by
  have := (hL F).s h (by rw [E.eq]; exact E.small)
  rw [E.eq] at this
  exact this
theorem c_inParens {L : Ps.Lv} (hL : ∀ F, LvC F base B dep L) {r : Nat} (E : Ru (Ps.inParens L) s r s') (h : RS F base B dep s nv w) : Calls Tryd.prog 63 #[.pointer (some ⟨B, 0, none⟩)] w (Tells F base B dep nv w s' (.int .i64 (r : Int))) := by
  have := inParens_any (hL F) h (by rw [E.eq]; exact E.small)
  rw [E.eq] at this
  exact this
theorem c_exprS {L : Ps.Lv} (hL : ∀ F, LvC F base B dep L) (hI : Ps.IxL L) {r : Nat} (E : Ru (Ps.exprS L) s r s') (h : RS F base B dep s nv w) : Calls Tryd.prog 56 #[.pointer (some ⟨B, 0, none⟩)] w (Tells F base B dep nv w s' (.int .i64 (r : Int))) := by
  have := exprS_any (hL F) h (by rw [E.eq]; exact E.small) (hI.e s)
  rw [E.eq] at this
  exact this
end
/-- Kids, names beside the reader. -/
structure KV (F : Nat → Prop) (B : Nat) (nv : Value) (W : World) (v : Value) (K : List Nat) : Prop where
  kids : KidsIn W v K
  ap : Apart F B nv v
  lt : ∀ k, blockOf v = some k → k < W.heap.size
  one : v.oneCell' = true
structure NV (F : Nat → Prop) (B : Nat) (nv : Value) (W : World) (v : Value) (K : List (List UInt8)) : Prop where
  names : NamesIn W v K
  ap : Apart F B nv v
  lt : ∀ k, blockOf v = some k → k < W.heap.size
  one : v.oneCell' = true
theorem KV.nil (F : Nat → Prop) (B : Nat) (nv : Value) (W : World) : KV F B nv W (.slice none 0 0) [] := ⟨⟨none, 0, rfl, Nat.le_refl _, .inl rfl⟩, (fun _ h => nomatch h), (fun _ h => nomatch h), rfl⟩
theorem NV.nil (F : Nat → Prop) (B : Nat) (nv : Value) (W : World) : NV F B nv W (.slice none 0 0) [] := ⟨⟨none, 0, rfl, Nat.le_refl _, .inl rfl⟩, (fun _ h => nomatch h), (fun _ h => nomatch h), rfl⟩
theorem KV.go {F : Nat → Prop} {B : Nat} {nv nv' v : Value} {W W' : World} {K : List Nat} (h : KV F B nv W v K) (c : Chg B nv nv' W W') : KV F B nv' W' v K := ⟨h.kids.go h.ap c, h.ap.go h.lt c, fun k hk => Nat.lt_of_lt_of_le (h.lt k hk) c.size, h.one⟩
theorem NV.go {F : Nat → Prop} {B : Nat} {nv nv' v : Value} {W W' : World} {K : List (List UInt8)} (h : NV F B nv W v K) (c : Chg B nv nv' W W') : NV F B nv' W' v K := ⟨h.names.go h.ap c, h.ap.go h.lt c, fun k hk => Nat.lt_of_lt_of_le (h.lt k hk) c.size, h.one⟩
theorem KV.set {F : Nat → Prop} {B : Nat} {nv v : Value} {W : World} {K : List Nat} (h : KV F B nv W v K) {X : Nat} (hX : F X) (i : Nat) (u : Value) : KV F B nv (W.setCell ⟨X, i, none⟩ u) v K := by
  have hs : (W.setCell ⟨X, i, none⟩ u).heap.size = W.heap.size := by simp [World.setCell]
  exact ⟨h.kids.same (by rw [hs]; exact Nat.le_refl _) (fun k hk _ => Below.heap_setCell W ⟨X, i, none⟩ u k (by show k ≠ X; intro e; exact (h.ap k hk).2.2 (e ▸ hX))), h.ap, fun k hk => by rw [hs]; exact h.lt k hk, h.one⟩
theorem NV.set {F : Nat → Prop} {B : Nat} {nv v : Value} {W : World} {K : List (List UInt8)} (h : NV F B nv W v K) {X : Nat} (hX : F X) (i : Nat) (u : Value) : NV F B nv (W.setCell ⟨X, i, none⟩ u) v K := by
  have hs : (W.setCell ⟨X, i, none⟩ u).heap.size = W.heap.size := by simp [World.setCell]
  exact ⟨h.names.same (by rw [hs]; exact Nat.le_refl _) (fun k hk _ => Below.heap_setCell W ⟨X, i, none⟩ u k (by show k ≠ X; intro e; exact (h.ap k hk).2.2 (e ▸ hX))), h.ap, fun k hk => by rw [hs]; exact h.lt k hk, h.one⟩
theorem KV.less {F F' : Nat → Prop} {B : Nat} {nv v : Value} {W : World} {K : List Nat} (h : KV F B nv W v K) (hF : ∀ k, F' k → F k) : KV F' B nv W v K := ⟨h.kids, fun k hk => ⟨(h.ap k hk).1, (h.ap k hk).2.1, fun e => (h.ap k hk).2.2 (hF k e)⟩, h.lt, h.one⟩
theorem NV.less {F F' : Nat → Prop} {B : Nat} {nv v : Value} {W : World} {K : List (List UInt8)} (h : NV F B nv W v K) (hF : ∀ k, F' k → F k) : NV F' B nv W v K := ⟨h.names, fun k hk => ⟨(h.ap k hk).1, (h.ap k hk).2.1, fun e => (h.ap k hk).2.2 (hF k e)⟩, h.lt, h.one⟩
/-- Kids that are written down in a new block. -/
theorem KV.lit {F : Nat → Prop} {base B dep : Nat} {s : Ps.St} {nv : Value} {W : World} (h : RS F base B dep s nv W) (K : List Nat) (V : Array Value) (n : Nat) (hn : n = K.length) (hV : ∀ j (h : j < K.length), V[j]? = some (.int .i64 (K[j] : Int))) : KV F B nv (W.alloc (.cells V 3)) (.slice (some ⟨W.heap.size, 0, none⟩) n n) K := by
  subst hn
  have hX : (W.alloc (.cells V 3)).heap[W.heap.size]? = some (.cells V 3 (0, 0)) := Array.getElem?_push_size
  refine ⟨⟨_, _, rfl, Nat.le_refl _, .inr ⟨_, rfl, by rw [alloc_size']; omega, fun j hj => ?_⟩⟩, fun j hj => ?_, fun j hj => ?_, rfl⟩
  · unfold World.cell?; rw [hX]; simpa using hV j hj
  · have hj' : W.heap.size = j := by simpa [blockOf] using hj
    subst hj'
    refine ⟨by have := h.lt; omega, fun e => ?_, fun hF => by have := (h.far _ hF).1; omega⟩
    obtain ⟨vs, _, ho, _⟩ := h.nd
    have := (own_block ho _ e).2
    omega
  · have hj' : W.heap.size = j := by simpa [blockOf] using hj
    rw [alloc_size']; omega
theorem c_addV {F : Nat → Prop} {base B dep : Nat} {s s' : Ps.St} {nv : Value} {w : World} {r k n a : Nat} {t : List UInt8} {N : List (List UInt8)} {K : List Nat} (E : Ru (Ps.add { k := k, n := n, t := t, names := N, kids := K, a := a }) s r s') (h : RS F base B dep s nv w) {nmv kv : Value} (hN : NV F B nv w nmv N) (hK : KV F B nv w kv K) :
    Calls Tryd.prog 15 #[.pointer (some ⟨B, 0, none⟩), .agg #[.int .i64 (k : Int), .int .i64 (n : Int), .string ⟨t.toArray⟩, nmv, kv, .int .i64 (a : Int)]] w (Tells F base B dep nv w s' (.int .i64 (r : Int))) := by
  have e1 : s.nodes.length = r := congrArg Prod.fst E.eq
  have e2 : (Ps.add { k := k, n := n, t := t, names := N, kids := K, a := a } s).2 = s' := congrArg Prod.snd E.eq
  have := add_any h h.hbw (E.back (Ps.gr_add _)) { k := k, n := n, t := t, names := N, kids := K, a := a } nmv kv ⟨hN.names, hK.kids, hN.ap, hK.ap, hN.lt, hK.lt⟩ hN.one hK.one
  rw [e1, e2] at this
  exact this
/-- A node whose kids are written down just ahead. -/
theorem c_addL {F : Nat → Prop} {base B dep : Nat} {s s' : Ps.St} {nv : Value} {w : World} {r k a : Nat} {t : List UInt8} {K : List Nat} (E : Ru (Ps.add { k := k, t := t, kids := K, a := a }) s r s') (h : RS F base B dep s nv w) (V : Array Value) (n : Nat) (hn : n = K.length) (hV : ∀ j (h : j < K.length), V[j]? = some (.int .i64 (K[j] : Int))) :
    Calls Tryd.prog 15 #[.pointer (some ⟨B, 0, none⟩), .agg #[.int .i64 (k : Int), .int .i64 0, .string ⟨t.toArray⟩, .slice none 0 0, .slice (some ⟨w.heap.size, 0, none⟩) n n, .int .i64 (a : Int)]] (w.alloc (.cells V 3)) (Tells F base B dep nv w s' (.int .i64 (r : Int))) := by
  have hb : Below w.heap.size w (w.alloc (.cells V 3)) := (Below.refl _ _).alloc (Nat.le_refl _) _
  refine (c_addV E (h.below hb) (NV.nil _ _ _ _) (KV.lit h K V n hn hV)).mono ?_
  rintro e w' ⟨rfl, nv', hr, hc⟩
  exact ⟨rfl, nv', hr, (Chg.below nv hb).trans hc⟩
theorem c_over {F : Nat → Prop} {base B dep : Nat} {s s' : Ps.St} {nv : Value} {w : World} {r k : Nat} {t : List UInt8} {k0 : Nat} {K : List Nat} (E : Ru (Ps.over { k := k, t := t } (k0 :: K)) s r s') (h : RS F base B dep s nv w) (hk : k0 < s.nodes.length) (V : Array Value) (n : Nat) (hn : n = (k0 :: K).length) (hV : ∀ j (h : j < (k0 :: K).length), V[j]? = some (.int .i64 ((k0 :: K)[j] : Int))) :
    Calls Tryd.prog 71 #[.pointer (some ⟨B, 0, none⟩), .agg #[.int .i64 (k : Int), .int .i64 0, .string ⟨t.toArray⟩, .slice none 0 0, .slice none 0 0, .int .i64 0], .slice (some ⟨w.heap.size, 0, none⟩) n n] (w.alloc (.cells V 3)) (Tells F base B dep nv w s' (.int .i64 (r : Int))) := by
  have e1 : s.nodes.length = r := congrArg Prod.fst E.eq
  have e2 : (Ps.over { k := k, t := t } (k0 :: K) s).2 = s' := congrArg Prod.snd E.eq
  have hb : Below w.heap.size w (w.alloc (.cells V 3)) := (Below.refl _ _).alloc (Nat.le_refl _) _
  have hkv := KV.lit h (k0 :: K) V n hn hV
  subst hn
  have := over_any (h.below hb) (E.back (Ps.gr_over _ _)) k t k0 K w.heap.size (k0 :: K).length (Nat.le_refl _) (by rw [alloc_size']; omega) (fun j hj => by
    obtain ⟨ad, cap, e, _, h⟩ := hkv.kids
    simp only [Value.slice.injEq] at e
    obtain ⟨rfl, _, _⟩ := e
    obtain ⟨g, e, _, h2⟩ := h.resolve_left (by simp)
    simp only [Option.some.injEq, Addr.mk.injEq, and_true] at e
    subst e
    exact h2 j hj) hkv.ap hk
  rw [e1, e2] at this
  refine this.mono ?_
  rintro e w' ⟨rfl, nv', hr, hc⟩
  exact ⟨rfl, nv', hr, (Chg.below nv hb).trans hc⟩
/-- A box of a node beside the reader. -/
structure Box (F : Nat → Prop) (W : World) (X : Nat) (x0 x1 x2 x3 x4 x5 : Value) : Prop where
  cells : W.heap[X]? = some (.cells #[x0, x1, x2, x3, x4, x5] 33 (0, 0))
  far : F X
theorem Box.facts {F : Nat → Prop} {W : World} {X : Nat} {x0 x1 x2 x3 x4 x5 : Value} (h : Box F W X x0 x1 x2 x3 x4 x5) :
    (W.cell? ⟨X, 0, none⟩ = some x0 ∧ W.cell? ⟨X, 1, none⟩ = some x1 ∧ W.cell? ⟨X, 2, none⟩ = some x2 ∧ W.cell? ⟨X, 3, none⟩ = some x3 ∧ W.cell? ⟨X, 4, none⟩ = some x4 ∧ W.cell? ⟨X, 5, none⟩ = some x5) ∧ (W.frozen? ⟨X, 1, none⟩ = false ∧ W.frozen? ⟨X, 2, none⟩ = false ∧ W.frozen? ⟨X, 3, none⟩ = false ∧ W.frozen? ⟨X, 4, none⟩ = false) ∧ X < W.heap.size := by
  have hc := h.cells
  exact ⟨by refine ⟨?_, ?_, ?_, ?_, ?_, ?_⟩ <;> simp [World.cell?, hc], by refine ⟨?_, ?_, ?_, ?_⟩ <;> simp [World.frozen?, hc], Nat.lt_of_not_le fun hg => by rw [Array.getElem?_eq_none hg] at hc; cases hc⟩
theorem Box.go {F : Nat → Prop} {base B dep : Nat} {s : Ps.St} {nv nv' : Value} {W W' : World} {X : Nat} {x0 x1 x2 x3 x4 x5 : Value} (h : Box F W X x0 x1 x2 x3 x4 x5) (hr : RS F base B dep s nv W) (c : Chg B nv nv' W W') : Box F W' X x0 x1 x2 x3 x4 x5 :=
  ⟨(c.block X (hr.far X h.far).1 (hr.far X h.far).2.1 (hr.far X h.far).2.2).trans h.cells, h.far⟩
theorem Box.alloc {F : Nat → Prop} {W : World} {X : Nat} {x0 x1 x2 x3 x4 x5 : Value} (h : Box F W X x0 x1 x2 x3 x4 x5) (o : Obj) : Box F (W.alloc o) X x0 x1 x2 x3 x4 x5 := ⟨(Below.heap_alloc W o X h.facts.2.2).trans h.cells, h.far⟩
theorem Box.set1 {F : Nat → Prop} {W : World} {X : Nat} {x0 x1 x2 x3 x4 x5 : Value} (h : Box F W X x0 x1 x2 x3 x4 x5) (u : Value) : Box F (W.setCell ⟨X, 1, none⟩ u) X x0 u x2 x3 x4 x5 := ⟨by have := h.cells; simp [World.setCell, Array.getElem?_modify, this], h.far⟩
theorem Box.set2 {F : Nat → Prop} {W : World} {X : Nat} {x0 x1 x2 x3 x4 x5 : Value} (h : Box F W X x0 x1 x2 x3 x4 x5) (u : Value) : Box F (W.setCell ⟨X, 2, none⟩ u) X x0 x1 u x3 x4 x5 := ⟨by have := h.cells; simp [World.setCell, Array.getElem?_modify, this], h.far⟩
theorem Box.set3 {F : Nat → Prop} {W : World} {X : Nat} {x0 x1 x2 x3 x4 x5 : Value} (h : Box F W X x0 x1 x2 x3 x4 x5) (u : Value) : Box F (W.setCell ⟨X, 3, none⟩ u) X x0 x1 x2 u x4 x5 := ⟨by have := h.cells; simp [World.setCell, Array.getElem?_modify, this], h.far⟩
theorem Box.set4 {F : Nat → Prop} {W : World} {X : Nat} {x0 x1 x2 x3 x4 x5 : Value} (h : Box F W X x0 x1 x2 x3 x4 x5) (u : Value) : Box F (W.setCell ⟨X, 4, none⟩ u) X x0 x1 x2 x3 u x5 := ⟨by have := h.cells; simp [World.setCell, Array.getElem?_modify, this], h.far⟩
/-- A new box, and what is written there. -/
theorem RS.box {F : Nat → Prop} {base B dep : Nat} {s : Ps.St} {nv : Value} {W : World} (h : RS F base B dep s nv W) (y0 y1 y2 y3 y4 y5 : Value) :
    RS (fun k => F k ∨ k = W.heap.size) base B dep s nv (W.alloc (.cells #[y0, y1, y2, y3, y4, y5] 33)) ∧ Chg B nv nv W (W.alloc (.cells #[y0, y1, y2, y3, y4, y5] 33)) ∧ Box (fun k => F k ∨ k = W.heap.size) (W.alloc (.cells #[y0, y1, y2, y3, y4, y5] 33)) W.heap.size y0 y1 y2 y3 y4 y5 :=
  ⟨h.more _, (Chg.refl B nv W).alloc _, ⟨Array.getElem?_push_size, .inr rfl⟩⟩
end Go.Proofs.YtoeolonbkeldoaaDoor.R
