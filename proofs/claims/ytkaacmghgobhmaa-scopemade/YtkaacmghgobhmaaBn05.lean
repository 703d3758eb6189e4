/- Texts: QA RpP RpV. -/
import Derived.Test.YtkaacmghgobhmaaBn04
import Derived.Test.YtkaacmghgobhmaaBn03
section
namespace Go.Proofs.Ytkaacmghgobhmaa.Rd
open Go.RowKit
open L (tkA own_block own_below intOf info_of size_list)
set_option linter.unusedVariables false
theorem KidsIn.same {W W' : World} {v : Value} {l : List Nat} (h : KidsIn W v l) (hs : W.heap.size ≤ W'.heap.size) (hb : ∀ k, blockOf v = some k → k < W.heap.size → W'.heap[k]? = W.heap[k]?) : KidsIn W' v l := by
  obtain ⟨ad, cap, rfl, hc, h⟩ := h
  refine ⟨ad, cap, rfl, hc, ?_⟩
  rcases h with h | ⟨g, rfl, h1, h2⟩
  · exact .inl h
  · exact .inr ⟨g, rfl, Nat.lt_of_lt_of_le h1 hs, fun j hj => (cell_of_block (hb g rfl h1) j).trans (h2 j hj)⟩
theorem NamesIn.same {W W' : World} {v : Value} {l : List (List UInt8)} (h : NamesIn W v l) (hs : W.heap.size ≤ W'.heap.size) (hb : ∀ k, blockOf v = some k → k < W.heap.size → W'.heap[k]? = W.heap[k]?) : NamesIn W' v l := by
  obtain ⟨ad, cap, rfl, hc, h⟩ := h
  refine ⟨ad, cap, rfl, hc, ?_⟩
  rcases h with h | ⟨g, rfl, h1, h2⟩
  · exact .inl h
  · exact .inr ⟨g, rfl, Nat.lt_of_lt_of_le h1 hs, fun j hj => (cell_of_block (hb g rfl h1) j).trans (h2 j hj)⟩
/-- The reader where only other ones' blocks have changed, and some are new. -/
theorem RS.grow {src : ByteArray} {F F' : Nat → Prop} {base B dep : Nat} {s : Rp.Rt} {nv : Value} {W W' : World} (h : RS src F base B dep s nv W) (hs : W.heap.size ≤ W'.heap.size) (hb : ∀ k, k < W.heap.size → ¬ F k → W'.heap[k]? = W.heap[k]?)
    (hF : ∀ k, F' k → (F k ∨ W.heap.size ≤ k) ∧ k < W'.heap.size) : RS src F' base B dep s nv W' := by
  have hlB := h.lt
  obtain ⟨E, x, g0, g1, g2, h1⟩ := h.rd
  obtain ⟨vs, e, ho, hn⟩ := h.nd
  have nB : ¬ F B := fun hf => (h.far B hf).2.1 rfl
  have ap : ∀ v, Apart F B nv v → (∀ k, blockOf v = some k → k < W.heap.size) → Apart F' B nv v := fun v ha hl k hk => ⟨(ha k hk).1, (ha k hk).2.1, fun hf => by
    rcases (hF k hf).1 with e | e
    · exact (ha k hk).2.2 e
    · have := hl k hk; omega⟩
  have sm : ∀ v, Apart F B nv v → ∀ k, blockOf v = some k → k < W.heap.size → W'.heap[k]? = W.heap[k]? := fun v ha k hk hl => hb k hl (ha k hk).2.2
  have nl := own_block ho
  refine ⟨h.hB, h.sm, h.low, ⟨E, x, g0, g1, g2, (hb B hlB nB).trans h1⟩, ⟨vs, e, own_keep ho (fun k hk => hb k (nl k hk).2 (fun hf => (h.far k hf).2.2 hk)), fun x hx => ?_⟩, h.own, fun k hk => ⟨(hF k hk).2, ?_, ?_⟩⟩
  · have hx' := hn x hx
    exact ⟨hx'.names.same hs (sm _ hx'.anm), hx'.kids.same hs (sm _ hx'.akd), ap _ hx'.anm hx'.lnm, ap _ hx'.akd hx'.lkd, fun k hk => Nat.lt_of_lt_of_le (hx'.lnm k hk) hs, fun k hk => Nat.lt_of_lt_of_le (hx'.lkd k hk) hs⟩
  · rcases (hF k hk).1 with e | e
    · exact (h.far k e).2.1
    · omega
  · rcases (hF k hk).1 with e | e
    · exact (h.far k e).2.2
    · intro e2; have := (nl k e2).2; omega
section
variable {src : ByteArray} {F F' : Nat → Prop} {base B dep : Nat} {s : Rp.Rt} {nv : Value} {W : World}
/-- A store into another one's block keeps the reader. -/
theorem RS.foreign (h : RS src F base B dep s nv W) {X : Nat} (hX : F X) (i : Nat) (u : Value) : RS src F base B dep s nv (W.setCell ⟨X, i, none⟩ u) := by
  have hs : (W.setCell ⟨X, i, none⟩ u).heap.size = W.heap.size := by simp [World.setCell]
  exact h.grow (by rw [hs]; exact Nat.le_refl _) (fun k _ hn => Below.heap_setCell W ⟨X, i, none⟩ u k (by show k ≠ X; rintro rfl; exact hn hX)) (fun k hk => ⟨.inl hk, by rw [hs]; exact (h.far k hk).1⟩)
/-- A new block is another one's. -/
theorem RS.more (h : RS src F base B dep s nv W) (o : Obj) : RS src (fun k => F k ∨ k = W.heap.size) base B dep s nv (W.alloc o) :=
  h.grow (by rw [alloc_size']; omega) (fun k hk _ => Below.heap_alloc W o k hk) (fun k hk => by
    rw [alloc_size']
    rcases hk with hk | rfl
    · exact ⟨.inl hk, by have := (h.far k hk).1; omega⟩
    · exact ⟨.inr (Nat.le_refl _), by omega⟩)
/-- Fewer blocks are other ones'. -/
theorem RS.less (h : RS src F base B dep s nv W) (hF : ∀ k, F' k → F k) : RS src F' base B dep s nv W :=
  h.grow (Nat.le_refl _) (fun _ _ _ => rfl) (fun k hk => ⟨.inl (hF k hk), (h.far k (hF k hk)).1⟩)
/-- The reader with a node more. -/
theorem RS.added {v' : Value} {w' : World} {vs : List (Ps.Nd × Value × Value)} {n : Ps.Nd} {nm kd : Value} (h : RS src F base B dep s nv W) (e : vs.map (·.1) = s.nodes) (hvs : ∀ x ∈ vs, NdIn F W B nv x.1 x.2.1 x.2.2)
    (hA : Added base W nv vs (n, nm, kd) v' w') (hx : NdIn F W B nv n nm kd) :
    RS src F base B dep (Rp.put n s).2 v' (w'.setCell ⟨B, 7, none⟩ v') ∧ Chg B nv v' W (w'.setCell ⟨B, 7, none⟩ v') := by
  have c0 : Chg B nv v' W w' := ⟨hA.os, hA.tape, hA.output, hA.size, fun k h1 _ h3 => hA.block k h1 h3, hA.fresh⟩
  have c := c0.setBB 7 v'
  have hB := h.lt
  obtain ⟨E, x, g0, g1, g2, h1⟩ := h.rd
  have hnB : v'.ownBlock ≠ some B := fun e => by
    rcases hA.fresh B e with e | e
    · exact h.own e
    · omega
  refine ⟨⟨h.hB, h.sm, h.low, ⟨E, x, (show TokAt src (Rp.put n s).2 E from g0), g1, g2, set7 ((hA.block B hB h.own).trans h1) v'⟩, ⟨vs ++ [(n, nm, kd)], ?_, own_keep hA.own (fun k hk => Below.heap_setCell _ _ _ _ (by show k ≠ B; intro e; subst e; exact hnB hk)), fun x hm => ?_⟩, hnB, fun k hk => ⟨Nat.lt_of_lt_of_le (h.far k hk).1 c.size, (h.far k hk).2.1, fun e => by
    rcases hA.fresh k e with e | e
    · exact (h.far k hk).2.2 e
    · have := (h.far k hk).1; omega⟩⟩, c⟩
  · rw [List.map_append, e]; rfl
  · rcases List.mem_append.1 hm with hm | hm
    · exact (hvs x hm).go c
    · rw [List.mem_singleton] at hm
      subst hm
      exact hx.go c
end
/-- What the walk is told behind the append. -/
def AddR (base B : Nat) (w : World) (nv : Value) (vs : List (Ps.Nd × Value × Value)) (x : Ps.Nd × Value × Value) (v' : Value) (w' : World) : Prop :=
  ∃ ad cap, v' = .slice ad (vs.length + 1) cap ∧ Hid (Added base w nv vs x (.slice ad (vs.length + 1) cap) w') ∧ w'.cell? ⟨B, 7, none⟩ = some nv ∧ w'.frozen? ⟨B, 7, none⟩ = false ∧ B < w'.heap.size
set_option maxRecDepth 100000 in
set_option maxHeartbeats 2000000 in
theorem put_any {src : ByteArray} {F : Nat → Prop} {base B dep : Nat} {s : Rp.Rt} {nv : Value} {w : World} (h : RS src F base B dep s nv w) (hlen : s.nodes.length ≤ 1000000000) (n : Ps.Nd) (nm kd : Value) (hx : NdIn F w B nv n nm kd) (h1 : nm.oneCell' = true) (h2 : kd.oneCell' = true) :
    Calls Try.prog 23 #[.pointer (some ⟨B, 0, none⟩), .agg (ndA n nm kd)] w (Tells src F base B dep nv w (Rp.put n s).2 (.int .i64 (s.nodes.length : Int))) := by
  have hbw := h.hbw
  obtain ⟨E, x, -, -, -, e1⟩ := h.rd
  obtain ⟨vs, e, ho, hvs⟩ := h.nd
  have hvl : vs.length = s.nodes.length := by rw [← e, List.length_map]
  obtain ⟨q0, q1, q2, q3, q4, q5, q6, q7, q8, q9, f0, hlt⟩ := cells10h e1
  have HP : Hid (∀ W X, Below w.heap.size w W → W.heap[X]? = some (.cells #[.int .i64 (n.k : Int), .int .i64 (n.n : Int), .string ⟨n.t.toArray⟩, nm, kd, .int .i64 (n.a : Int)] 38 (0, 0)) → ∀ ty, ∃ v' w', (Builtin.append_ #[29, 29] ty #[nv, .slice (some ⟨X, 0, none⟩) 1 1]).run Try.prog W = .ok v' w' ∧ AddR base B w nv vs (n, nm, kd) v' w') := fun W X hW hX ty => by
    obtain ⟨v', w', hr, hA⟩ := nd_more ho hbw (by omega) (n, nm, kd) h1 h2 ty hW X hX
    obtain ⟨ad, cap, rfl⟩ := hA.form
    obtain ⟨p0, p1, p2, p3, p4, p5, p6, p7, p8, p9, g, hl⟩ := cells10h ((hA.block B hlt h.own).trans e1)
    exact ⟨_, w', hr, ad, cap, rfl, hA, p7, g 7, hl⟩
  have HM : Hid (∀ v' w', Added base w nv vs (n, nm, kd) v' w' → RS src F base B dep (Rp.put n s).2 v' (w'.setCell ⟨B, 7, none⟩ v') ∧ Chg B nv v' w (w'.setCell ⟨B, 7, none⟩ v')) := fun v' w' hA => h.added e hvs hA hx
  have HL : Hid (s.nodes.length = vs.length) := hvl.symm
  have hm : ((vs.length : Int) + 1 - 1) = vs.length := by omega
  have hvb : (vs.length : Int) ≤ 1000000000 := by omega
  clear h e e1 hvs ho hx hvl hlen
  obtain ⟨nk, nn, nt, nms, nks, na⟩ := n
  simp only at HP ⊢
  go_enter Try.func23, Try.ntmps23
  go_wp2_with fail
  go_region_law ((refine step_append_ex (by rfl) _ _ 29 (by rfl) _ _ (by rfl) (by rfl) (AddR base B w nv vs (⟨nk, nn, nt, nms, nks, na⟩, nm, kd)) (HP.out _ _ (by repeat (first | with_reducible exact Below.refl _ _ | (with_reducible refine Below.drew ?_) | (with_reducible refine Below.alloc ?_ (by first | exact Nat.le_refl _ | (simp; omega) | simp) _))) (by first | exact heap_alloc_new _ _ _ | exact alloc_drew_new _ _ _ | exact alloc2_new _ _ _ _) _) ?_; rintro v' w7 ⟨a7, cap7, rfl, HA7, hc7, hf7, hl7⟩))
  all_goals
    go_wp2_with fail
    go_ret
    exact ⟨congrArg (fun x : Nat => Ending.returned (Value.int .i64 (x : Int))) HL.out.symm, _, by first | exact HM.out _ _ HA7.out | exact HM.out _ _ HA7.out.drew⟩
abbrev nil0 : Value := .slice none 0 0
/-- Kids, names beside the reader. -/
structure KV (F : Nat → Prop) (B : Nat) (nv : Value) (W : World) (v : Value) (K : List Nat) : Prop where
  kids : KidsIn W v K
  ap : Apart F B nv v
  lt : ∀ k, blockOf v = some k → k < W.heap.size
  one : v.oneCell' = true
structure NV (F : Nat → Prop) (B : Nat) (nv : Value) (W : World) (v : Value) (K : List (List UInt8)) : Prop where
  names : NamesIn W v K
  ap : Apart F B nv v
  lt : ∀ k, blockOf v = some k → k < W.heap.size
  one : v.oneCell' = true
theorem KV.nil (F : Nat → Prop) (B : Nat) (nv : Value) (W : World) : KV F B nv W (.slice none 0 0) [] := ⟨⟨none, 0, rfl, Nat.le_refl _, .inl rfl⟩, (fun _ h => nomatch h), (fun _ h => nomatch h), rfl⟩
theorem NV.nil (F : Nat → Prop) (B : Nat) (nv : Value) (W : World) : NV F B nv W (.slice none 0 0) [] := ⟨⟨none, 0, rfl, Nat.le_refl _, .inl rfl⟩, (fun _ h => nomatch h), (fun _ h => nomatch h), rfl⟩
theorem KV.go {F : Nat → Prop} {B : Nat} {nv nv' v : Value} {W W' : World} {K : List Nat} (h : KV F B nv W v K) (c : Chg B nv nv' W W') : KV F B nv' W' v K := ⟨h.kids.go h.ap c, h.ap.go h.lt c, fun k hk => Nat.lt_of_lt_of_le (h.lt k hk) c.size, h.one⟩
theorem NV.go {F : Nat → Prop} {B : Nat} {nv nv' v : Value} {W W' : World} {K : List (List UInt8)} (h : NV F B nv W v K) (c : Chg B nv nv' W W') : NV F B nv' W' v K := ⟨h.names.go h.ap c, h.ap.go h.lt c, fun k hk => Nat.lt_of_lt_of_le (h.lt k hk) c.size, h.one⟩
theorem KV.set {F : Nat → Prop} {B : Nat} {nv v : Value} {W : World} {K : List Nat} (h : KV F B nv W v K) {X : Nat} (hX : F X) (i : Nat) (u : Value) : KV F B nv (W.setCell ⟨X, i, none⟩ u) v K := by
  have hs : (W.setCell ⟨X, i, none⟩ u).heap.size = W.heap.size := by simp [World.setCell]
  exact ⟨h.kids.same (by rw [hs]; exact Nat.le_refl _) (fun k hk _ => Below.heap_setCell W ⟨X, i, none⟩ u k (by show k ≠ X; intro e; exact (h.ap k hk).2.2 (e ▸ hX))), h.ap, fun k hk => by rw [hs]; exact h.lt k hk, h.one⟩
theorem NV.set {F : Nat → Prop} {B : Nat} {nv v : Value} {W : World} {K : List (List UInt8)} (h : NV F B nv W v K) {X : Nat} (hX : F X) (i : Nat) (u : Value) : NV F B nv (W.setCell ⟨X, i, none⟩ u) v K := by
  have hs : (W.setCell ⟨X, i, none⟩ u).heap.size = W.heap.size := by simp [World.setCell]
  exact ⟨h.names.same (by rw [hs]; exact Nat.le_refl _) (fun k hk _ => Below.heap_setCell W ⟨X, i, none⟩ u k (by show k ≠ X; intro e; exact (h.ap k hk).2.2 (e ▸ hX))), h.ap, fun k hk => by rw [hs]; exact h.lt k hk, h.one⟩
theorem KV.less {F F' : Nat → Prop} {B : Nat} {nv v : Value} {W : World} {K : List Nat} (h : KV F B nv W v K) (hF : ∀ k, F' k → F k) : KV F' B nv W v K := ⟨h.kids, fun k hk => ⟨(h.ap k hk).1, (h.ap k hk).2.1, fun e => (h.ap k hk).2.2 (hF k e)⟩, h.lt, h.one⟩
theorem NV.less {F F' : Nat → Prop} {B : Nat} {nv v : Value} {W : World} {K : List (List UInt8)} (h : NV F B nv W v K) (hF : ∀ k, F' k → F k) : NV F' B nv W v K := ⟨h.names, fun k hk => ⟨(h.ap k hk).1, (h.ap k hk).2.1, fun e => (h.ap k hk).2.2 (hF k e)⟩, h.lt, h.one⟩
/-- Kids that are written down in a new block. -/
theorem KV.lit {src : ByteArray} {F : Nat → Prop} {base B dep : Nat} {s : Rp.Rt} {nv : Value} {W : World} (h : RS src F base B dep s nv W) (K : List Nat) (V : Array Value) (n : Nat) (hn : n = K.length) (hV : ∀ j (h : j < K.length), V[j]? = some (.int .i64 (K[j] : Int))) : KV F B nv (W.alloc (.cells V 3)) (.slice (some ⟨W.heap.size, 0, none⟩) n n) K := by
  subst hn
  have hX : (W.alloc (.cells V 3)).heap[W.heap.size]? = some (.cells V 3 (0, 0)) := Array.getElem?_push_size
  refine ⟨⟨_, _, rfl, Nat.le_refl _, .inr ⟨_, rfl, by rw [alloc_size']; omega, fun j hj => ?_⟩⟩, fun j hj => ?_, fun j hj => ?_, rfl⟩
  · unfold World.cell?; rw [hX]; simpa using hV j hj
  · have hj' : W.heap.size = j := by simpa [blockOf] using hj
    subst hj'
    refine ⟨by have := h.lt; omega, fun e => ?_, fun hF => by have := (h.far _ hF).1; omega⟩
    obtain ⟨vs, _, ho, _⟩ := h.nd
    have := (own_block ho _ e).2
    omega
  · have hj' : W.heap.size = j := by simpa [blockOf] using hj
    rw [alloc_size']; omega
theorem c_putV {src : ByteArray} {F : Nat → Prop} {base B dep : Nat} {s s' : Rp.Rt} {nv : Value} {w : World} {r k n a : Nat} {t : List UInt8} {N : List (List UInt8)} {K : List Nat} (E : Ru (Rp.put { k := k, n := n, t := t, names := N, kids := K, a := a }) s r s') (h : RS src F base B dep s nv w) {nmv kv : Value} (hN : NV F B nv w nmv N) (hK : KV F B nv w kv K) :
    Calls Try.prog 23 #[.pointer (some ⟨B, 0, none⟩), .agg #[.int .i64 (k : Int), .int .i64 (n : Int), .string ⟨t.toArray⟩, nmv, kv, .int .i64 (a : Int)]] w (Tells src F base B dep nv w s' (.int .i64 (r : Int))) := by
  have e1 : s.nodes.length = r := congrArg Prod.fst E.eq
  have e2 : (Rp.put { k := k, n := n, t := t, names := N, kids := K, a := a } s).2 = s' := congrArg Prod.snd E.eq
  have hs : s.nodes.length ≤ 1000000000 := by
    have := E.small
    rw [← e2] at this
    have h2 : (Rp.put { k := k, n := n, t := t, names := N, kids := K, a := a } s).2.nodes.length = s.nodes.length + 1 := by show (s.nodes ++ [_]).length = _; simp
    omega
  have := put_any h hs { k := k, n := n, t := t, names := N, kids := K, a := a } nmv kv ⟨hN.names, hK.kids, hN.ap, hK.ap, hN.lt, hK.lt⟩ hN.one hK.one
  rw [e1, e2] at this
  exact this
/-- A node whose kids are written down just ahead. -/
theorem c_putL {src : ByteArray} {F : Nat → Prop} {base B dep : Nat} {s s' : Rp.Rt} {nv : Value} {w : World} {r k a : Nat} {t : List UInt8} {K : List Nat} (E : Ru (Rp.put { k := k, t := t, kids := K, a := a }) s r s') (h : RS src F base B dep s nv w) (V : Array Value) (n : Nat) (hn : n = K.length) (hV : ∀ j (h : j < K.length), V[j]? = some (.int .i64 (K[j] : Int))) :
    Calls Try.prog 23 #[.pointer (some ⟨B, 0, none⟩), .agg #[.int .i64 (k : Int), .int .i64 0, .string ⟨t.toArray⟩, .slice none 0 0, .slice (some ⟨w.heap.size, 0, none⟩) n n, .int .i64 (a : Int)]] (w.alloc (.cells V 3)) (Tells src F base B dep nv w s' (.int .i64 (r : Int))) := by
  have hb : Below w.heap.size w (w.alloc (.cells V 3)) := (Below.refl _ _).alloc (Nat.le_refl _) _
  refine (c_putV E (h.below hb) (NV.nil _ _ _ _) (KV.lit h K V n hn hV)).mono ?_
  rintro e w' ⟨rfl, nv', hr, hc⟩
  exact ⟨rfl, nv', hr, (Chg.below nv hb).trans hc⟩
/-- A box of a node beside the reader. -/
structure Box (F : Nat → Prop) (W : World) (X : Nat) (x0 x1 x2 x3 x4 x5 : Value) : Prop where
  cells : W.heap[X]? = some (.cells #[x0, x1, x2, x3, x4, x5] 38 (0, 0))
  far : F X
theorem Box.facts {F : Nat → Prop} {W : World} {X : Nat} {x0 x1 x2 x3 x4 x5 : Value} (h : Box F W X x0 x1 x2 x3 x4 x5) :
    (W.cell? ⟨X, 0, none⟩ = some x0 ∧ W.cell? ⟨X, 1, none⟩ = some x1 ∧ W.cell? ⟨X, 2, none⟩ = some x2 ∧ W.cell? ⟨X, 3, none⟩ = some x3 ∧ W.cell? ⟨X, 4, none⟩ = some x4 ∧ W.cell? ⟨X, 5, none⟩ = some x5) ∧ (W.frozen? ⟨X, 1, none⟩ = false ∧ W.frozen? ⟨X, 2, none⟩ = false ∧ W.frozen? ⟨X, 3, none⟩ = false ∧ W.frozen? ⟨X, 4, none⟩ = false) ∧ X < W.heap.size := by
  have hc := h.cells
  exact ⟨by refine ⟨?_, ?_, ?_, ?_, ?_, ?_⟩ <;> simp [World.cell?, hc], by refine ⟨?_, ?_, ?_, ?_⟩ <;> simp [World.frozen?, hc], Nat.lt_of_not_le fun hg => by rw [Array.getElem?_eq_none hg] at hc; cases hc⟩
theorem Box.go {src : ByteArray} {F : Nat → Prop} {base B dep : Nat} {s : Rp.Rt} {nv nv' : Value} {W W' : World} {X : Nat} {x0 x1 x2 x3 x4 x5 : Value} (h : Box F W X x0 x1 x2 x3 x4 x5) (hr : RS src F base B dep s nv W) (c : Chg B nv nv' W W') : Box F W' X x0 x1 x2 x3 x4 x5 :=
  ⟨(c.block X (hr.far X h.far).1 (hr.far X h.far).2.1 (hr.far X h.far).2.2).trans h.cells, h.far⟩
theorem Box.alloc {F : Nat → Prop} {W : World} {X : Nat} {x0 x1 x2 x3 x4 x5 : Value} (h : Box F W X x0 x1 x2 x3 x4 x5) (o : Obj) : Box F (W.alloc o) X x0 x1 x2 x3 x4 x5 := ⟨(Below.heap_alloc W o X h.facts.2.2).trans h.cells, h.far⟩
theorem Box.set1 {F : Nat → Prop} {W : World} {X : Nat} {x0 x1 x2 x3 x4 x5 : Value} (h : Box F W X x0 x1 x2 x3 x4 x5) (u : Value) : Box F (W.setCell ⟨X, 1, none⟩ u) X x0 u x2 x3 x4 x5 := ⟨by have := h.cells; simp [World.setCell, Array.getElem?_modify, this], h.far⟩
theorem Box.set2 {F : Nat → Prop} {W : World} {X : Nat} {x0 x1 x2 x3 x4 x5 : Value} (h : Box F W X x0 x1 x2 x3 x4 x5) (u : Value) : Box F (W.setCell ⟨X, 2, none⟩ u) X x0 x1 u x3 x4 x5 := ⟨by have := h.cells; simp [World.setCell, Array.getElem?_modify, this], h.far⟩
theorem Box.set3 {F : Nat → Prop} {W : World} {X : Nat} {x0 x1 x2 x3 x4 x5 : Value} (h : Box F W X x0 x1 x2 x3 x4 x5) (u : Value) : Box F (W.setCell ⟨X, 3, none⟩ u) X x0 x1 x2 u x4 x5 := ⟨by have := h.cells; simp [World.setCell, Array.getElem?_modify, this], h.far⟩
theorem Box.set4 {F : Nat → Prop} {W : World} {X : Nat} {x0 x1 x2 x3 x4 x5 : Value} (h : Box F W X x0 x1 x2 x3 x4 x5) (u : Value) : Box F (W.setCell ⟨X, 4, none⟩ u) X x0 x1 x2 x3 u x5 := ⟨by have := h.cells; simp [World.setCell, Array.getElem?_modify, this], h.far⟩
/-- A new box, and what is written there. -/
theorem RS.box {src : ByteArray} {F : Nat → Prop} {base B dep : Nat} {s : Rp.Rt} {nv : Value} {W : World} (h : RS src F base B dep s nv W) (y0 y1 y2 y3 y4 y5 : Value) :
    RS src (fun k => F k ∨ k = W.heap.size) base B dep s nv (W.alloc (.cells #[y0, y1, y2, y3, y4, y5] 38)) ∧ Chg B nv nv W (W.alloc (.cells #[y0, y1, y2, y3, y4, y5] 38)) ∧ Box (fun k => F k ∨ k = W.heap.size) (W.alloc (.cells #[y0, y1, y2, y3, y4, y5] 38)) W.heap.size y0 y1 y2 y3 y4 y5 :=
  ⟨h.more _, (Chg.refl B nv W).alloc _, ⟨Array.getElem?_push_size, .inr rfl⟩⟩
section
/-- A row of one's own beside the reader, begun behind w0. -/
structure KO (src : ByteArray) (F : Nat → Prop) (base B dep : Nat) (s : Rp.Rt) (nv : Value) (w0 W : World) (e : TypeId) (v : Value) (n : Nat) (xs : List Value) : Prop where
  rs : RS src (fun k => F k ∨ v.ownBlock = some k) base B dep s nv W
  own : W.ownsRow w0.heap.size e 1 v n xs
  sz : w0.heap.size ≤ W.heap.size
variable {src : ByteArray} {F : Nat → Prop} {base B dep : Nat} {s s' : Rp.Rt} {nv nv' : Value} {w0 W W' : World} {e : TypeId} {v : Value} {n : Nat} {xs : List Value}
theorem KO.nil (h : RS src F base B dep s nv W) (hs : w0.heap.size ≤ W.heap.size) : KO src F base B dep s nv w0 W e (.slice none 0 0) 0 [] :=
  ⟨h.less (fun k hk => by rcases hk with hk | hk; exact hk; simp [Value.ownBlock] at hk), ⟨rfl, .inl ⟨rfl, rfl⟩⟩, hs⟩
theorem KO.go (h : KO src F base B dep s nv w0 W e v n xs) (hr : RS src (fun k => F k ∨ v.ownBlock = some k) base B dep s' nv' W') (c : Chg B nv nv' W W') : KO src F base B dep s' nv' w0 W' e v n xs :=
  ⟨hr, own_keep h.own (fun k hk => c.block k (own_block h.own k hk).2 (h.rs.far k (.inr hk)).2.1 (h.rs.far k (.inr hk)).2.2), Nat.le_trans h.sz c.size⟩
/-- A new row out of what is written down. -/
theorem KO.lit (h : RS src F base B dep s nv W) (hs : w0.heap.size ≤ W.heap.size) (V : Array Value) (m : Nat) (hm : V.size = m) (h64 : m ≤ 100) : KO src F base B dep s nv w0 (W.alloc (.cells V e)) e (.slice (some ⟨W.heap.size, 0, none⟩) m m) m V.toList := by
  subst hm
  have hX : (W.alloc (.cells V e)).heap[W.heap.size]? = some (.cells V e (0, 0)) := Array.getElem?_push_size
  refine ⟨(h.more (.cells V e)).less (fun k hk => ?_), ⟨by simp, .inr ⟨_, _, V, rfl, hs, hX, Nat.le_refl _, by unfold maxLen; omega, by simp, by rw [Nat.mul_one]; exact List.take_of_length_le (by simp)⟩⟩, by rw [alloc_size']; omega⟩
  rcases hk with hk | hk
  · exact .inl hk
  · simp [Value.ownBlock] at hk; exact .inr hk.symm
/-- A row behind another one. -/
theorem KO.cat (h : KO src F base B dep s nv w0 W e v n xs) (t ty : TypeId) {bytes : Nat} {z : Value} {i0 : TypeInfo} (ht : Try.prog.underlying t = some (.slice e)) (hi : Try.prog.info? e = some i0) (hz0 : i0.zero = some z) (hz1 : i0.size = 1) (hz2 : i0.bytes = bytes) (hz3 : z.cells.size = 1) (hby : bytes ≤ 16)
    {W1 : World} (hW : Below W.heap.size W W1) (ad : Addr) (m c : Nat) (news : List Value) (hl : news.length = m) (hnews : ∀ j u, news[j]? = some u → W1.cell? (ad.add j) = some u) (h1 : ∀ u ∈ news, u.oneCell' = true) (hn : n + m ≤ 1000000) (hm : 1 ≤ m) :
    ∃ a' cap' w3, (Builtin.append_ #[t, t] ty #[v, .slice (some ad) m c]).run Try.prog W1 = .ok (.slice a' (n + m) cap') w3 ∧ KO src F base B dep s nv w0 w3 e (.slice a' (n + m) cap') (n + m) (xs ++ news) ∧ (∀ nv0, Chg B nv0 nv w0 W → Chg B nv0 nv w0 w3) := by
  have ho1 := own_below h.own hW
  have nl := own_block h.own
  obtain ⟨v', w3, hr, ho, hg, _, hat⟩ := run_append_own_at (P := Try.prog) W1 w0.heap.size t ty e i0 z 1 bytes ht hi hz0 hz1 hz2 hz3 (by decide) v n xs ho1 ad m c news (by omega) hnews h1 (by unfold maxLen; omega) (by
    have : (n + m) * bytes ≤ 1000000 * 16 := Nat.mul_le_mul hn hby
    omega) (Nat.le_trans h.sz hW.size)
  obtain ⟨a, cap, rfl⟩ : ∃ a cap, v' = .slice a (n + m) cap := by
    rcases ho.2 with ⟨_, e⟩ | ⟨g, cap, cur, e, _⟩
    · omega
    · exact ⟨_, _, e⟩
  have hsz : W.heap.size ≤ w3.heap.size := Nat.le_trans hW.size hg.size
  have nl' := own_block ho
  have hbl : ∀ k, k < W.heap.size → v.ownBlock ≠ some k → w3.heap[k]? = W.heap[k]? := fun k hk hne => (hg.block k (Nat.lt_of_lt_of_le hk hW.size) (fun e => hne e.symm)).trans (hW.block k hk)
  refine ⟨a, cap, w3, hr, ⟨h.rs.grow hsz (fun k hk hnf => hbl k hk (fun e => hnf (.inr e))) (fun k hk => ?_), ho, Nat.le_trans h.sz hsz⟩, fun nv0 c0 => ⟨hg.os.trans (hW.os.trans c0.os), hg.tape.trans (hW.tape.trans c0.tape), hg.output.trans (hW.output.trans c0.output), Nat.le_trans c0.size hsz, fun k hk h2 h3 => (hbl k (Nat.lt_of_lt_of_le hk c0.size) (fun e => by have := (nl k e).1; omega)).trans (c0.block k hk h2 h3), c0.fresh⟩⟩
  rcases hk with hk | hk
  · have := (h.rs.far k (.inl hk)).1
    exact ⟨.inl (.inl hk), by omega⟩
  · refine ⟨?_, (nl' k hk).2⟩
    rcases hat with e | e
    · exact .inl (.inr (e ▸ hk))
    · rw [e] at hk
      have hk' : W1.heap.size = k := by simpa using hk
      exact .inr (by have := hW.size; omega)
/-- One more behind a row. -/
theorem KO.more (h : KO src F base B dep s nv w0 W e v n xs) (t ty : TypeId) {bytes : Nat} {z : Value} {i0 : TypeInfo} (ht : Try.prog.underlying t = some (.slice e)) (hi : Try.prog.info? e = some i0) (hz0 : i0.zero = some z) (hz1 : i0.size = 1) (hz2 : i0.bytes = bytes) (hz3 : z.cells.size = 1) (hby : bytes ≤ 16)
    (x : Value) (h1 : x.oneCell' = true) (hn : n + 1 ≤ 1000000) :
    ∃ a' cap' w3, (Builtin.append_ #[t, t] ty #[v, .slice (some ⟨W.heap.size, 0, none⟩) 1 1]).run Try.prog (W.alloc (.cells #[x] e)) = .ok (.slice a' (n + 1) cap') w3 ∧ KO src F base B dep s nv w0 w3 e (.slice a' (n + 1) cap') (n + 1) (xs ++ [x]) ∧ (∀ nv0, Chg B nv0 nv w0 W → Chg B nv0 nv w0 w3) :=
  h.cat t ty ht hi hz0 hz1 hz2 hz3 hby ((Below.refl _ _).alloc (Nat.le_refl _) _) ⟨W.heap.size, 0, none⟩ 1 1 [x] rfl (fun j u hj => by
    have hj0 : j = 0 := by
      rcases Nat.lt_or_ge j 1 with h | h
      · omega
      · rw [List.getElem?_eq_none (by simpa using h)] at hj; cases hj
    subst hj0
    simp at hj; subst hj; simp [Addr.add]) (by intro u hu; simp at hu; subst hu; exact h1) hn (Nat.le_refl _)
theorem infoInt : (Try.prog.info? 3).map (fun i => (i.zero, i.size, i.bytes)) = some (some (.int .i64 0), 1, 8) := by kernel_rfl
theorem infoStr : (Try.prog.info? 9).map (fun i => (i.zero, i.size, i.bytes)) = some (some (.string ⟨#[]⟩), 1, 16) := by kernel_rfl
/-- Kids, names as cells. -/
abbrev kc (K : List Nat) : List Value := K.map fun k : Nat => Value.int .i64 (k : Int)
abbrev nc (N : List (List UInt8)) : List Value := N.map fun t : List UInt8 => Value.string ⟨t.toArray⟩
theorem KO.kid {K : List Nat} (h : KO src F base B dep s nv w0 W 3 v K.length (kc K)) (x : Nat) (hn : K.length + 1 ≤ 1000000) :
    ∃ a' cap' w3, (Builtin.append_ #[36, 36] 36 #[v, .slice (some ⟨W.heap.size, 0, none⟩) 1 1]).run Try.prog (W.alloc (.cells #[.int .i64 (x : Int)] 3)) = .ok (.slice a' (K.length + 1) cap') w3 ∧ KO src F base B dep s nv w0 w3 3 (.slice a' (K.length + 1) cap') (K ++ [x]).length (kc (K ++ [x])) ∧ (∀ nv0, Chg B nv0 nv w0 W → Chg B nv0 nv w0 w3) := by
  obtain ⟨i0, hi, hz0, hz1, hz2⟩ := info_of infoInt
  obtain ⟨a', cap', w3, hr, hk, hc⟩ := h.more 36 36 Try.underlying36 hi hz0 hz1 hz2 rfl (by omega) (.int .i64 (x : Int)) rfl hn
  exact ⟨a', cap', w3, hr, by simpa using hk, hc⟩
theorem KO.nm {N : List (List UInt8)} (h : KO src F base B dep s nv w0 W 9 v N.length (nc N)) (x : List UInt8) (hn : N.length + 1 ≤ 1000000) :
    ∃ a' cap' w3, (Builtin.append_ #[35, 35] 35 #[v, .slice (some ⟨W.heap.size, 0, none⟩) 1 1]).run Try.prog (W.alloc (.cells #[.string ⟨x.toArray⟩] 9)) = .ok (.slice a' (N.length + 1) cap') w3 ∧ KO src F base B dep s nv w0 w3 9 (.slice a' (N.length + 1) cap') (N ++ [x]).length (nc (N ++ [x])) ∧ (∀ nv0, Chg B nv0 nv w0 W → Chg B nv0 nv w0 w3) := by
  obtain ⟨i0, hi, hz0, hz1, hz2⟩ := info_of infoStr
  obtain ⟨a', cap', w3, hr, hk, hc⟩ := h.more 35 35 Try.underlying35 hi hz0 hz1 hz2 rfl (by omega) (.string ⟨x.toArray⟩) rfl hn
  exact ⟨a', cap', w3, hr, by simpa using hk, hc⟩
theorem own_cells (h : W.ownsRow base e 1 v n xs) : ∃ ad cap, v = .slice ad n cap ∧ n ≤ cap ∧ (n = 0 ∨ ∃ g, ad = some ⟨g, 0, none⟩ ∧ g < W.heap.size ∧ ∀ j, j < n → W.cell? ⟨g, j, none⟩ = xs[j]?) ∧ (∀ k, blockOf v = some k → v.ownBlock = some k) ∧ v.oneCell' = true := by
  have nl := own_block h
  rcases h.2 with ⟨rfl, rfl⟩ | ⟨g, cap, cur, rfl, h1, h2, h3, h4, h5, h6⟩
  · exact ⟨none, 0, rfl, Nat.le_refl _, .inl rfl, (fun k hk => nomatch hk), rfl⟩
  · refine ⟨_, cap, rfl, h3, .inr ⟨g, rfl, (nl g rfl).2, fun j hj => ?_⟩, fun k hk => by simpa [blockOf, Value.ownBlock] using hk, rfl⟩
    rw [← h6, List.getElem?_take, if_pos (by omega)]
    simp [World.cell?, h2]
/-- What was gathered, as kids. -/
theorem KO.kv {nv0 : Value} {s0 : Rp.Rt} {K : List Nat} (h0 : RS src F base B dep s0 nv0 w0) (h : KO src F base B dep s nv w0 W 3 v K.length (kc K)) : RS src F base B dep s nv W ∧ KV F B nv W v K := by
  refine ⟨h.rs.less (fun k hk => .inl hk), ?_⟩
  have nl := own_block h.own
  obtain ⟨ad, cap, hv, h1, h2, h3, h4⟩ := own_cells h.own
  refine ⟨⟨ad, cap, hv, h1, ?_⟩, fun k hk => ⟨(h.rs.far k (.inr (h3 k hk))).2.1, (h.rs.far k (.inr (h3 k hk))).2.2, fun hf => by have := (h0.far k hf).1; have := (nl k (h3 k hk)).1; omega⟩, fun k hk => (nl k (h3 k hk)).2, h4⟩
  rcases h2 with h2 | ⟨g, e, hg, hc⟩
  · exact .inl (List.length_eq_zero_iff.1 h2)
  · exact .inr ⟨g, e, hg, fun j hj => (hc j hj).trans (by simp [kc, hj])⟩
theorem KO.nmv {nv0 : Value} {s0 : Rp.Rt} {N : List (List UInt8)} (h0 : RS src F base B dep s0 nv0 w0) (h : KO src F base B dep s nv w0 W 9 v N.length (nc N)) : RS src F base B dep s nv W ∧ NV F B nv W v N := by
  refine ⟨h.rs.less (fun k hk => .inl hk), ?_⟩
  have nl := own_block h.own
  obtain ⟨ad, cap, hv, h1, h2, h3, h4⟩ := own_cells h.own
  refine ⟨⟨ad, cap, hv, h1, ?_⟩, fun k hk => ⟨(h.rs.far k (.inr (h3 k hk))).2.1, (h.rs.far k (.inr (h3 k hk))).2.2, fun hf => by have := (h0.far k hf).1; have := (nl k (h3 k hk)).1; omega⟩, fun k hk => (nl k (h3 k hk)).2, h4⟩
  rcases h2 with h2 | ⟨g, e, hg, hc⟩
  · exact .inl (List.length_eq_zero_iff.1 h2)
  · exact .inr ⟨g, e, hg, fun j hj => (hc j hj).trans (by simp [nc, hj])⟩
end
end Go.Proofs.Ytkaacmghgobhmaa.Rd
end
section
namespace Go.Proofs.Ytkaacmghgobhmaa.Rp
open Lx Ps
set_option linter.unusedVariables false
structure Pre (R : Rt → Rt → Prop) : Prop where
  refl : ∀ r, R r r
  trans : ∀ {a b c}, R a b → R b c → R a c
  move : ∀ r, R r (move r)
  spoil : ∀ r, R r (spoil r)
  put : ∀ n r, R r (put n r).2
section
variable {R : Rt → Rt → Prop}
def Kp {α : Type} (R : Rt → Rt → Prop) (f : Q α) : Prop := ∀ r, R r (f r).2
structure KpL (R : Rt → Rt → Prop) (L : Lr) : Prop where
  e : Kp R L.e
  u : Kp R L.u
  p : Kp R L.p
  s : Kp R L.s
theorem Pre.to {α : Type} (P : Pre R) {f : Q α} (hf : Kp R f) {a b : Rt} (h : R a b) : R a (f b).2 := P.trans h (hf b)
theorem Pre.ps (P : Pre R) {a b : Rt} (h : R a b) : R a (Rp.spoil b) := P.trans h (P.spoil b)
theorem Pre.pm (P : Pre R) {a b : Rt} (h : R a b) : R a (Rp.move b) := P.trans h (P.move b)
theorem Pre.pp (P : Pre R) {a b : Rt} (h : R a b) (n : Nd) : R a (Rp.put n b).2 := P.trans h (P.put n b)
theorem kp_has (P : Pre R) (m : List UInt8) : Kp R (has m) := fun r => by
  unfold has
  split
  · exact P.refl _
  · exact P.move r
theorem Pre.hs (P : Pre R) {a b c : Rt} {m : List UInt8} {x : Bool} (h : R a b) (e : has m b = (x, c)) : R a c := by
  have := P.to (kp_has P m) h
  rw [e] at this
  exact this
theorem kp_must (P : Pre R) (m : List UInt8) (r : Rt) : R r (must m r) := by
  unfold must
  split
  · rename_i h; exact P.hs (P.refl _) h
  · rename_i h; exact P.ps (P.hs (P.refl _) h)
theorem Pre.mu (P : Pre R) {a b : Rt} (h : R a b) (m : List UInt8) : R a (must m b) := P.trans h (kp_must P m b)
theorem kp_rname (P : Pre R) : Kp R rname := fun r => by
  unfold rname
  split
  · exact P.spoil r
  · exact P.move r
theorem kp_ende (P : Pre R) (r : Rt) : R r (ende r) := by
  unfold ende
  split
  · rename_i h; exact P.hs (P.refl _) h
  · rename_i h
    have := P.hs (P.refl _) h
    split
    · exact this
    · split
      · exact P.ps this
      · exact this
theorem Pre.en (P : Pre R) {a b : Rt} (h : R a b) : R a (ende b) := P.trans h (kp_ende P b)
theorem kp_listLoop (P : Pre R) {L : Lr} (hL : KpL R L) (last : Bool) : ∀ (f : Nat) (l : List Nat), Kp R (listLoop L last f l)
  | 0, l, r => P.refl _
  | f + 1, l, r => by
    unfold listLoop
    split
    · exact P.refl _
    · split
      · exact P.refl _
      · exact P.trans (hL.s r) (kp_listLoop P hL last f _ _)
theorem kp_list (P : Pre R) {L : Lr} (hL : KpL R L) (last : Bool) : Kp R (list L last) := fun r => kp_listLoop P hL last _ _ r
theorem kp_body (P : Pre R) {L : Lr} (hL : KpL R L) : Kp R (body L) := fun r => P.mu (P.to (kp_list P hL false) (P.mu (P.refl r) _)) _
theorem kp_block (P : Pre R) {L : Lr} (hL : KpL R L) : Kp R (block L) := fun r => P.pp (P.to (kp_body P hL) (P.refl r)) _
theorem kp_inner (P : Pre R) {L : Lr} (hL : KpL R L) : Kp R (inner L) := fun r => by
  unfold inner
  simp only
  split
  · split
    · exact P.spoil r
    · exact P.to hL.s (P.spoil r)
  · split
    · exact P.refl r
    · exact hL.s r
theorem kp_namesLoop (P : Pre R) : ∀ (f : Nat) (l : List (List UInt8)), Kp R (namesLoop f l)
  | 0, l, r => P.refl _
  | f + 1, l, r => by
    unfold namesLoop
    split
    · rename_i h; exact P.hs (P.refl _) h
    · rename_i h; exact P.to (kp_namesLoop P f _) (P.to (kp_rname P) (P.hs (P.refl _) h))
/-- The names between a function's parens. -/
def pars : Q (List (List UInt8)) := fun r => if isS [41] r then ([], r) else let x := rname r; namesLoop x.2.toks.length [x.1] x.2
theorem kp_pars (P : Pre R) : Kp R pars := fun r => by
  unfold pars
  split
  · exact P.refl r
  · exact P.to (kp_namesLoop P _ _) (P.to (kp_rname P) (P.refl r))
/-- A function's own name. -/
def fname (named : Bool) : Q (List UInt8) := fun r => if named || decide ((nx r).k = 3) then rname r else ([], r)
theorem kp_fname (P : Pre R) (named : Bool) : Kp R (fname named) := fun r => by
  unfold fname
  split
  · exact kp_rname P r
  · exact P.refl r
theorem kp_func (P : Pre R) {L : Lr} (hL : KpL R L) (named : Bool) : Kp R (func L named) := fun r =>
  P.pp (P.to (kp_body P hL) (P.mu (P.to (kp_pars P) (P.mu (P.to (kp_fname P named) (P.to (kp_has P [42]) (P.mu (P.refl r) _))) _)) _)) _
theorem kp_commasLoop (P : Pre R) {L : Lr} (hL : KpL R L) : ∀ (f : Nat) (l : List Nat), Kp R (commasLoop L f l)
  | 0, l, r => P.refl _
  | f + 1, l, r => by
    unfold commasLoop
    split
    · rename_i h; exact P.hs (P.refl _) h
    · rename_i h; exact P.to (kp_commasLoop P hL f _) (P.to hL.e (P.hs (P.refl _) h))
theorem kp_commas (P : Pre R) {L : Lr} (hL : KpL R L) (m : List UInt8) : Kp R (commas L m) := fun r => by
  unfold commas
  split
  · rename_i h; exact P.hs (P.refl _) h
  · rename_i h; exact P.mu (P.to (kp_commasLoop P hL _ _) (P.to hL.e (P.hs (P.refl _) h))) _
theorem kp_binLoop (P : Pre R) (row : List (List UInt8)) {sub : Q Nat} (hs : Kp R sub) : ∀ (f k : Nat), Kp R (binLoop row sub f k)
  | 0, k, r => P.refl _
  | f + 1, k, r => by
    unfold binLoop
    split
    · exact P.to (kp_binLoop P row hs f _) (P.pp (P.to hs (P.move r)) _)
    · exact P.refl _
theorem kp_bin (P : Pre R) {L : Lr} (hL : KpL R L) : ∀ row, Kp R (bin L row)
  | [], r => hL.u r
  | row :: rest, r => P.to (kp_binLoop P row (kp_bin P hL rest) _ _) (kp_bin P hL rest r)
theorem kp_cond (P : Pre R) {L : Lr} (hL : KpL R L) : Kp R (cond L) := fun r => by
  have h0 := kp_bin P hL rrows r
  unfold cond
  simp only
  split
  · exact h0
  · split
    · rename_i h; exact P.hs h0 h
    · rename_i h
      have h1 := P.mu (P.to hL.e (P.hs h0 h)) [58]
      split
      · exact h1
      · exact P.pp (P.to hL.e h1) _
theorem kp_assign (P : Pre R) {L : Lr} (hL : KpL R L) : Kp R (assign L) := fun r => by
  unfold assign
  simp only
  split
  · rename_i h; exact P.pp (P.to hL.e (P.hs (P.refl _) h)) _
  · rename_i h
    have h0 := P.to (kp_cond P hL) (P.hs (P.refl _) h)
    generalize cond L _ = k at *
    obtain ⟨k1, k2⟩ := k
    simp only at h0 ⊢
    cases k2.bad
    · simp only [Bool.false_eq_true, if_false]
      generalize isTarget _ = tt
      cases tt
      · exact h0
      · simp only [if_true]
        split
        · rename_i h'; exact P.hs h0 h'
        · rename_i h'; exact P.pp (P.to hL.e (P.hs h0 h')) _
    · exact h0
theorem kp_unary (P : Pre R) {L : Lr} (hL : KpL R L) : Kp R (unary L) := fun r => by
  unfold unary
  generalize (isS [33] r || isS [45] r || isS [116, 121, 112, 101, 111, 102] r) = c
  cases c
  · exact hL.p r
  · exact P.pp (P.to hL.u (P.move r)) _
theorem kp_objLoop (P : Pre R) {L : Lr} (hL : KpL R L) : ∀ (f : Nat) (N : List (List UInt8)) (K : List Nat), Kp R (objLoop L f N K)
  | 0, N, K, r => P.refl _
  | f + 1, N, K, r => by
    unfold objLoop
    simp only
    split
    · split
      · split
        · exact P.refl _
        · split
          · rename_i h; exact P.hs (P.to hL.e (P.mu (P.move r) _)) h
          · rename_i h; exact P.to (kp_objLoop P hL f _ _) (P.hs (P.to hL.e (P.mu (P.move r) _)) h)
      · split
        · exact P.spoil r
        · split
          · rename_i h; exact P.hs (P.to hL.e (P.mu (P.pm (P.spoil r)) _)) h
          · rename_i h; exact P.to (kp_objLoop P hL f _ _) (P.hs (P.to hL.e (P.mu (P.pm (P.spoil r)) _)) h)
    · exact P.refl _
theorem kp_object (P : Pre R) {L : Lr} (hL : KpL R L) (a : Nat) : Kp R (object L a) := fun r => by
  have h0 := kp_objLoop P hL (r.toks.length + 1) [] [] r
  unfold object
  split
  · rename_i h; rw [h] at h0; exact h0
  · rename_i h; rw [h] at h0; exact P.pp (P.mu h0 _) _
theorem kp_first (P : Pre R) {L : Lr} (hL : KpL R L) : Kp R (first L) := fun r => by
  unfold first
  simp only
  split
  · exact P.pp (P.move r) _
  split
  · exact P.pp (P.move r) _
  split
  · exact P.pp (P.move r) _
  split
  · exact P.pp (P.move r) _
  split
  · exact kp_func P hL false r
  split
  · rename_i h; exact P.mu (P.to hL.e (P.hs (P.refl _) h)) _
  rename_i h1
  have g1 := P.hs (P.refl _) h1
  split
  · rename_i h; exact P.pp (P.to (kp_commas P hL _) (P.hs g1 h)) _
  rename_i h2
  have g2 := P.hs g1 h2
  split
  · rename_i h; exact P.to (kp_object P hL _) (P.hs g2 h)
  · rename_i h; exact P.ps (P.hs g2 h)
theorem kp_postLoop (P : Pre R) {L : Lr} (hL : KpL R L) : ∀ (f k : Nat), Kp R (postLoop L f k)
  | 0, k, r => P.refl _
  | f + 1, k, r => by
    unfold postLoop
    simp only
    split
    · exact P.refl _
    split
    · rename_i h
      have g := P.hs (P.refl _) h
      split
      · exact P.ps g
      · exact P.to (kp_postLoop P hL f _) (P.pp (P.pm g) _)
    rename_i h1
    have g1 := P.hs (P.refl _) h1
    split
    · rename_i h; exact P.to (kp_postLoop P hL f _) (P.pp (P.mu (P.to hL.e (P.hs g1 h)) _) _)
    rename_i h2
    have g2 := P.hs g1 h2
    split
    · rename_i h; exact P.to (kp_postLoop P hL f _) (P.pp (P.to (kp_commas P hL _) (P.hs g2 h)) _)
    · rename_i h; exact P.hs g2 h
theorem kp_post (P : Pre R) {L : Lr} (hL : KpL R L) : Kp R (post L) := fun r => P.to (kp_postLoop P hL _ _) (kp_first P hL r)
theorem kp_one (P : Pre R) {L : Lr} (hL : KpL R L) : Kp R (one L) := fun r => by
  unfold one
  simp only
  split
  · exact kp_block P hL r
  split
  · exact P.pp (kp_func P hL true r) _
  split
  · rename_i h
    have g := P.to (kp_inner P hL) (P.mu (P.to hL.e (P.mu (P.hs (P.refl _) h) [40])) [41])
    split
    · rename_i h'; exact P.pp (P.to (kp_inner P hL) (P.hs g h')) _
    · rename_i h'; exact P.pp (P.hs g h') _
  rename_i h1
  have g1 := P.hs (P.refl _) h1
  split
  · rename_i h; exact P.pp (P.to (kp_inner P hL) (P.mu (P.to hL.e (P.mu (P.hs g1 h) _)) _)) _
  rename_i h2
  have g2 := P.hs g1 h2
  split
  · rename_i h; exact P.pp (P.en (P.hs g2 h)) _
  rename_i h3
  have g3 := P.hs g2 h3
  split
  · rename_i h; exact P.pp (P.en (P.hs g3 h)) _
  rename_i h4
  have g4 := P.hs g3 h4
  split
  · rename_i h
    have g := P.hs g4 h
    split
    · exact P.pp (P.en (P.to hL.e g)) _
    · exact P.pp (P.en g) _
  rename_i h5
  have g5 := P.hs g4 h5
  split
  · rename_i h
    have g := P.hs g5 h
    split
    · exact P.pp (P.en (P.to hL.e (P.ps g))) _
    · exact P.pp (P.en (P.to hL.e g)) _
  rename_i h6
  have g6 := P.hs g5 h6
  split
  · rename_i h
    exact P.pp (P.to (kp_block P hL) (P.mu (P.to (kp_rname P) (P.mu (P.mu (P.to (kp_block P hL) (P.hs g6 h)) _) _)) _)) _
  rename_i h7
  have g7 := P.hs g6 h7
  split
  · exact P.pp (P.en (P.to hL.e (P.mu (P.to (kp_rname P) (P.pm g7)) _))) _
  · have g8 := P.en (P.to hL.e g7)
    split
    · exact g8
    · exact P.pp g8 _
theorem kp_deeper (P : Pre R) {f : Q Nat} (hf : Kp R f) : Kp R (deeper f) := fun r => by
  unfold deeper
  split
  · exact P.refl r
  · exact hf r
theorem kp_rl (P : Pre R) : ∀ d, KpL R (rl d)
  | 0 => ⟨P.spoil, P.spoil, P.spoil, P.spoil⟩
  | d + 1 => ⟨kp_deeper P (kp_assign P (kp_rl P d)), kp_deeper P (kp_unary P (kp_rl P d)), kp_deeper P (kp_post P (kp_rl P d)), kp_deeper P (kp_one P (kp_rl P d))⟩
end
/-- Nodes only grow. -/
theorem pre_len : Pre (fun a b => a.nodes.length ≤ b.nodes.length) where
  refl := fun _ => Nat.le_refl _
  trans := Nat.le_trans
  move := fun r => by unfold move; split <;> exact Nat.le_refl _
  spoil := fun r => Nat.le_refl _
  put := fun n r => by show _ ≤ (r.nodes ++ [n]).length; simp
end Go.Proofs.Ytkaacmghgobhmaa.Rp
end
section
namespace Go.Proofs.Ytkaacmghgobhmaa.Rp
open Lx Ps
set_option linter.unusedVariables false
theorem has_keep {m : List UInt8} {r r' : Rt} {b : Bool} (h : has m r = (b, r')) : r'.nodes = r.nodes ∧ r'.bad = r.bad := by
  unfold has at h
  split at h
  · cases h; exact ⟨rfl, rfl⟩
  · cases h; unfold move; split <;> exact ⟨rfl, rfl⟩
theorem has_no {m : List UInt8} {r r' : Rt} (h : has m r = (false, r')) : r' = r := by
  unfold has at h
  split at h
  · cases h; rfl
  · cases h
/-- What a function tells is a node, where it is not bad. -/
def Ix (f : Q Nat) : Prop := ∀ r, (f r).2.bad = false → (f r).1 < (f r).2.nodes.length
structure IxL (L : Lr) : Prop where
  e : Ix L.e
  u : Ix L.u
  p : Ix L.p
  s : Ix L.s
theorem put_ix (n : Nd) : Ix (put n) := fun r _ => by show r.nodes.length < (r.nodes ++ [n]).length; simp
theorem put_ix' (n : Nd) (r : Rt) : (put n r).1 < (put n r).2.nodes.length := by show r.nodes.length < (r.nodes ++ [n]).length; simp
theorem bad_put (n : Nd) (r : Rt) : (put n r).2.bad = r.bad := rfl
/-- What is bad stays bad. -/
theorem pre_bad : Pre (fun a b => a.bad = true → b.bad = true) where
  refl := fun _ h => h
  trans := fun h k e => k (h e)
  move := fun r h => by unfold move; split <;> exact h
  spoil := fun r h => rfl
  put := fun n r h => h
theorem good_of {α : Type} {f : Q α} (hf : Kp (fun a b => a.bad = true → b.bad = true) f) {r : Rt} (h : (f r).2.bad = false) : r.bad = false := by
  cases e : r.bad
  · rfl
  · have := hf r e; rw [h] at this; cases this
theorem ix_binLoop (row : List (List UInt8)) {sub : Q Nat} (hs : Ix sub) (hg : Kp (fun a b => a.nodes.length ≤ b.nodes.length) sub) : ∀ (f k : Nat) (r : Rt), k < r.nodes.length → (binLoop row sub f k r).1 < (binLoop row sub f k r).2.nodes.length
  | 0, k, r, h => h
  | f + 1, k, r, h => by
    unfold binLoop
    split
    · exact ix_binLoop row hs hg f _ _ (put_ix' _ _)
    · exact h
theorem ix_bin {L : Lr} (hL : IxL L) (hg : KpL (fun a b => a.nodes.length ≤ b.nodes.length) L) (hb : KpL (fun a b => a.bad = true → b.bad = true) L) : ∀ row, Ix (bin L row)
  | [], r, h => hL.u r h
  | row :: rest, r, h => by
    have e : bin L (row :: rest) r = binLoop row (bin L rest) (bin L rest r).2.toks.length (bin L rest r).1 (bin L rest r).2 := rfl
    rw [e] at h ⊢
    have hb0 := good_of (kp_binLoop pre_bad row (kp_bin pre_bad hb rest) _ _) h
    exact ix_binLoop row (ix_bin hL hg hb rest) (kp_bin pre_len hg rest) _ _ _ (ix_bin hL hg hb rest r hb0)
theorem ix_cond {L : Lr} (hL : IxL L) (hg : KpL (fun a b => a.nodes.length ≤ b.nodes.length) L) (hb : KpL (fun a b => a.bad = true → b.bad = true) L) : Ix (cond L) := fun r h => by
  have h0 := ix_bin hL hg hb rrows r
  unfold cond at h ⊢
  simp only at h ⊢
  generalize bin L rrows r = k at *
  obtain ⟨k1, k2⟩ := k
  simp only at h0 h ⊢
  by_cases hk : k2.bad = true
  · rw [if_pos hk] at h ⊢; exact h0 h
  rw [if_neg hk] at h ⊢
  have hk' : k2.bad = false := by simpa using hk
  cases e : has [63] k2 with
  | mk b r1 =>
  rw [e] at h
  cases b
  · simp only; rw [has_no e]; exact h0 hk'
  · simp only at h ⊢
    generalize must [58] (L.e r1).2 = r2 at *
    by_cases h2 : r2.bad = true
    · rw [if_pos h2] at h; rw [h2] at h; cases h
    · rw [if_neg h2] at h ⊢
      exact put_ix' _ _
theorem ix_assign {L : Lr} (hL : IxL L) (hg : KpL (fun a b => a.nodes.length ≤ b.nodes.length) L) (hb : KpL (fun a b => a.bad = true → b.bad = true) L) : Ix (assign L) := fun r h => by
  unfold assign at h ⊢
  simp only at h ⊢
  cases e : has [121, 105, 101, 108, 100] r with
  | mk b r1 =>
  rw [e] at h
  cases b
  · simp only at h ⊢
    have h0 := ix_cond hL hg hb r1
    generalize cond L r1 = k at *
    obtain ⟨k1, k2⟩ := k
    simp only at h0 h ⊢
    by_cases hk : k2.bad = true
    · rw [if_pos hk] at h; rw [hk] at h; cases h
    rw [if_neg hk] at h ⊢
    have hk' : k2.bad = false := by simpa using hk
    by_cases ht : isTarget (k2.nodes.getD k1 {}).k = true
    · rw [if_pos ht] at h ⊢
      cases e2 : has [61] k2 with
      | mk b r3 =>
      rw [e2] at h
      cases b
      · simp only; rw [has_no e2]; exact h0 hk'
      · exact put_ix' _ _
    · rw [if_neg ht] at h ⊢
      exact h0 hk'
  · exact put_ix' _ _
theorem ix_unary {L : Lr} (hL : IxL L) : Ix (unary L) := fun r h => by
  unfold unary at h ⊢
  generalize (isS [33] r || isS [45] r || isS [116, 121, 112, 101, 111, 102] r) = c at *
  cases c
  · exact hL.p r h
  · exact put_ix' _ _
theorem objLoop_none {L : Lr} : ∀ (f : Nat) (N : List (List UInt8)) (K : List Nat) (r r' : Rt), objLoop L f N K r = (none, r') → r'.bad = true
  | 0, N, K, r, r', h => by unfold objLoop at h; cases h
  | f + 1, N, K, r, r', h => by
    unfold objLoop at h
    simp only at h
    split at h
    · generalize (if (nx r).k = 3 ∨ (nx r).k = 4 ∨ (nx r).k = 2 then r else spoil r) = r1 at h
      by_cases hb : r1.bad = true
      · rw [if_pos hb] at h; cases h; exact hb
      · rw [if_neg hb] at h
        generalize has [44] (L.e (must [58] (move r1))).2 = p at h
        obtain ⟨b, r2⟩ := p
        cases b
        · cases h
        · exact objLoop_none f _ _ _ _ h
    · cases h
theorem ix_object {L : Lr} (a : Nat) : Ix (object L a) := fun r h => by
  unfold object at h ⊢
  cases e : objLoop L (r.toks.length + 1) [] [] r with
  | mk o r1 =>
  rw [e] at h
  cases o with
  | none => simp only at h; rw [objLoop_none _ _ _ _ _ e] at h; cases h
  | some p => exact put_ix' _ _
theorem ix_first {L : Lr} (hL : IxL L) (hb : KpL (fun a b => a.bad = true → b.bad = true) L) (hg : KpL (fun a b => a.nodes.length ≤ b.nodes.length) L) : Ix (first L) := fun r => by
  unfold first
  simp only
  split
  · exact fun _ => put_ix' _ _
  split
  · exact fun _ => put_ix' _ _
  split
  · exact fun _ => put_ix' _ _
  split
  · exact fun _ => put_ix' _ _
  split
  · exact fun _ => put_ix' _ _
  split
  · rename_i r1 h1
    intro h
    have hb1 : (L.e r1).2.bad = false := by
      cases e : (L.e r1).2.bad
      · rfl
      · have := kp_must pre_bad [41] (L.e r1).2 e; rw [h] at this; cases this
    exact Nat.lt_of_lt_of_le (hL.e r1 hb1) (kp_must pre_len [41] (L.e r1).2)
  split
  · exact fun _ => put_ix' _ _
  split
  · exact ix_object _ _
  · intro h; cases h
theorem ix_postLoop {L : Lr} : ∀ (f k : Nat) (r : Rt), (r.bad = false → k < r.nodes.length) → (postLoop L f k r).2.bad = false → (postLoop L f k r).1 < (postLoop L f k r).2.nodes.length
  | 0, k, r, h => h
  | f + 1, k, r, h => by
    unfold postLoop
    simp only
    split
    · exact h
    rename_i hb
    have hb' : r.bad = false := by simpa using hb
    split
    · split
      · intro h; cases h
      · exact ix_postLoop f _ _ (fun _ => put_ix' _ _)
    rename_i h1
    split
    · exact ix_postLoop f _ _ (fun _ => put_ix' _ _)
    rename_i h2
    split
    · exact ix_postLoop f _ _ (fun _ => put_ix' _ _)
    · rename_i h3
      rw [has_no h1] at h2
      rw [has_no h2] at h3
      rw [has_no h3]
      exact h
theorem ix_post {L : Lr} (hL : IxL L) (hb : KpL (fun a b => a.bad = true → b.bad = true) L) (hg : KpL (fun a b => a.nodes.length ≤ b.nodes.length) L) : Ix (post L) := fun r h => by
  have e : post L r = postLoop L (first L r).2.toks.length (first L r).1 (first L r).2 := rfl
  rw [e] at h ⊢
  exact ix_postLoop _ _ _ (ix_first hL hb hg r) h
theorem ix_one {L : Lr} : Ix (one L) := fun r => by
  unfold one
  simp only
  split
  · exact fun _ => put_ix' _ _
  split
  · exact fun _ => put_ix' _ _
  split
  · split
    · exact fun _ => put_ix' _ _
    · exact fun _ => put_ix' _ _
  split
  · exact fun _ => put_ix' _ _
  split
  · exact fun _ => put_ix' _ _
  split
  · exact fun _ => put_ix' _ _
  split
  · split
    · exact fun _ => put_ix' _ _
    · exact fun _ => put_ix' _ _
  split
  · split
    · exact fun _ => put_ix' _ _
    · exact fun _ => put_ix' _ _
  split
  · exact fun _ => put_ix' _ _
  split
  · exact fun _ => put_ix' _ _
  · rename_i r1 _ _
    intro h
    by_cases hb : (ende (L.e r1).2).bad = true
    · rw [if_pos hb] at h; rw [hb] at h; cases h
    · rw [if_neg hb]; exact put_ix' _ _
theorem ix_deeper {f : Q Nat} (hf : Ix f) : Ix (deeper f) := fun r h => by
  unfold deeper at h ⊢
  by_cases hb : r.bad = true
  · rw [if_pos hb] at h; rw [hb] at h; cases h
  · rw [if_neg hb] at h ⊢; exact hf r h
theorem ix_rl : ∀ d, IxL (rl d)
  | 0 => ⟨fun r h => (nomatch h), fun r h => (nomatch h), fun r h => (nomatch h), fun r h => (nomatch h)⟩
  | d + 1 => ⟨ix_deeper (ix_assign (ix_rl d) (kp_rl pre_len d) (kp_rl pre_bad d)), ix_deeper (ix_unary (ix_rl d)), ix_deeper (ix_post (ix_rl d) (kp_rl pre_bad d) (kp_rl pre_len d)), ix_deeper ix_one⟩
end Go.Proofs.Ytkaacmghgobhmaa.Rp
end
