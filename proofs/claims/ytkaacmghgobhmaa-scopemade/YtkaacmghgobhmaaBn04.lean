/- Texts: QW QR QS. -/
import Derived.Test.YtkaacmghgobhmaaBn03
import Derived.Maps.AppendAt
import Derived.Deep.RegionLaw
import Derived.BigRegion
section
namespace Go.Proofs.Ytkaacmghgobhmaa.Rd
open Go.RowKit
open L (tkA own_block own_below intOf info_of size_list)
set_option linter.unusedVariables false
def blockOf : Value → Option Nat
  | .slice (some a) _ _ => some a.block
  | _ => none
/-- Numbers, texts in a row that is never written again. -/
def KidsIn (W : World) (v : Value) (l : List Nat) : Prop := ∃ (ad : Option Addr) (cap : Nat), v = .slice ad l.length cap ∧ l.length ≤ cap ∧ (l = [] ∨ ∃ g, ad = some ⟨g, 0, none⟩ ∧ g < W.heap.size ∧ ∀ j (h : j < l.length), W.cell? ⟨g, j, none⟩ = some (.int .i64 (l[j] : Int)))
def NamesIn (W : World) (v : Value) (l : List (List UInt8)) : Prop := ∃ (ad : Option Addr) (cap : Nat), v = .slice ad l.length cap ∧ l.length ≤ cap ∧ (l = [] ∨ ∃ g, ad = some ⟨g, 0, none⟩ ∧ g < W.heap.size ∧ ∀ j (h : j < l.length), W.cell? ⟨g, j, none⟩ = some (.string ⟨l[j].toArray⟩))
/-- What of a value's block may not be written: it is neither the reader's nor the nodes' own. -/
def Apart (F : Nat → Prop) (B : Nat) (nv v : Value) : Prop := ∀ k, blockOf v = some k → k ≠ B ∧ nv.ownBlock ≠ some k ∧ ¬ F k
/-- A node's six cells. -/
abbrev ndA (n : Ps.Nd) (nm kd : Value) : Array Value := #[.int .i64 (n.k : Int), .int .i64 (n.n : Int), .string ⟨n.t.toArray⟩, nm, kd, .int .i64 (n.a : Int)]
/-- What a node needs: its names, its kids. -/
structure NdIn (F : Nat → Prop) (W : World) (B : Nat) (nv : Value) (n : Ps.Nd) (nm kd : Value) : Prop where
  names : NamesIn W nm n.names
  kids : KidsIn W kd n.kids
  anm : Apart F B nv nm
  akd : Apart F B nv kd
  lnm : ∀ k, blockOf nm = some k → k < W.heap.size
  lkd : ∀ k, blockOf kd = some k → k < W.heap.size
/-- The nodes' values of names and of kids, in a row. -/
def ndCells (ns : List (Ps.Nd × Value × Value)) : List Value := ns.flatMap fun x => (ndA x.1 x.2.1 x.2.2).toList
/-- What the reader's functions leave of the world: all but the reader's block and the nodes' own. -/
structure Chg (B : Nat) (nv nv' : Value) (w w' : World) : Prop where
  os : w'.os = w.os
  tape : w'.tape = w.tape
  output : w'.output = w.output
  size : w.heap.size ≤ w'.heap.size
  block : ∀ k, k < w.heap.size → k ≠ B → nv.ownBlock ≠ some k → w'.heap[k]? = w.heap[k]?
  fresh : ∀ k, nv'.ownBlock = some k → nv.ownBlock = some k ∨ w.heap.size ≤ k
theorem Chg.refl (B : Nat) (nv : Value) (w : World) : Chg B nv nv w w := ⟨rfl, rfl, rfl, Nat.le_refl _, fun _ _ _ _ => rfl, fun _ h => .inl h⟩
theorem Chg.trans {B : Nat} {a b c : Value} {w w1 w2 : World} (h : Chg B a b w w1) (k : Chg B b c w1 w2) : Chg B a c w w2 where
  os := k.os.trans h.os
  tape := k.tape.trans h.tape
  output := k.output.trans h.output
  size := Nat.le_trans h.size k.size
  block := fun j h1 h2 h3 => (k.block j (Nat.lt_of_lt_of_le h1 h.size) h2 (fun e => by
    rcases h.fresh j e with e | e
    · exact h3 e
    · omega)).trans (h.block j h1 h2 h3)
  fresh := fun j e => by
    rcases k.fresh j e with e | e
    · exact h.fresh j e
    · exact .inr (Nat.le_trans h.size e)
theorem Chg.below {B : Nat} (nv : Value) {w w' : World} (h : Below w.heap.size w w') : Chg B nv nv w w' := ⟨h.os, h.tape, h.output, h.size, fun k hk _ _ => h.block k hk, fun _ h => .inl h⟩
theorem Chg.toBelow {B b : Nat} {nv nv' : Value} {w w' : World} (h : Chg B nv nv' w w') (hB : b ≤ B) (hn : ∀ k, nv.ownBlock = some k → b ≤ k) (hw : b ≤ w.heap.size) : Below b w w' :=
  ⟨h.os, h.tape, h.output, h.size, fun k hk => h.block k (by omega) (by omega) (fun e => by have := hn k e; omega)⟩
theorem cell_of_block {W W' : World} {g : Nat} (h : W'.heap[g]? = W.heap[g]?) (j : Nat) : W'.cell? ⟨g, j, none⟩ = W.cell? ⟨g, j, none⟩ := by
  unfold World.cell?; rw [h]
/-- What is apart stays. -/
theorem Apart.go {F : Nat → Prop} {B : Nat} {nv nv' v : Value} {w w' : World} (h : Apart F B nv v) (hl : ∀ k, blockOf v = some k → k < w.heap.size) (c : Chg B nv nv' w w') : Apart F B nv' v := fun k hk =>
  ⟨(h k hk).1, fun e => by
    rcases c.fresh k e with e | e
    · exact (h k hk).2.1 e
    · have := hl k hk; omega, (h k hk).2.2⟩
theorem KidsIn.lt {W : World} {v : Value} {l : List Nat} (h : KidsIn W v l) (hl : l ≠ []) : ∀ k, blockOf v = some k → k < W.heap.size := fun k hk => by
  obtain ⟨ad, cap, rfl, _, h⟩ := h
  obtain ⟨g, rfl, h1, _⟩ := h.resolve_left hl
  have : g = k := by simpa [blockOf] using hk
  omega
theorem KidsIn.go {F : Nat → Prop} {B : Nat} {nv nv' v : Value} {w w' : World} {l : List Nat} (h : KidsIn w v l) (ha : Apart F B nv v) (c : Chg B nv nv' w w') : KidsIn w' v l := by
  obtain ⟨ad, cap, rfl, hc, h⟩ := h
  refine ⟨ad, cap, rfl, hc, ?_⟩
  rcases h with h | ⟨g, rfl, h1, h2⟩
  · exact .inl h
  · have hg := ha g rfl
    exact .inr ⟨g, rfl, Nat.lt_of_lt_of_le h1 c.size, fun j hj => (cell_of_block (c.block g h1 hg.1 hg.2.1) j).trans (h2 j hj)⟩
theorem NamesIn.go {F : Nat → Prop} {B : Nat} {nv nv' v : Value} {w w' : World} {l : List (List UInt8)} (h : NamesIn w v l) (ha : Apart F B nv v) (c : Chg B nv nv' w w') : NamesIn w' v l := by
  obtain ⟨ad, cap, rfl, hc, h⟩ := h
  refine ⟨ad, cap, rfl, hc, ?_⟩
  rcases h with h | ⟨g, rfl, h1, h2⟩
  · exact .inl h
  · have hg := ha g rfl
    exact .inr ⟨g, rfl, Nat.lt_of_lt_of_le h1 c.size, fun j hj => (cell_of_block (c.block g h1 hg.1 hg.2.1) j).trans (h2 j hj)⟩
theorem NdIn.go {F : Nat → Prop} {B : Nat} {nv nv' nm kd : Value} {w w' : World} {n : Ps.Nd} (h : NdIn F w B nv n nm kd) (c : Chg B nv nv' w w') : NdIn F w' B nv' n nm kd :=
  ⟨h.names.go h.anm c, h.kids.go h.akd c, h.anm.go h.lnm c, h.akd.go h.lkd c, fun k hk => Nat.lt_of_lt_of_le (h.lnm k hk) c.size, fun k hk => Nat.lt_of_lt_of_le (h.lkd k hk) c.size⟩
theorem alloc_size' (w : World) (o : Obj) : (w.alloc o).heap.size = w.heap.size + 1 := Array.size_push _
theorem own_keep {w w' : World} {B : Nat} {e : TypeId} {z : Nat} {v : Value} {n : Nat} {xs : List Value} (h : w.ownsRow B e z v n xs) (hb : ∀ k, v.ownBlock = some k → w'.heap[k]? = w.heap[k]?) : w'.ownsRow B e z v n xs := by
  rcases h.2 with ⟨e, e0⟩ | ⟨g, cap, cur, e, e1, e2, e3⟩
  · exact ⟨h.1, .inl ⟨e, e0⟩⟩
  · exact ⟨h.1, .inr ⟨g, cap, cur, e, e1, (hb g (by rw [e]; rfl)).trans e2, e3⟩⟩
theorem Chg.setB (B : Nat) (nv : Value) (w : World) (i : Nat) (u : Value) : Chg B nv nv w (w.setCell ⟨B, i, none⟩ u) :=
  ⟨rfl, rfl, rfl, by simp [World.setCell], fun k _ h2 _ => Below.heap_setCell _ _ _ _ (by show k ≠ B; exact h2), fun _ h => .inl h⟩
theorem Chg.alloc {B : Nat} {nv nv' : Value} {w W : World} (h : Chg B nv nv' w W) (o : Obj) : Chg B nv nv' w (W.alloc o) :=
  ⟨h.os, h.tape, h.output, by rw [alloc_size']; exact Nat.le_succ_of_le h.size, fun k h1 h2 h3 => (Below.heap_alloc W o k (Nat.lt_of_lt_of_le h1 h.size)).trans (h.block k h1 h2 h3), h.fresh⟩
theorem Chg.drew {B : Nat} {nv nv' : Value} {w W : World} (h : Chg B nv nv' w W) : Chg B nv nv' w W.drew := ⟨h.os, h.tape, h.output, h.size, h.block, h.fresh⟩
theorem Chg.setX {B : Nat} {nv nv' : Value} {w W : World} (h : Chg B nv nv' w W) {X : Nat} (hX : w.heap.size ≤ X) (i : Nat) (u : Value) : Chg B nv nv' w (W.setCell ⟨X, i, none⟩ u) :=
  ⟨h.os, h.tape, h.output, by simpa [World.setCell] using h.size, fun k h1 h2 h3 => (Below.heap_setCell W ⟨X, i, none⟩ u k (by show k ≠ X; omega)).trans (h.block k h1 h2 h3), h.fresh⟩
theorem Chg.setBB {B : Nat} {nv nv' : Value} {w W : World} (h : Chg B nv nv' w W) (i : Nat) (u : Value) : Chg B nv nv' w (W.setCell ⟨B, i, none⟩ u) :=
  ⟨h.os, h.tape, h.output, by simpa [World.setCell] using h.size, fun k h1 h2 h3 => (Below.heap_setCell W ⟨B, i, none⟩ u k h2).trans (h.block k h1 h2 h3), h.fresh⟩
/-- All but one block stays. -/
abbrev ChgB (B : Nat) (w W : World) : Prop := Chg B (.slice none 0 0) (.slice none 0 0) w W
theorem ChgB.chg {B : Nat} {w W : World} (h : ChgB B w W) (nv : Value) : Chg B nv nv w W := ⟨h.os, h.tape, h.output, h.size, fun k h1 h2 _ => h.block k h1 h2 (by simp [Value.ownBlock]), fun _ h => .inl h⟩
theorem ChgB.keep {B : Nat} {w W : World} (h : ChgB B w W) {base : Nat} {e : TypeId} {z : Nat} {v : Value} {n : Nat} {xs : List Value} (ho : w.ownsRow base e z v n xs) (hB : v.ownBlock ≠ some B) : ∀ k, v.ownBlock = some k → W.heap[k]? = w.heap[k]? := fun k hk =>
  h.block k (own_block ho k hk).2 (fun e => hB (by rw [hk, e])) (by simp [Value.ownBlock])
theorem infoND : (Try.prog.info? 38).map (fun i => (i.zero, i.size, i.bytes)) = some (some (.agg #[.int .i64 0, .int .i64 0, .string ⟨#[]⟩, .slice none 0 0, .slice none 0 0, .int .i64 0]), 6, 88) := by kernel_rfl
theorem ndCells_snoc (vs : List (Ps.Nd × Value × Value)) (x : Ps.Nd × Value × Value) : ndCells vs ++ (ndA x.1 x.2.1 x.2.2).toList = ndCells (vs ++ [x]) := by simp [ndCells]
/-- What an append of a node leaves. -/
structure Added (base : Nat) (w : World) (nv : Value) (vs : List (Ps.Nd × Value × Value)) (x : Ps.Nd × Value × Value) (v' : Value) (w' : World) : Prop where
  form : ∃ ad cap, v' = .slice ad (vs.length + 1) cap
  own : w'.ownsRow base 38 6 v' (vs ++ [x]).length (ndCells (vs ++ [x]))
  os : w'.os = w.os
  tape : w'.tape = w.tape
  output : w'.output = w.output
  size : w.heap.size ≤ w'.heap.size
  block : ∀ k, k < w.heap.size → nv.ownBlock ≠ some k → w'.heap[k]? = w.heap[k]?
  fresh : ∀ k, v'.ownBlock = some k → nv.ownBlock = some k ∨ w.heap.size ≤ k
theorem nd_more {base : Nat} {w W : World} {nv : Value} {vs : List (Ps.Nd × Value × Value)} (h : w.ownsRow base 38 6 nv vs.length (ndCells vs)) (hB : base ≤ w.heap.size) (hl : vs.length ≤ 1000000000) (x : Ps.Nd × Value × Value) (h1 : x.2.1.oneCell' = true) (h2 : x.2.2.oneCell' = true) (ty : TypeId)
    (hW : Below w.heap.size w W) (X : Nat) (hX : W.heap[X]? = some (.cells (ndA x.1 x.2.1 x.2.2) 38 (0, 0))) :
    ∃ v' w', (Builtin.append_ #[29, 29] ty #[nv, .slice (some ⟨X, 0, none⟩) 1 1]).run Try.prog W = .ok v' w' ∧ Added base w nv vs x v' w' := by
  obtain ⟨i0, hi, hz0, hz1, hz2⟩ := info_of infoND
  have hown := own_block h
  obtain ⟨v', w3, hr, ho, hg, _, hat⟩ := run_append_own_at (P := Try.prog) W base 29 ty 38 i0 _ 6 88 Try.underlying29 hi hz0 hz1 hz2 rfl (by decide) nv vs.length (ndCells vs) (own_below h hW) ⟨X, 0, none⟩ 1 1 (ndA x.1 x.2.1 x.2.2).toList rfl (by
      intro j u hj
      have hj6 : j < 6 := by
        rcases Nat.lt_or_ge j 6 with h | h
        · exact h
        · rw [List.getElem?_eq_none (by simpa using h)] at hj; cases hj
      have hc : W.cell? ⟨X, j, none⟩ = (ndA x.1 x.2.1 x.2.2)[j]? := by unfold World.cell?; rw [hX]; rfl
      rw [show (⟨X, 0, none⟩ : Addr).add j = ⟨X, j, none⟩ by unfold Addr.add; split <;> simp_all, hc]
      simpa using hj) (by intro u hu; simp at hu; rcases hu with rfl | rfl | rfl | rfl | rfl | rfl <;> first | exact h1 | exact h2 | rfl) (by unfold maxLen; omega) (by omega) (Nat.le_trans hB hW.size)
  obtain ⟨a, cap, rfl⟩ : ∃ a cap, v' = .slice a (vs.length + 1) cap := by
    rcases ho.2 with ⟨_, e⟩ | ⟨g, cap, cur, e, _⟩
    · omega
    · exact ⟨_, _, e⟩
  rw [ndCells_snoc] at ho
  refine ⟨_, w3, hr, ⟨a, cap, rfl⟩, by simpa using ho, hg.os.trans hW.os, hg.tape.trans hW.tape, hg.output.trans hW.output, Nat.le_trans hW.size hg.size, fun k hk hn => (hg.block k (Nat.lt_of_lt_of_le hk hW.size) (fun e => hn e.symm)).trans (hW.block k hk), fun k hk => ?_⟩
  rcases hat with e | e
  · exact .inl (e ▸ hk)
  · rw [e] at hk
    have := hW.size
    exact .inr (by simp at hk; omega)
/-- An append whose run is known, as one step of a region that draws. -/
theorem step_append_ex {P : Program} {ops : Array Oper} {o : Oper} {a : Act} {w : World} {K : Act → World → Prop} {Q : Exit → Act → World → Prop} {E : Prop} (hgd : o.guard = none) (s x : Operand) (t : TypeId)
    (ho : o.op = .call { callee := .builtin .append, args := #[s, x], argTypes := #[t, t] }) (v y : Value) (hs : a.eval s = v) (hx : a.eval x = y) (R : Value → World → Prop)
    (hr : ∃ v' w', (Builtin.append_ #[t, t] o.type #[v, y]).run P w = .ok v' w' ∧ R v' w') (h : ∀ v' w', R v' w' → K (a.put o.dst v') w') :
    if Region.wanted o (yielded ops a.tmps) = true then Oper.wp P o a w K Q else E := by
  have hw : Region.wanted o (yielded ops a.tmps) = true := by simp [Region.wanted, hgd]
  rw [if_pos hw]
  obtain ⟨v', w', h1, h2⟩ := hr
  unfold Oper.wp execOp
  simp only [ho, resolve, invoke, builtin, Sem.run_bind, Sem.run_pure, Result.andThen_ok, List.map_toArray, List.map_cons, List.map_nil, hs, hx, h1]
  exact h v' w' h2
theorem Added.drew {base : Nat} {w w' : World} {nv v' : Value} {vs : List (Ps.Nd × Value × Value)} {x : Ps.Nd × Value × Value} (h : Added base w nv vs x v' w') : Added base w nv vs x v' w'.drew :=
  ⟨h.form, own_below h.own (Below.refl _ _).drew, h.os, h.tape, h.output, h.size, h.block, h.fresh⟩
theorem heap_alloc_new (w : World) (V : Array Value) (t : TypeId) : (w.alloc (.cells V t)).heap[w.heap.size]? = some (.cells V t (0, 0)) := Array.getElem?_push_size
theorem alloc_drew_new (w : World) (V : Array Value) (t : TypeId) : (w.alloc (.cells V t)).drew.heap[w.heap.size]? = some (.cells V t (0, 0)) := Array.getElem?_push_size
theorem alloc2_new (w : World) (o : Obj) (V : Array Value) (t : TypeId) : ((w.alloc o).alloc (.cells V t)).heap[w.heap.size + 1]? = some (.cells V t (0, 0)) := by
  rw [← alloc_size' w o]; exact Array.getElem?_push_size
end Go.Proofs.Ytkaacmghgobhmaa.Rd
end
section
namespace Go.Proofs.Ytkaacmghgobhmaa.Rd
open Go.RowKit
open L (tkA own_block own_below intOf info_of size_list)
set_option linter.unusedVariables false
theorem run_len (l : List UInt8) : ∀ (f p : Nat), (Lx.run l f p).length ≤ f + 1 ∧ 1 ≤ (Lx.run l f p).length
  | 0, p => by simp [Lx.run]
  | f + 1, p => by
    have h := run_len l f (Lx.tok l p).e
    unfold Lx.run
    split
    · simp
    · simp; omega
/-- The reader's ten cells. -/
abbrev rdA (src : ByteArray) (T : Lx.Tk) (E : Nat) (nv : Value) (D : Nat) (b : Bool) : Array Value := #[.string src, .int .i64 (T.k : Int), .string ⟨T.t.toArray⟩, .int .i64 (T.n : Int), .int .i64 (T.a : Int), .bool T.ln, .int .i64 (E : Int), nv, .int .i64 (D : Int), .bool b]
/-- Tokens from a place on, E behind the first of them. -/
def TokAt (src : ByteArray) (st : Rp.Rt) (E : Nat) : Prop := ∃ p, p ≤ src.size ∧ st.toks = Lx.run src.data.toList (src.data.toList.length + 1) p ∧ ((Rp.nx st).k ≠ 6 → E = (Rp.nx st).e)
/-- The reader at B, its nodes' value nv, in a state; F: blocks that are other ones', in which none of it lies. -/
structure RS (src : ByteArray) (F : Nat → Prop) (base B dep : Nat) (st : Rp.Rt) (nv : Value) (W : World) : Prop where
  hB : base ≤ B
  sm : src.size ≤ 4096
  low : dep ≤ 40
  rd : ∃ E x : Nat, TokAt src st E ∧ x ≤ 1 ∧ (st.bad = false → x = 0) ∧ W.heap[B]? = some (.cells (rdA src (Rp.nx st) E nv (dep + x) st.bad) 59 (0, 0))
  nd : ∃ vs : List (Ps.Nd × Value × Value), vs.map (·.1) = st.nodes ∧ W.ownsRow base 38 6 nv vs.length (ndCells vs) ∧ ∀ x ∈ vs, NdIn F W B nv x.1 x.2.1 x.2.2
  own : nv.ownBlock ≠ some B
  far : ∀ k, F k → k < W.heap.size ∧ k ≠ B ∧ nv.ownBlock ≠ some k
theorem cells10h {w : World} {b : Nat} {x0 x1 x2 x3 x4 x5 x6 x7 x8 x9 : Value} {t : TypeId} (h : w.heap[b]? = some (.cells #[x0, x1, x2, x3, x4, x5, x6, x7, x8, x9] t (0, 0))) :
    w.cell? ⟨b, 0, none⟩ = some x0 ∧ w.cell? ⟨b, 1, none⟩ = some x1 ∧ w.cell? ⟨b, 2, none⟩ = some x2 ∧ w.cell? ⟨b, 3, none⟩ = some x3 ∧ w.cell? ⟨b, 4, none⟩ = some x4 ∧ w.cell? ⟨b, 5, none⟩ = some x5 ∧ w.cell? ⟨b, 6, none⟩ = some x6 ∧ w.cell? ⟨b, 7, none⟩ = some x7 ∧ w.cell? ⟨b, 8, none⟩ = some x8 ∧ w.cell? ⟨b, 9, none⟩ = some x9 ∧ (∀ i, w.frozen? ⟨b, i, none⟩ = false) ∧ b < w.heap.size := by
  refine ⟨?_, ?_, ?_, ?_, ?_, ?_, ?_, ?_, ?_, ?_, fun i => ?_, Nat.lt_of_not_le fun hg => by rw [Array.getElem?_eq_none hg] at h; cases h⟩ <;> simp [World.cell?, World.frozen?, h]
section
variable {src : ByteArray} {F : Nat → Prop} {base B dep : Nat} {st st' : Rp.Rt} {nv : Value} {W W' : World}
theorem RS.lt (h : RS src F base B dep st nv W) : B < W.heap.size := by
  obtain ⟨E, x, _, _, _, h1⟩ := h.rd
  exact Nat.lt_of_not_le fun hg => by rw [Array.getElem?_eq_none hg] at h1; cases h1
theorem RS.hbw (h : RS src F base B dep st nv W) : base ≤ W.heap.size := by have := h.lt; have := h.hB; omega
theorem RS.few (h : RS src F base B dep st nv W) : st.toks.length ≤ 4098 ∧ 1 ≤ st.toks.length := by
  obtain ⟨E, x, ⟨p, _, e, _⟩, _⟩ := h.rd
  have := run_len src.data.toList (src.data.toList.length + 1) p
  have := h.sm
  rw [e]; rw [size_list] at *; omega
/-- A world that has turned nothing old keeps the reader. -/
theorem RS.below (h : RS src F base B dep st nv W) (hb : Below W.heap.size W W') : RS src F base B dep st nv W' := by
  have c := Chg.below (B := B) nv hb
  have hlt := h.lt
  obtain ⟨E, x, h0, h1, h2, h3⟩ := h.rd
  obtain ⟨vs, e, ho, hn⟩ := h.nd
  exact ⟨h.hB, h.sm, h.low, ⟨E, x, h0, h1, h2, (hb.block B hlt).trans h3⟩, ⟨vs, e, own_below ho hb, fun x hx => (hn x hx).go c⟩, h.own, fun k hk => ⟨Nat.lt_of_lt_of_le (h.far k hk).1 hb.size, (h.far k hk).2⟩⟩
/-- The reader in another state, where its block alone has changed. -/
theorem RS.turn (h : RS src F base B dep st nv W) (c : ChgB B W W') (hn : st'.nodes = st.nodes) {dep' : Nat} (hd : dep' ≤ 40) {E x : Nat} (h0 : TokAt src st' E) (h1 : x ≤ 1) (h2 : st'.bad = false → x = 0)
    (h3 : W'.heap[B]? = some (.cells (rdA src (Rp.nx st') E nv (dep' + x) st'.bad) 59 (0, 0))) : RS src F base B dep' st' nv W' := by
  obtain ⟨vs, e, ho, hx⟩ := h.nd
  have c2 := c.chg nv
  exact ⟨h.hB, h.sm, hd, ⟨E, x, h0, h1, h2, h3⟩, ⟨vs, by rw [hn]; exact e, own_keep ho (c.keep ho h.own), fun x hm => (hx x hm).go c2⟩, h.own, fun k hk => ⟨Nat.lt_of_lt_of_le (h.far k hk).1 c.size, (h.far k hk).2⟩⟩
end
/-- What a function leaves of the reader. -/
def Leaves (src : ByteArray) (F : Nat → Prop) (base B dep : Nat) (nv : Value) (w : World) (st' : Rp.Rt) (w' : World) : Prop := ∃ nv', RS src F base B dep st' nv' w' ∧ Chg B nv nv' w w'
/-- At s a function tells r and leaves s'; nodes are not too many. -/
structure Ru {α : Type} (f : Rp.Q α) (s : Rp.Rt) (r : α) (s' : Rp.Rt) : Prop where
  eq : f s = (r, s')
  small : s'.nodes.length ≤ 1000000000
/-- A call ends with a value and leaves the reader in a state. -/
def Tells (src : ByteArray) (F : Nat → Prop) (base B dep : Nat) (nv : Value) (w : World) (s' : Rp.Rt) (v : Value) : Ending → World → Prop := fun e w' => e = .returned v ∧ Leaves src F base B dep nv w s' w'
theorem leq (a b : List UInt8) : (a == b) = decide (a = b) := by by_cases h : a = b <;> simp [h]
theorem bytes_eq (s : ByteArray) (l : List UInt8) : (s.toList == l) = decide (s.data.toList = l) := by
  rw [ByteArray.toList_eq]
  by_cases h : s.data.toList = l <;> simp [h]
section
variable {src : ByteArray} {F : Nat → Prop} {base B dep : Nat} {s s' : Rp.Rt} {nv : Value} {w : World}
/-- The reader's cells, at hand. -/
theorem RS.cells (h : RS src F base B dep s nv w) : ∃ E x : Nat, TokAt src s E ∧ x ≤ 1 ∧ (s.bad = false → x = 0) ∧ w.heap[B]? = some (.cells (rdA src (Rp.nx s) E nv (dep + x) s.bad) 59 (0, 0)) ∧
    w.cell? ⟨B, 0, none⟩ = some (.string src) ∧ w.cell? ⟨B, 1, none⟩ = some (.int .i64 ((Rp.nx s).k : Int)) ∧ w.cell? ⟨B, 2, none⟩ = some (.string ⟨(Rp.nx s).t.toArray⟩) ∧ w.cell? ⟨B, 3, none⟩ = some (.int .i64 ((Rp.nx s).n : Int)) ∧ w.cell? ⟨B, 4, none⟩ = some (.int .i64 ((Rp.nx s).a : Int)) ∧ w.cell? ⟨B, 5, none⟩ = some (.bool (Rp.nx s).ln) ∧ w.cell? ⟨B, 6, none⟩ = some (.int .i64 (E : Int)) ∧ w.cell? ⟨B, 7, none⟩ = some nv ∧ w.cell? ⟨B, 8, none⟩ = some (.int .i64 ((dep + x : Nat) : Int)) ∧ w.cell? ⟨B, 9, none⟩ = some (.bool s.bad) ∧ (∀ i, w.frozen? ⟨B, i, none⟩ = false) ∧ B < w.heap.size := by
  obtain ⟨E, x, h0, h1, h2, h3⟩ := h.rd
  exact ⟨E, x, h0, h1, h2, h3, cells10h h3⟩
set_option maxRecDepth 100000 in
set_option maxHeartbeats 1000000 in
theorem is_any (h : RS src F base B dep s nv w) (m : List UInt8) :
    Calls Try.prog 40 #[.pointer (some ⟨B, 0, none⟩), .string ⟨m.toArray⟩] w fun e w' => e = .returned (.bool (Rp.isS m s)) ∧ w' = w := by
  obtain ⟨E, x, -, -, -, -, c0, c1, c2, c3, c4, c5, c6, c7, c8, c9, cf, hlt⟩ := h.cells
  have hm : Rp.isS m s = (decide ((Rp.nx s).k = 4 ∨ (Rp.nx s).k = 5) && decide ((Rp.nx s).t = m)) := rfl
  rw [hm]
  clear hm h
  generalize Rp.nx s = T at *
  obtain ⟨tk, tt, tn, ta, tl, te⟩ := T
  simp only at *
  by_cases h5 : tk = 5
  · subst h5
    go_enter Try.func40, Try.ntmps40
    go_wp2_with fail
    go_ret
    simp
    exact leq tt m
  by_cases h4 : tk = 4
  · subst h4
    go_enter Try.func40, Try.ntmps40
    go_wp2_with fail
    go_ret
    simp
    exact leq tt m
  have e4 : ((tk : Int) == 4) = false := by rw [beq_eq_false_iff_ne]; omega
  have e5 : ((tk : Int) == 5) = false := by rw [beq_eq_false_iff_ne]; omega
  go_enter Try.func40, Try.ntmps40
  go_wp2_with fail
  go_ret
  simp [h4, h5]
end
end Go.Proofs.Ytkaacmghgobhmaa.Rd
end
section
namespace Go.Proofs.Ytkaacmghgobhmaa.Rd
open Go.RowKit
open L (tkA own_block own_below intOf info_of size_list FoundT plc rtoken_any)
set_option linter.unusedVariables false
theorem tok_step (src : ByteArray) (p : Nat) (hp : p ≤ src.size) : Lx.run src.data.toList (src.data.toList.length + 1) p = if (Lx.tok src.data.toList p).k = 0 ∨ (Lx.tok src.data.toList p).k = 6 then [Lx.tok src.data.toList p] else Lx.tok src.data.toList p :: Lx.run src.data.toList (src.data.toList.length + 1) (Lx.tok src.data.toList p).e :=
  Lx.all_step _ _ (by rw [size_list]; exact hp)
theorem TokAt.nx {src : ByteArray} {s : Rp.Rt} {E : Nat} (h : TokAt src s E) : ∃ p, p ≤ src.size ∧ s.toks = Lx.run src.data.toList (src.data.toList.length + 1) p ∧ ((Rp.nx s).k ≠ 6 → E = (Rp.nx s).e) ∧ Rp.nx s = Lx.tok src.data.toList p := by
  obtain ⟨p, hp, e, hE⟩ := h
  refine ⟨p, hp, e, hE, ?_⟩
  unfold Rp.nx
  rw [e, tok_step src p hp]
  split <;> rfl
/-- On to the next token, where there is one. -/
theorem TokAt.on {src : ByteArray} {s : Rp.Rt} {E : Nat} (h : TokAt src s E) (h0 : (Rp.nx s).k ≠ 0) (h6 : (Rp.nx s).k ≠ 6) :
    E ≤ src.size ∧ Rp.nx (Rp.move s) = Lx.tok src.data.toList E ∧ (∀ E', ((Lx.tok src.data.toList E).k ≠ 6 → E' = (Lx.tok src.data.toList E).e) → TokAt src (Rp.move s) E') ∧ (Rp.move s).nodes = s.nodes ∧ (Rp.move s).bad = s.bad := by
  obtain ⟨p, hp, e, hE, hn⟩ := h.nx
  have hE := hE h6
  have ht := Lx.tok_ok src.data.toList p (by rw [size_list]; exact hp)
  rw [hn] at h0 h6 hE
  rw [tok_step src p hp, if_neg (by rintro (h | h) <;> contradiction), ← hE] at e
  have hEs : E ≤ src.size := by rw [hE]; have := ht.2.2.1; rwa [size_list] at this
  have hl := (run_len src.data.toList (src.data.toList.length + 1) E).2
  have hm : Rp.move s = { s with toks := Lx.run src.data.toList (src.data.toList.length + 1) E } := by
    unfold Rp.move; rw [if_pos (by rw [e, List.length_cons]; omega), e]; rfl
  have hn' : Rp.nx (Rp.move s) = Lx.tok src.data.toList E := by
    rw [hm]; unfold Rp.nx; show List.headD (Lx.run _ _ E) _ = _; rw [tok_step src E hEs]; split <;> rfl
  exact ⟨hEs, hn', fun E' h' => ⟨E, hEs, by rw [hm], by rw [hn']; exact h'⟩, by rw [hm], by rw [hm]⟩
theorem set6 {w : World} {b : Nat} {x0 x1 x2 x3 x4 x5 x6 x7 x8 x9 : Value} {t : TypeId} (h : w.heap[b]? = some (.cells #[x0, x1, x2, x3, x4, x5, x6, x7, x8, x9] t (0, 0))) (y1 y2 y3 y4 y5 y6 : Value) :
    ((((((w.setCell ⟨b, 1, none⟩ y1).setCell ⟨b, 2, none⟩ y2).setCell ⟨b, 3, none⟩ y3).setCell ⟨b, 4, none⟩ y4).setCell ⟨b, 5, none⟩ y5).setCell ⟨b, 6, none⟩ y6).heap[b]? = some (.cells #[x0, y1, y2, y3, y4, y5, y6, x7, x8, x9] t (0, 0)) := by
  simp [World.setCell, Array.getElem?_modify, h]
theorem set8 {w : World} {b : Nat} {x0 x1 x2 x3 x4 x5 x6 x7 x8 x9 : Value} {t : TypeId} (h : w.heap[b]? = some (.cells #[x0, x1, x2, x3, x4, x5, x6, x7, x8, x9] t (0, 0))) (y : Value) : (w.setCell ⟨b, 8, none⟩ y).heap[b]? = some (.cells #[x0, x1, x2, x3, x4, x5, x6, x7, y, x9] t (0, 0)) := by
  simp [World.setCell, Array.getElem?_modify, h]
theorem set9 {w : World} {b : Nat} {x0 x1 x2 x3 x4 x5 x6 x7 x8 x9 : Value} {t : TypeId} (h : w.heap[b]? = some (.cells #[x0, x1, x2, x3, x4, x5, x6, x7, x8, x9] t (0, 0))) (y : Value) : (w.setCell ⟨b, 9, none⟩ y).heap[b]? = some (.cells #[x0, x1, x2, x3, x4, x5, x6, x7, x8, y] t (0, 0)) := by
  simp [World.setCell, Array.getElem?_modify, h]
theorem set7 {w : World} {b : Nat} {x0 x1 x2 x3 x4 x5 x6 x7 x8 x9 : Value} {t : TypeId} (h : w.heap[b]? = some (.cells #[x0, x1, x2, x3, x4, x5, x6, x7, x8, x9] t (0, 0))) (y : Value) : (w.setCell ⟨b, 7, none⟩ y).heap[b]? = some (.cells #[x0, x1, x2, x3, x4, x5, x6, y, x8, x9] t (0, 0)) := by
  simp [World.setCell, Array.getElem?_modify, h]
section
variable {src : ByteArray} {F : Nat → Prop} {base B dep : Nat} {s s' : Rp.Rt} {nv : Value} {w : World}
theorem Leaves.same (h : RS src F base B dep s nv w) : Leaves src F base B dep nv w s w := ⟨nv, h, Chg.refl _ _ _⟩
/-- What move's store leaves. -/
theorem RS.moved {w1 : World} (h : RS src F base B dep s nv w) (h0 : (Rp.nx s).k ≠ 0) (h6 : (Rp.nx s).k ≠ 6) (E x E' : Nat) (hT : TokAt src s E) (hx : x ≤ 1) (hb : s.bad = false → x = 0)
    (hc : w.heap[B]? = some (.cells (rdA src (Rp.nx s) E nv (dep + x) s.bad) 59 (0, 0))) (hW : Below w.heap.size w w1) (T : Lx.Tk) (hTT : T = Lx.tok src.data.toList E) (hE' : T.k ≠ 6 → E' = T.e) :
    Leaves src F base B dep nv w (Rp.move s) ((((((w1.setCell ⟨B, 1, none⟩ (.int .i64 (T.k : Int))).setCell ⟨B, 2, none⟩ (.string ⟨T.t.toArray⟩)).setCell ⟨B, 3, none⟩ (.int .i64 (T.n : Int))).setCell ⟨B, 4, none⟩ (.int .i64 (T.a : Int))).setCell ⟨B, 5, none⟩ (.bool T.ln)).setCell ⟨B, 6, none⟩ (.int .i64 (E' : Int))) := by
  subst hTT
  obtain ⟨hEs, hn, hat, hnd, hbd⟩ := hT.on h0 h6
  have c0 : ChgB B w w1 := Chg.below _ hW
  have cc : ChgB B w _ := (((((c0.setBB 1 (.int .i64 ((Lx.tok src.data.toList E).k : Int))).setBB 2 (.string ⟨(Lx.tok src.data.toList E).t.toArray⟩)).setBB 3 (.int .i64 ((Lx.tok src.data.toList E).n : Int))).setBB 4 (.int .i64 ((Lx.tok src.data.toList E).a : Int))).setBB 5 (.bool (Lx.tok src.data.toList E).ln)).setBB 6 (.int .i64 (E' : Int))
  refine ⟨nv, h.turn cc hnd h.low (hat E' hE') hx (by rw [hbd]; exact hb) ?_, cc.chg nv⟩
  rw [hn, hbd]
  exact set6 ((hW.block B h.lt).trans hc) _ _ _ _ _ _
set_option maxRecDepth 100000 in
set_option maxHeartbeats 2000000 in
theorem move_any (h : RS src F base B dep s nv w) (h0 : (Rp.nx s).k ≠ 0) (h6 : (Rp.nx s).k ≠ 6) :
    Calls Try.prog 64 #[.pointer (some ⟨B, 0, none⟩)] w (Tells src F base B dep nv w (Rp.move s) (.tuple #[])) := by
  obtain ⟨E, x, hT, hx, hb, hc, c0, c1, c2, c3, c4, c5, c6, c7, c8, c9, cf, hlt⟩ := h.cells
  have hEs := (hT.on h0 h6).1
  have hs := h.sm
  have HK : Hid (∀ W, Below w.heap.size w W → Calls Try.prog 21 #[.string src, .int .i64 (E : Int)] W fun e w' => ∃ (T : Lx.Tk) (E' : Nat), e = .returned (.agg #[.int .i64 (T.k : Int), .string ⟨T.t.toArray⟩, .int .i64 (T.n : Int), .int .i64 (T.a : Int), .bool T.ln, .int .i64 (E' : Int)]) ∧ Hid (T = Lx.tok src.data.toList E) ∧ Hid (T.k ≠ 6 → E' = T.e) ∧ Hid (Below w.heap.size w w') ∧ B < w'.heap.size ∧ w'.frozen? ⟨B, 1, none⟩ = false ∧ w'.frozen? ⟨B, 2, none⟩ = false ∧ w'.frozen? ⟨B, 3, none⟩ = false ∧ w'.frozen? ⟨B, 4, none⟩ = false ∧ w'.frozen? ⟨B, 5, none⟩ = false ∧ w'.frozen? ⟨B, 6, none⟩ = false ∧ w'.cell? ⟨B, 1, none⟩ = some (.int .i64 ((Rp.nx s).k : Int)) ∧ w'.cell? ⟨B, 2, none⟩ = some (.string ⟨(Rp.nx s).t.toArray⟩) ∧ w'.cell? ⟨B, 3, none⟩ = some (.int .i64 ((Rp.nx s).n : Int)) ∧ w'.cell? ⟨B, 4, none⟩ = some (.int .i64 ((Rp.nx s).a : Int)) ∧ w'.cell? ⟨B, 5, none⟩ = some (.bool (Rp.nx s).ln) ∧ w'.cell? ⟨B, 6, none⟩ = some (.int .i64 (E : Int))) := fun W hW => by
    have hh := rtoken_any src (E : Int) W (by omega)
    rw [show plc (E : Int) src.size = E by unfold plc; omega] at hh
    refine hh.mono ?_
    rintro e w' ⟨⟨E', rfl, hE'⟩, hb'⟩
    have hb2 := hW.trans (hb'.mono hW.size)
    obtain ⟨-, d1, d2, d3, d4, d5, d6, -, -, -, df, dl⟩ := cells10h ((hb2.block B hlt).trans hc)
    exact ⟨_, E', rfl, rfl, hE', hb2, dl, df 1, df 2, df 3, df 4, df 5, df 6, d1, d2, d3, d4, d5, d6⟩
  have HM : Hid (∀ w1 T E', Below w.heap.size w w1 → T = Lx.tok src.data.toList E → (T.k ≠ 6 → E' = T.e) → Leaves src F base B dep nv w (Rp.move s) ((((((w1.setCell ⟨B, 1, none⟩ (.int .i64 (T.k : Int))).setCell ⟨B, 2, none⟩ (.string ⟨T.t.toArray⟩)).setCell ⟨B, 3, none⟩ (.int .i64 (T.n : Int))).setCell ⟨B, 4, none⟩ (.int .i64 (T.a : Int))).setCell ⟨B, 5, none⟩ (.bool T.ln)).setCell ⟨B, 6, none⟩ (.int .i64 (E' : Int)))) := fun w1 T E' h1 h2 h3 => h.moved h0 h6 E x E' hT hx hb hc h1 T h2 h3
  clear h hT hx hb hc h0 h6 hEs hs
  go_enter Try.func64, Try.ntmps64
  go_region_with ((go_at_call 21; refine Calls.mono (HK.out _ (by repeat (first | with_reducible exact Below.refl _ _ | with_reducible refine Below.drew ?_))) ?_; rintro e w1 ⟨T, E', rfl, hTT, hE', hB1, hl1, f1, f2, f3, f4, f5, f6, d1, d2, d3, d4, d5, d6⟩; try dsimp only))
  all_goals
    go_wp2_with fail
    go_end0
    exact ⟨rfl, HM.out _ _ _ hB1.out hTT.out hE'.out⟩
/-- A change of the state alone, as a part. -/
def up (f : Rp.Rt → Rp.Rt) : Rp.Q Unit := fun r => ((), f r)
theorem isS_k {m : List UInt8} (h : Rp.isS m s = true) : (Rp.nx s).k ≠ 0 ∧ (Rp.nx s).k ≠ 6 := by
  unfold Rp.isS at h
  simp only [Bool.and_eq_true, decide_eq_true_eq] at h
  omega
theorem c_is (h : RS src F base B dep s nv w) (m : List UInt8) : Calls Try.prog 40 #[.pointer (some ⟨B, 0, none⟩), .string ⟨m.toArray⟩] w (Tells src F base B dep nv w s (.bool (Rp.isS m s))) := by
  refine (is_any h m).mono ?_
  rintro e w' ⟨rfl, rfl⟩
  exact ⟨rfl, Leaves.same h⟩
set_option maxRecDepth 100000 in
set_option maxHeartbeats 2000000 in
theorem has_any (h : RS src F base B dep s nv w) (m : List UInt8) :
    Calls Try.prog 58 #[.pointer (some ⟨B, 0, none⟩), .string ⟨m.toArray⟩] w (Tells src F base B dep nv w (Rp.has m s).2 (.bool (Rp.has m s).1)) := by
  obtain ⟨E, x, -, -, -, -, c0, c1, c2, c3, c4, c5, c6, c7, c8, c9, cf, hlt⟩ := h.cells
  have HI : Hid (_) := is_any h m
  have HS : Hid (_) := Leaves.same h
  by_cases hb : s.bad = true
  · have e : Rp.has m s = (false, s) := by unfold Rp.has; rw [hb]; rfl
    rw [e]
    rw [hb] at c9
    clear h e hb
    go_enter Try.func58, Try.ntmps58
    go_wp2_with fail
    go_ret
    exact ⟨rfl, HS.out⟩
  have hb' : s.bad = false := by simpa using hb
  rw [hb'] at c9
  by_cases hi : Rp.isS m s = true
  · have e : Rp.has m s = (true, Rp.move s) := by unfold Rp.has; rw [hb', hi]; rfl
    rw [e]
    rw [hi] at HI
    have HM : Hid (_) := move_any h (isS_k hi).1 (isS_k hi).2
    clear h e hb hb' hi HS
    generalize Rp.move s = s1 at *
    go_enter Try.func58, Try.ntmps58
    go_wp2_with fail
    refine Calls.mono HI.out ?_
    rintro e w1 ⟨rfl, rfl⟩
    go_wp2_with fail
    refine Calls.mono HM.out ?_
    rintro e w2 ⟨rfl, hl⟩
    go_wp2_with fail
    go_ret
    exact ⟨rfl, hl⟩
  have hi' : Rp.isS m s = false := by simpa using hi
  have e : Rp.has m s = (false, s) := by unfold Rp.has; rw [hb', hi']; rfl
  rw [e]
  rw [hi'] at HI
  clear h e hb hb' hi hi'
  go_enter Try.func58, Try.ntmps58
  go_wp2_with fail
  refine Calls.mono HI.out ?_
  rintro e w1 ⟨rfl, rfl⟩
  go_wp2_with fail
  go_ret
  exact ⟨rfl, HS.out⟩
theorem c_has {m : List UInt8} {b : Bool} (R : Ru (Rp.has m) s b s') (h : RS src F base B dep s nv w) :
    Calls Try.prog 58 #[.pointer (some ⟨B, 0, none⟩), .string ⟨m.toArray⟩] w (Tells src F base B dep nv w s' (.bool b)) := by
  have := has_any h m
  rw [R.eq] at this
  exact this
/-- The reader is bad from here on. -/
theorem RS.spoil (h : RS src F base B dep s nv w) : RS src F base B dep (Rp.spoil s) nv (w.setCell ⟨B, 9, none⟩ (.bool true)) ∧ Chg B nv nv w (w.setCell ⟨B, 9, none⟩ (.bool true)) := by
  obtain ⟨E, x, hT, hx, hb, hc, -⟩ := h.cells
  have cc : ChgB B w (w.setCell ⟨B, 9, none⟩ (.bool true)) := Chg.setB B _ w 9 _
  exact ⟨h.turn (st' := Rp.spoil s) (E := E) (x := x) cc rfl h.low (show TokAt src (Rp.spoil s) E from hT) hx (fun e => by cases e) (set9 hc (.bool true)), cc.chg nv⟩
theorem spoil_bad (h : s.bad = true) : Rp.spoil s = s := by
  obtain ⟨a, b, c⟩ := s
  simp only at h
  subst h
  rfl
set_option maxRecDepth 100000 in
set_option maxHeartbeats 2000000 in
theorem c_must {m : List UInt8} {u : Unit} (R : Ru (up (Rp.must m)) s u s') (h : RS src F base B dep s nv w) :
    Calls Try.prog 59 #[.pointer (some ⟨B, 0, none⟩), .string ⟨m.toArray⟩] w (Tells src F base B dep nv w s' (.tuple #[])) := by
  have HH : Hid (_) := has_any h m
  have e : Rp.must m s = s' := congrArg Prod.snd R.eq
  unfold Rp.must at e
  clear R h
  generalize Rp.has m s = P at *
  obtain ⟨b, s1⟩ := P
  cases b
  · simp only at e HH
    subst e
    go_enter Try.func59, Try.ntmps59
    go_wp2_with fail
    refine Calls.mono HH.out ?_
    rintro e w1 ⟨rfl, nv1, hr, hc⟩
    obtain ⟨E, x, -, -, -, -, c0, c1, c2, c3, c4, c5, c6, c7, c8, c9, cf, hlt⟩ := hr.cells
    have HS : Hid (_) := hr.spoil
    have HC : Hid (_) := hc
    clear hr hc
    go_wp2_with fail
    go_end0
    exact ⟨rfl, nv1, HS.out.1, HC.out.trans HS.out.2⟩
  · simp only at e HH
    subst e
    go_enter Try.func59, Try.ntmps59
    go_wp2_with fail
    refine Calls.mono HH.out ?_
    rintro e w1 ⟨rfl, hl⟩
    go_wp2_with fail
    go_end0
    exact ⟨rfl, hl⟩
set_option maxRecDepth 100000 in
set_option maxHeartbeats 2000000 in
theorem c_name {t : List UInt8} (R : Ru Rp.rname s t s') (h : RS src F base B dep s nv w) :
    Calls Try.prog 63 #[.pointer (some ⟨B, 0, none⟩)] w (Tells src F base B dep nv w s' (.string ⟨t.toArray⟩)) := by
  obtain ⟨E, x, -, -, -, -, c0, c1, c2, c3, c4, c5, c6, c7, c8, c9, cf, hlt⟩ := h.cells
  have e := R.eq
  unfold Rp.rname at e
  have HS : Hid (_) := h.spoil
  by_cases hb : s.bad = true
  · rw [hb] at e
    simp only [Bool.true_or, if_true, Prod.mk.injEq] at e
    obtain ⟨rfl, rfl⟩ := e
    rw [hb] at c9
    clear R h hb
    go_enter Try.func63, Try.ntmps63
    go_wp2_with fail
    go_ret
    exact ⟨rfl, nv, HS.out.1, HS.out.2⟩
  have hb' : s.bad = false := by simpa using hb
  rw [hb'] at c9
  by_cases hk : (Rp.nx s).k = 3
  · have HM : Hid (_) := move_any h (by omega) (by omega)
    rw [hb', if_neg (by simp [hk])] at e
    simp only [Prod.mk.injEq] at e
    obtain ⟨rfl, rfl⟩ := e
    rw [hk] at c1
    clear R h hb hb' HS hk
    generalize Rp.move s = s1 at *
    go_enter Try.func63, Try.ntmps63
    go_wp2_with fail
    refine Calls.mono HM.out ?_
    rintro e w2 ⟨rfl, hl⟩
    go_wp2_with fail
    go_ret
    exact ⟨rfl, hl⟩
  rw [hb', if_pos (by simp [hk])] at e
  simp only [Prod.mk.injEq] at e
  obtain ⟨rfl, rfl⟩ := e
  have e3 : (((Rp.nx s).k : Int) == 3) = false := by rw [beq_eq_false_iff_ne]; omega
  have e3' : ¬ ((Rp.nx s).k : Int) = 3 := by omega
  clear R h hb hb' hk
  generalize Rp.nx s = T at *
  go_enter Try.func63, Try.ntmps63
  go_wp2_with fail
  go_ret
  exact ⟨rfl, nv, HS.out.1, HS.out.2⟩
set_option maxRecDepth 100000 in
set_option maxHeartbeats 2000000 in
/-- One deeper, by the cells alone. -/
theorem in_any {T : Lx.Tk} {E D : Nat} {b : Bool} (hc : w.heap[B]? = some (.cells (rdA src T E nv D b) 59 (0, 0))) (hD : D ≤ 50) :
    Calls Try.prog 49 #[.pointer (some ⟨B, 0, none⟩)] w fun e w' => e = .returned (.bool (!(b || decide (40 < D + 1)))) ∧ ChgB B w w' ∧ w'.heap[B]? = some (.cells (rdA src T E nv (D + 1) (b || decide (40 < D + 1))) 59 (0, 0)) := by
  obtain ⟨c0, c1, c2, c3, c4, c5, c6, c7, c8, c9, cf, hlt⟩ := cells10h hc
  have HC : Hid (_) := hc
  clear hc
  by_cases h40 : 40 < D + 1
  · have h40' : (40 : Int) < (D : Int) + 1 := by omega
    rw [decide_eq_true h40]
    go_enter Try.func49, Try.ntmps49
    go_wp2_with fail
    go_ret
    refine ⟨by simp, (Chg.setB B _ w 8 _).setBB 9 _, ?_⟩
    rw [Bool.or_true]
    exact set9 (set8 HC.out _) _
  · have h40' : ¬ (40 : Int) < (D : Int) + 1 := by omega
    rw [decide_eq_false h40, Bool.or_false]
    go_enter Try.func49, Try.ntmps49
    go_wp2_with fail
    go_ret
    exact ⟨rfl, Chg.setB B _ w 8 _, set8 HC.out _⟩
set_option maxRecDepth 100000 in
set_option maxHeartbeats 2000000 in
theorem out_any {T : Lx.Tk} {E D : Nat} {b : Bool} (hc : w.heap[B]? = some (.cells (rdA src T E nv (D + 1) b) 59 (0, 0))) (hD : D ≤ 50) :
    Calls Try.prog 51 #[.pointer (some ⟨B, 0, none⟩)] w fun e w' => e = .returned (.tuple #[]) ∧ ChgB B w w' ∧ w'.heap[B]? = some (.cells (rdA src T E nv D b) 59 (0, 0)) := by
  obtain ⟨c0, c1, c2, c3, c4, c5, c6, c7, c8, c9, cf, hlt⟩ := cells10h hc
  have HC : Hid (_) := hc
  have hm : ((D : Int) + 1 - 1) = D := by omega
  have c8' : w.cell? ⟨B, 8, none⟩ = some (.int .i64 ((D : Int) + 1)) := c8
  clear hc c8
  go_enter Try.func51, Try.ntmps51
  go_wp2_with fail
  go_end0
  exact ⟨rfl, Chg.setB B _ w 8 _, set8 HC.out _⟩
set_option maxRecDepth 100000 in
set_option maxHeartbeats 2000000 in
theorem c_ende {u : Unit} (R : Ru (up Rp.ende) s u s') (h : RS src F base B dep s nv w) :
    Calls Try.prog 62 #[.pointer (some ⟨B, 0, none⟩)] w (Tells src F base B dep nv w s' (.tuple #[])) := by
  have HH : Hid (_) := has_any h [59]
  have e : Rp.ende s = s' := congrArg Prod.snd R.eq
  unfold Rp.ende at e
  clear R h
  generalize Rp.has [59] s = P at *
  obtain ⟨b, s1⟩ := P
  cases b
  · simp only at e HH
    by_cases hb : s1.bad = true
    · rw [if_pos hb] at e
      subst e
      go_enter Try.func62, Try.ntmps62
      go_wp2_with fail
      refine Calls.mono HH.out ?_
      rintro e w1 ⟨rfl, nv1, hr, hc⟩
      obtain ⟨E, x, -, -, -, -, c0, c1, c2, c3, c4, c5, c6, c7, c8, c9, cf, hlt⟩ := hr.cells
      rw [hb] at c9
      have HC : Hid (_) := hc
      have HR : Hid (_) := hr
      clear hr hc
      go_wp2_with fail
      go_end0
      exact ⟨rfl, nv1, HR.out, HC.out⟩
    have hb' : s1.bad = false := by simpa using hb
    rw [if_neg hb] at e
    go_enter Try.func62, Try.ntmps62
    go_wp2_with fail
    refine Calls.mono HH.out ?_
    rintro e1 w1 ⟨rfl, nv1, hr, hc⟩
    obtain ⟨E, x, -, -, -, -, c0, c1, c2, c3, c4, c5, c6, c7, c8, c9, cf, hlt⟩ := hr.cells
    rw [hb'] at c9
    have HC : Hid (_) := hc
    have HR : Hid (_) := hr
    have HI : Hid (_) := is_any hr [125]
    have HS : Hid (_) := hr.spoil
    clear hr hc HH
    by_cases hk : (Rp.nx s1).k = 0
    · rw [hk] at c1
      rw [if_neg (by simp [hk])] at e
      subst e
      go_wp2_with fail
      go_end0
      exact ⟨rfl, nv1, HR.out, HC.out⟩
    have e0 : (((Rp.nx s1).k : Int) == 0) = false := by rw [beq_eq_false_iff_ne]; omega
    have e0' : ¬ ((Rp.nx s1).k : Int) = 0 := by omega
    by_cases hi : Rp.isS [125] s1 = true
    · rw [hi] at HI
      rw [if_neg (by simp [hi])] at e
      subst e
      clear hi
      go_wp2_with fail
      refine Calls.mono HI.out ?_
      rintro e2 w2 ⟨rfl, rfl⟩
      go_wp2_with fail
      go_end0
      exact ⟨rfl, nv1, HR.out, HC.out⟩
    have hi' : Rp.isS [125] s1 = false := by simpa using hi
    rw [hi'] at HI
    by_cases hl : (Rp.nx s1).ln = true
    · rw [if_neg (by simp [hl])] at e
      rw [hl] at c5
      subst e
      clear hi hi'
      go_wp2_with fail
      refine Calls.mono HI.out ?_
      rintro e2 w2 ⟨rfl, rfl⟩
      go_wp2_with fail
      go_end0
      exact ⟨rfl, nv1, HR.out, HC.out⟩
    have hl' : (Rp.nx s1).ln = false := by simpa using hl
    rw [if_pos (by simp [hl', hi', hk])] at e
    rw [hl'] at c5
    subst e
    clear hi hi'
    go_wp2_with fail
    refine Calls.mono HI.out ?_
    rintro e2 w2 ⟨rfl, rfl⟩
    go_wp2_with fail
    go_end0
    exact ⟨rfl, nv1, HS.out.1, HC.out.trans HS.out.2⟩
  · simp only at e HH
    subst e
    go_enter Try.func62, Try.ntmps62
    go_wp2_with fail
    refine Calls.mono HH.out ?_
    rintro e w1 ⟨rfl, hl⟩
    go_wp2_with fail
    go_end0
    exact ⟨rfl, hl⟩
end
end Go.Proofs.Ytkaacmghgobhmaa.Rd
end
