/- The parser's reader as it lies in memory; what its functions leave. -/
import Derived.Test.YtoeolonbkeldoaaDoorLAl
import Derived.Test.YtoeolonbkeldoaaDoorPsM
namespace Go.Proofs.YtoeolonbkeldoaaDoor.R
open Go.RowKit
open L (TokAt tkA own_block own_below intOf cells5h)
set_option linter.unusedVariables false
/-- Tokens lie from a place of a block on. -/
def TokIn (W : World) (v : Value) (L : List Lx.Tk) : Prop := ∃ (g off cap : Nat), v = .slice (some ⟨g, off, none⟩) L.length cap ∧ L.length ≤ cap ∧ cap ≤ 9223372036854775807 ∧ g < W.heap.size ∧ 1 ≤ L.length ∧ ∀ j (h : j < L.length), TokAt W g (off + j * 5) L[j]
def blockOf : Value → Option Nat
  | .slice (some a) _ _ => some a.block
  | _ => none
/-- Numbers, texts in a row that is never written again. -/
def KidsIn (W : World) (v : Value) (l : List Nat) : Prop := ∃ (ad : Option Addr) (cap : Nat), v = .slice ad l.length cap ∧ l.length ≤ cap ∧ (l = [] ∨ ∃ g, ad = some ⟨g, 0, none⟩ ∧ g < W.heap.size ∧ ∀ j (h : j < l.length), W.cell? ⟨g, j, none⟩ = some (.int .i64 (l[j] : Int)))
def NamesIn (W : World) (v : Value) (l : List (List UInt8)) : Prop := ∃ (ad : Option Addr) (cap : Nat), v = .slice ad l.length cap ∧ l.length ≤ cap ∧ (l = [] ∨ ∃ g, ad = some ⟨g, 0, none⟩ ∧ g < W.heap.size ∧ ∀ j (h : j < l.length), W.cell? ⟨g, j, none⟩ = some (.string ⟨l[j].toArray⟩))
/-- What of a value's block may not be written: it is neither the reader's nor the nodes' own. -/
def Apart (F : Nat → Prop) (B : Nat) (nv v : Value) : Prop := ∀ k, blockOf v = some k → k ≠ B ∧ nv.ownBlock ≠ some k ∧ ¬ F k
/-- A node's six cells. -/
abbrev ndA (n : Ps.Nd) (nm kd : Value) : Array Value := #[.int .i64 (n.k : Int), .int .i64 (n.n : Int), .string ⟨n.t.toArray⟩, nm, kd, .int .i64 (n.a : Int)]
/-- What a node needs: its names, its kids. -/
structure NdIn (F : Nat → Prop) (W : World) (B : Nat) (nv : Value) (n : Ps.Nd) (nm kd : Value) : Prop where
  names : NamesIn W nm n.names
  kids : KidsIn W kd n.kids
  anm : Apart F B nv nm
  akd : Apart F B nv kd
  lnm : ∀ k, blockOf nm = some k → k < W.heap.size
  lkd : ∀ k, blockOf kd = some k → k < W.heap.size
/-- The nodes' values of names and of kids, in a row. -/
def ndCells (ns : List (Ps.Nd × Value × Value)) : List Value := ns.flatMap fun x => (ndA x.1 x.2.1 x.2.2).toList
/-- What the reader's functions leave of the world: all but the reader's block and the nodes' own. -/
structure Chg (B : Nat) (nv nv' : Value) (w w' : World) : Prop where
  os : w'.os = w.os
  tape : w'.tape = w.tape
  output : w'.output = w.output
  size : w.heap.size ≤ w'.heap.size
  block : ∀ k, k < w.heap.size → k ≠ B → nv.ownBlock ≠ some k → w'.heap[k]? = w.heap[k]?
  fresh : ∀ k, nv'.ownBlock = some k → nv.ownBlock = some k ∨ w.heap.size ≤ k
theorem Chg.refl (B : Nat) (nv : Value) (w : World) : Chg B nv nv w w := ⟨rfl, rfl, rfl, Nat.le_refl _, fun _ _ _ _ => rfl, fun _ h => .inl h⟩
theorem Chg.trans {B : Nat} {a b c : Value} {w w1 w2 : World} (h : Chg B a b w w1) (k : Chg B b c w1 w2) : Chg B a c w w2 where
  os := k.os.trans h.os
  tape := k.tape.trans h.tape
  output := k.output.trans h.output
  size := Nat.le_trans h.size k.size
  block := fun j h1 h2 h3 => (k.block j (Nat.lt_of_lt_of_le h1 h.size) h2 (fun e => by
    rcases h.fresh j e with e | e
    · exact h3 e
    · omega)).trans (h.block j h1 h2 h3)
  fresh := fun j e => by
    rcases k.fresh j e with e | e
    · exact h.fresh j e
    · exact .inr (Nat.le_trans h.size e)
theorem Chg.below {B : Nat} (nv : Value) {w w' : World} (h : Below w.heap.size w w') : Chg B nv nv w w' := ⟨h.os, h.tape, h.output, h.size, fun k hk _ _ => h.block k hk, fun _ h => .inl h⟩
theorem Chg.toBelow {B b : Nat} {nv nv' : Value} {w w' : World} (h : Chg B nv nv' w w') (hB : b ≤ B) (hn : ∀ k, nv.ownBlock = some k → b ≤ k) (hw : b ≤ w.heap.size) : Below b w w' :=
  ⟨h.os, h.tape, h.output, h.size, fun k hk => h.block k (by omega) (by omega) (fun e => by have := hn k e; omega)⟩
theorem cell_of_block {W W' : World} {g : Nat} (h : W'.heap[g]? = W.heap[g]?) (j : Nat) : W'.cell? ⟨g, j, none⟩ = W.cell? ⟨g, j, none⟩ := by
  unfold World.cell?; rw [h]
/-- What is apart stays. -/
theorem Apart.go {F : Nat → Prop} {B : Nat} {nv nv' v : Value} {w w' : World} (h : Apart F B nv v) (hl : ∀ k, blockOf v = some k → k < w.heap.size) (c : Chg B nv nv' w w') : Apart F B nv' v := fun k hk =>
  ⟨(h k hk).1, fun e => by
    rcases c.fresh k e with e | e
    · exact (h k hk).2.1 e
    · have := hl k hk; omega, (h k hk).2.2⟩
theorem KidsIn.lt {W : World} {v : Value} {l : List Nat} (h : KidsIn W v l) (hl : l ≠ []) : ∀ k, blockOf v = some k → k < W.heap.size := fun k hk => by
  obtain ⟨ad, cap, rfl, _, h⟩ := h
  obtain ⟨g, rfl, h1, _⟩ := h.resolve_left hl
  have : g = k := by simpa [blockOf] using hk
  omega
theorem KidsIn.go {F : Nat → Prop} {B : Nat} {nv nv' v : Value} {w w' : World} {l : List Nat} (h : KidsIn w v l) (ha : Apart F B nv v) (c : Chg B nv nv' w w') : KidsIn w' v l := by
  obtain ⟨ad, cap, rfl, hc, h⟩ := h
  refine ⟨ad, cap, rfl, hc, ?_⟩
  rcases h with h | ⟨g, rfl, h1, h2⟩
  · exact .inl h
  · have hg := ha g rfl
    exact .inr ⟨g, rfl, Nat.lt_of_lt_of_le h1 c.size, fun j hj => (cell_of_block (c.block g h1 hg.1 hg.2.1) j).trans (h2 j hj)⟩
theorem NamesIn.go {F : Nat → Prop} {B : Nat} {nv nv' v : Value} {w w' : World} {l : List (List UInt8)} (h : NamesIn w v l) (ha : Apart F B nv v) (c : Chg B nv nv' w w') : NamesIn w' v l := by
  obtain ⟨ad, cap, rfl, hc, h⟩ := h
  refine ⟨ad, cap, rfl, hc, ?_⟩
  rcases h with h | ⟨g, rfl, h1, h2⟩
  · exact .inl h
  · have hg := ha g rfl
    exact .inr ⟨g, rfl, Nat.lt_of_lt_of_le h1 c.size, fun j hj => (cell_of_block (c.block g h1 hg.1 hg.2.1) j).trans (h2 j hj)⟩
theorem TokIn.go {F : Nat → Prop} {B : Nat} {nv nv' v : Value} {w w' : World} {l : List Lx.Tk} (h : TokIn w v l) (ha : Apart F B nv v) (c : Chg B nv nv' w w') : TokIn w' v l := by
  obtain ⟨g, off, cap, rfl, h1, h2, h3, h4, h5⟩ := h
  have hg := ha g rfl
  have hb := c.block g h3 hg.1 hg.2.1
  refine ⟨g, off, cap, rfl, h1, h2, Nat.lt_of_lt_of_le h3 c.size, h4, fun j hj => ?_⟩
  obtain ⟨c0, c1, c2, c3, c4⟩ := h5 j hj
  exact ⟨(cell_of_block hb _).trans c0, (cell_of_block hb _).trans c1, (cell_of_block hb _).trans c2, (cell_of_block hb _).trans c3, (cell_of_block hb _).trans c4⟩
/-- The reader at B, its nodes' value nv, in a state; F: blocks that are other ones', in which none of it lies. -/
structure RS (F : Nat → Prop) (base B dep : Nat) (st : Ps.St) (nv : Value) (W : World) : Prop where
  hB : base ≤ B
  few : st.toks.length ≤ 100000
  last : ∀ T, st.toks.getLast? = some T → T.k = 0 ∨ T.k = 6
  rd : ∃ tv, W.heap[B]? = some (.cells #[tv, nv, .int .i64 (dep : Int), .bool st.failed, .int .i64 (st.at_ : Int)] 39 (0, 0)) ∧ TokIn W tv st.toks ∧ Apart F B nv tv
  nd : ∃ vs : List (Ps.Nd × Value × Value), vs.map (·.1) = st.nodes ∧ W.ownsRow base 33 6 nv vs.length (ndCells vs) ∧ ∀ x ∈ vs, NdIn F W B nv x.1 x.2.1 x.2.2
  own : nv.ownBlock ≠ some B
  far : ∀ k, F k → k < W.heap.size ∧ k ≠ B ∧ nv.ownBlock ≠ some k
theorem NdIn.go {F : Nat → Prop} {B : Nat} {nv nv' nm kd : Value} {w w' : World} {n : Ps.Nd} (h : NdIn F w B nv n nm kd) (c : Chg B nv nv' w w') : NdIn F w' B nv' n nm kd :=
  ⟨h.names.go h.anm c, h.kids.go h.akd c, h.anm.go h.lnm c, h.akd.go h.lkd c, fun k hk => Nat.lt_of_lt_of_le (h.lnm k hk) c.size, fun k hk => Nat.lt_of_lt_of_le (h.lkd k hk) c.size⟩
/-- A world that has turned nothing old keeps the reader. -/
theorem RS.below {F : Nat → Prop} {base B dep : Nat} {st : Ps.St} {nv : Value} {W W' : World} (h : RS F base B dep st nv W) (hb : Below W.heap.size W W') : RS F base B dep st nv W' := by
  have c := Chg.below (B := B) nv hb
  obtain ⟨tv, h1, h2, h3⟩ := h.rd
  obtain ⟨vs, e, ho, hn⟩ := h.nd
  have hlt : B < W.heap.size := Nat.lt_of_not_le fun hg => by rw [Array.getElem?_eq_none hg] at h1; cases h1
  exact ⟨h.hB, h.few, h.last, ⟨tv, (hb.block B hlt).trans h1, h2.go h3 c, h3⟩, ⟨vs, e, own_below ho hb, fun x hx => (hn x hx).go c⟩, h.own, fun k hk => ⟨Nat.lt_of_lt_of_le (h.far k hk).1 hb.size, (h.far k hk).2⟩⟩
set_option maxRecDepth 100000 in
set_option maxHeartbeats 1000000 in
theorem next_any {F : Nat → Prop} {base B dep : Nat} {st : Ps.St} {nv : Value} {w : World} (h : RS F base B dep st nv w) :
    Calls Tryd.prog 13 #[.pointer (some ⟨B, 0, none⟩)] w fun e w' => e = .returned (.agg (tkA (Ps.nxt st))) ∧ Below w.heap.size w w' := by
  obtain ⟨tv, h1, ⟨g, off, cap, rfl, hc, hcap, hg, hne, ht⟩, h3⟩ := h.rd
  obtain ⟨c0, c1, c2, c3, c4⟩ := ht 0 hne
  obtain ⟨T, L, e⟩ : ∃ T L, st.toks = T :: L := by
    cases hs : st.toks with
    | nil => rw [hs] at hne; simp at hne
    | cons T L => exact ⟨T, L, rfl⟩
  have hT : st.toks[0] = T := by simp [e]
  rw [hT] at c0 c1 c2 c3 c4
  have hN : Ps.nxt st = T := by unfold Ps.nxt; rw [e]; rfl
  rw [hN]
  obtain ⟨q0, q1, q2, q3, q4, f0, f1, f2, f3, f4, hlt⟩ := cells5h h1
  have hlen : (0 : Int) < st.toks.length := by omega
  simp only [Nat.zero_mul, Nat.add_zero] at c0 c1 c2 c3 c4
  clear ht hN hT e h3 h
  obtain ⟨tk, tt, tn, ta, tl, te⟩ := T
  simp only at c0 c1 c2 c3 c4
  generalize st.toks.length = n at *
  go_enter Tryd.func13, Tryd.ntmps13
  go_wp2_with fail
  refine bodyPost_ret (v := .agg #[.int .i64 (tk : Int), .string ⟨tt.toArray⟩, .int .i64 (tn : Int), .int .i64 (ta : Int), .bool tl]) (by simp [results, Tryd.results13, go_sem, *]) rfl ⟨rfl, ?_⟩
  repeat (first | with_reducible exact Below.refl _ _ | (with_reducible refine Below.drew ?_) | (with_reducible refine Below.setCell ?_ (by first | exact Nat.le_refl _ | omega | simp) _) | (with_reducible refine Below.alloc ?_ (by first | exact Nat.le_refl _ | omega | simp | (simp; omega)) _))
end Go.Proofs.YtoeolonbkeldoaaDoor.R
