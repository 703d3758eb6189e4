/- The parser's leaf, name by their contracts; blocks that are other ones'. -/
import Derived.Test.YtoeolonbkeldoaaDoorPsF
namespace Go.Proofs.YtoeolonbkeldoaaDoor.R
open Go.RowKit
open L (TokAt tkA own_block own_below intOf cells5h cells5 info_of)
set_option linter.unusedVariables false
theorem TokIn.same {W W' : World} {v : Value} {l : List Lx.Tk} (h : TokIn W v l) (hs : W.heap.size ≤ W'.heap.size) (hb : ∀ k, blockOf v = some k → k < W.heap.size → W'.heap[k]? = W.heap[k]?) : TokIn W' v l := by
  obtain ⟨g, off, cap, rfl, h1, h2, h3, h4, h5⟩ := h
  have hb' := hb g rfl h3
  refine ⟨g, off, cap, rfl, h1, h2, Nat.lt_of_lt_of_le h3 hs, h4, fun j hj => ?_⟩
  obtain ⟨c0, c1, c2, c3, c4⟩ := h5 j hj
  exact ⟨(cell_of_block hb' _).trans c0, (cell_of_block hb' _).trans c1, (cell_of_block hb' _).trans c2, (cell_of_block hb' _).trans c3, (cell_of_block hb' _).trans c4⟩
theorem KidsIn.same {W W' : World} {v : Value} {l : List Nat} (h : KidsIn W v l) (hs : W.heap.size ≤ W'.heap.size) (hb : ∀ k, blockOf v = some k → k < W.heap.size → W'.heap[k]? = W.heap[k]?) : KidsIn W' v l := by
  obtain ⟨ad, cap, rfl, hc, h⟩ := h
  refine ⟨ad, cap, rfl, hc, ?_⟩
  rcases h with h | ⟨g, rfl, h1, h2⟩
  · exact .inl h
  · exact .inr ⟨g, rfl, Nat.lt_of_lt_of_le h1 hs, fun j hj => (cell_of_block (hb g rfl h1) j).trans (h2 j hj)⟩
theorem NamesIn.same {W W' : World} {v : Value} {l : List (List UInt8)} (h : NamesIn W v l) (hs : W.heap.size ≤ W'.heap.size) (hb : ∀ k, blockOf v = some k → k < W.heap.size → W'.heap[k]? = W.heap[k]?) : NamesIn W' v l := by
  obtain ⟨ad, cap, rfl, hc, h⟩ := h
  refine ⟨ad, cap, rfl, hc, ?_⟩
  rcases h with h | ⟨g, rfl, h1, h2⟩
  · exact .inl h
  · exact .inr ⟨g, rfl, Nat.lt_of_lt_of_le h1 hs, fun j hj => (cell_of_block (hb g rfl h1) j).trans (h2 j hj)⟩
/-- A store into another one's block keeps the reader. -/
theorem RS.foreign {F : Nat → Prop} {base B dep : Nat} {st : Ps.St} {nv : Value} {W : World} (h : RS F base B dep st nv W) {X : Nat} (hX : F X) (i : Nat) (u : Value) : RS F base B dep st nv (W.setCell ⟨X, i, none⟩ u) := by
  have hs : (W.setCell ⟨X, i, none⟩ u).heap.size = W.heap.size := by simp [World.setCell]
  have hk : ∀ k, k ≠ X → (W.setCell ⟨X, i, none⟩ u).heap[k]? = W.heap[k]? := fun k hk => Below.heap_setCell W ⟨X, i, none⟩ u k hk
  have hap : ∀ v, Apart F B nv v → ∀ k, blockOf v = some k → k < W.heap.size → (W.setCell ⟨X, i, none⟩ u).heap[k]? = W.heap[k]? := fun v ha k e _ => hk k (fun e2 => (ha k e).2.2 (e2 ▸ hX))
  obtain ⟨tv, h1, h2, h3⟩ := h.rd
  obtain ⟨vs, e, ho, hn⟩ := h.nd
  have hf := h.far X hX
  refine ⟨h.hB, h.few, h.last, ⟨tv, (hk B (fun e => hf.2.1 e.symm)).trans h1, h2.same (by rw [hs]; exact Nat.le_refl _) (hap tv h3), h3⟩, ⟨vs, e, own_keep ho (fun k hk2 => hk k (fun e => hf.2.2 (e ▸ hk2))), fun x hx => ?_⟩, h.own, fun k hk2 => by rw [hs]; exact h.far k hk2⟩
  have hx' := hn x hx
  exact ⟨hx'.names.same (by rw [hs]; exact Nat.le_refl _) (hap _ hx'.anm), hx'.kids.same (by rw [hs]; exact Nat.le_refl _) (hap _ hx'.akd), hx'.anm, hx'.akd, fun k hk2 => by rw [hs]; exact hx'.lnm k hk2, fun k hk2 => by rw [hs]; exact hx'.lkd k hk2⟩
/-- A new block is another one's. -/
theorem RS.more {F : Nat → Prop} {base B dep : Nat} {st : Ps.St} {nv : Value} {W : World} (h : RS F base B dep st nv W) (o : Obj) : RS (fun k => F k ∨ k = W.heap.size) base B dep st nv (W.alloc o) := by
  have hb : Below W.heap.size W (W.alloc o) := (Below.refl _ _).alloc (Nat.le_refl _) _
  have h' := h.below hb
  have hlB := h.lt
  obtain ⟨tv, h1, h2, h3⟩ := h'.rd
  obtain ⟨vs, e, ho, hn⟩ := h'.nd
  obtain ⟨tv0, g1, g2, g3⟩ := h.rd
  obtain ⟨vs0, e0, ho0, hn0⟩ := h.nd
  have c := Chg.below (B := B) nv hb
  have htl : ∀ k, blockOf tv0 = some k → k < W.heap.size := fun k hk => by
    obtain ⟨g, off, cap, rfl, _, _, hg, _⟩ := g2
    have : g = k := by simpa [blockOf] using hk
    omega
  refine ⟨h.hB, h.few, h.last, ⟨tv0, (hb.block B hlB).trans g1, g2.go g3 c, fun k hk => ⟨(g3 k hk).1, (g3 k hk).2.1, fun hF => by
    rcases hF with hF | hF
    · exact (g3 k hk).2.2 hF
    · have := htl k hk; omega⟩⟩, ⟨vs0, e0, own_below ho0 hb, fun x hx => ?_⟩, h.own, fun k hk => ?_⟩
  · have hx' := (hn0 x hx).go c
    have hx0 := hn0 x hx
    exact ⟨hx'.names, hx'.kids, fun k hk => ⟨(hx0.anm k hk).1, (hx0.anm k hk).2.1, fun hF => by
      rcases hF with hF | hF
      · exact (hx0.anm k hk).2.2 hF
      · have := hx0.lnm k hk; omega⟩, fun k hk => ⟨(hx0.akd k hk).1, (hx0.akd k hk).2.1, fun hF => by
      rcases hF with hF | hF
      · exact (hx0.akd k hk).2.2 hF
      · have := hx0.lkd k hk; omega⟩, hx'.lnm, hx'.lkd⟩
  · rw [alloc_size']
    rcases hk with hk | rfl
    · have := h.far k hk; exact ⟨by omega, this.2⟩
    · exact ⟨by omega, by omega, fun e => by have := (own_block ho0 _ e).2; omega⟩
/-- Fewer blocks are other ones'. -/
theorem RS.less {F F' : Nat → Prop} {base B dep : Nat} {st : Ps.St} {nv : Value} {W : World} (h : RS F base B dep st nv W) (hF : ∀ k, F' k → F k) : RS F' base B dep st nv W := by
  obtain ⟨tv, h1, h2, h3⟩ := h.rd
  obtain ⟨vs, e, ho, hn⟩ := h.nd
  exact ⟨h.hB, h.few, h.last, ⟨tv, h1, h2, fun k hk => ⟨(h3 k hk).1, (h3 k hk).2.1, fun h => (h3 k hk).2.2 (hF k h)⟩⟩, ⟨vs, e, ho, fun x hx => ⟨(hn x hx).names, (hn x hx).kids, fun k hk => ⟨((hn x hx).anm k hk).1, ((hn x hx).anm k hk).2.1, fun h => ((hn x hx).anm k hk).2.2 (hF k h)⟩, fun k hk => ⟨((hn x hx).akd k hk).1, ((hn x hx).akd k hk).2.1, fun h => ((hn x hx).akd k hk).2.2 (hF k h)⟩, (hn x hx).lnm, (hn x hx).lkd⟩⟩, h.own, fun k hk => h.far k (hF k hk)⟩
set_option maxRecDepth 100000 in
set_option maxHeartbeats 2000000 in
theorem leaf_any {F : Nat → Prop} {base B dep : Nat} {st : Ps.St} {nv : Value} {w : World} (h : RS F base B dep st nv w) (hlen : st.nodes.length ≤ 1000000000) (k n : Nat) (t : List UInt8) :
    Calls Tryd.prog 90 #[.pointer (some ⟨B, 0, none⟩), .agg #[.int .i64 (k : Int), .int .i64 (n : Int), .string ⟨t.toArray⟩, .slice none 0 0, .slice none 0 0, .int .i64 0]] w fun e w' => e = .returned (.int .i64 (st.nodes.length : Int)) ∧ Leaves F base B dep nv w (Ps.leaf { k := k, n := n, t := t } st).2 w' := by
  have HS : Hid (∀ o, Calls Tryd.prog 62 #[.pointer (some ⟨B, 0, none⟩)] (w.alloc o) fun e w' => e = .returned (.agg (tkA (Ps.nxt st))) ∧ RS (fun k => F k ∨ k = w.heap.size) base B dep (Ps.skip st).2 nv w' ∧ Chg B nv nv (w.alloc o) w') := fun o => skip_any (h.more o)
  have HADD : Hid (∀ (a : Nat) W, RS (fun k => F k ∨ k = w.heap.size) base B dep (Ps.skip st).2 nv W → Calls Tryd.prog 15 #[.pointer (some ⟨B, 0, none⟩), .agg #[.int .i64 (k : Int), .int .i64 (n : Int), .string ⟨t.toArray⟩, .slice none 0 0, .slice none 0 0, .int .i64 (a : Int)]] W fun e w' => e = .returned (.int .i64 (st.nodes.length : Int)) ∧ ∃ nv', RS F base B dep (Ps.add { k := k, n := n, t := t, a := a } (Ps.skip st).2).2 nv' w' ∧ Chg B nv nv' W w') := fun a W hW => by
    have := add_any hW hW.hbw (by rw [skip_nodes]; exact hlen) { k := k, n := n, t := t, a := a } nil0 nil0 (NdIn.zero _ _ _ _ _ _ _) rfl rfl
    rw [skip_nodes] at this
    refine this.mono ?_
    rintro e w' ⟨rfl, nv', hr, hc⟩
    exact ⟨rfl, nv', hr.less (fun k hk => .inl hk), hc⟩
  have hl : (Ps.leaf { k := k, n := n, t := t } st).2 = (Ps.add { k := k, n := n, t := t, a := (Ps.nxt st).a } (Ps.skip st).2).2 := rfl
  rw [hl]
  have HLB : Hid (B < w.heap.size ∧ nv.ownBlock ≠ some w.heap.size) := ⟨h.lt, fun e => by
    obtain ⟨vs, _, ho, _⟩ := h.nd
    have := (own_block ho _ e).2; omega⟩
  have hfl := run_field3
  clear h hl hlen
  generalize Ps.nxt st = T at *
  obtain ⟨tk, tt, tn, ta, tl, te⟩ := T
  simp only [tkA] at HS ⊢
  generalize (Ps.skip st).2 = st1 at *
  go_enter Tryd.func90, Tryd.ntmps90
  go_wp2_with fail
  refine Calls.mono (HS.out _) ?_
  rintro e w1 ⟨rfl, hr, hc⟩
  have hX := (hc.block w.heap.size (by simp) (by have := HLB.out.1; omega) HLB.out.2).trans (heap_alloc_new _ _ _)
  have hlX : w.heap.size < w1.heap.size := by have := hc.size; simp at this; omega
  obtain ⟨p0, p1, p2, p3, p4, p5⟩ : w1.cell? ⟨w.heap.size, 0, none⟩ = some (.int .i64 (k : Int)) ∧ w1.cell? ⟨w.heap.size, 1, none⟩ = some (.int .i64 (n : Int)) ∧ w1.cell? ⟨w.heap.size, 2, none⟩ = some (.string ⟨t.toArray⟩) ∧ w1.cell? ⟨w.heap.size, 3, none⟩ = some (.slice none 0 0) ∧ w1.cell? ⟨w.heap.size, 4, none⟩ = some (.slice none 0 0) ∧ w1.cell? ⟨w.heap.size, 5, none⟩ = some (.int .i64 0) := by
    refine ⟨?_, ?_, ?_, ?_, ?_, ?_⟩ <;> simp [World.cell?, hX]
  have hfz : w1.frozen? ⟨w.heap.size, 5, none⟩ = false := by simp [World.frozen?, hX]
  have HR : Hid (_) := hr
  have HC : Hid (Chg B nv nv _ w1) := (Chg.below (B := B) nv ((Below.refl w.heap.size w).alloc (Nat.le_refl _) _)).trans hc
  clear hr hc HS hX
  go_wp2_with fail
  refine Calls.mono (HADD.out ta _ (HR.out.foreign (.inr rfl) 5 _)) ?_
  rintro e w2 ⟨rfl, nv', hr2, hc2⟩
  go_wp2_with fail
  go_ret
  exact ⟨rfl, nv', hr2, (HC.out.setX (Nat.le_refl _) 5 _).trans hc2⟩
end Go.Proofs.YtoeolonbkeldoaaDoor.R
