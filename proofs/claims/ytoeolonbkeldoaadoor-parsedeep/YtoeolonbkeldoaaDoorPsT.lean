/- The parser's small functions by their contracts: mark, closes, skip, take. -/
import Derived.Test.YtoeolonbkeldoaaDoorPsR
import Derived.BigRegion
namespace Go.Proofs.YtoeolonbkeldoaaDoor.R
open Go.RowKit
open L (TokAt tkA own_block own_below intOf cells5h cells5)
set_option linter.unusedVariables false
theorem alloc_size' (w : World) (o : Obj) : (w.alloc o).heap.size = w.heap.size + 1 := Array.size_push _
theorem own_keep {w w' : World} {B : Nat} {e : TypeId} {z : Nat} {v : Value} {n : Nat} {xs : List Value} (h : w.ownsRow B e z v n xs) (hb : ∀ k, v.ownBlock = some k → w'.heap[k]? = w.heap[k]?) : w'.ownsRow B e z v n xs := by
  rcases h.2 with ⟨e, e0⟩ | ⟨g, cap, cur, e, e1, e2, e3⟩
  · exact ⟨h.1, .inl ⟨e, e0⟩⟩
  · exact ⟨h.1, .inr ⟨g, cap, cur, e, e1, (hb g (by rw [e]; rfl)).trans e2, e3⟩⟩
theorem Chg.setB (B : Nat) (nv : Value) (w : World) (i : Nat) (u : Value) : Chg B nv nv w (w.setCell ⟨B, i, none⟩ u) :=
  ⟨rfl, rfl, rfl, by simp [World.setCell], fun k _ h2 _ => Below.heap_setCell _ _ _ _ (by show k ≠ B; exact h2), fun _ h => .inl h⟩
theorem Chg.alloc {B : Nat} {nv nv' : Value} {w W : World} (h : Chg B nv nv' w W) (o : Obj) : Chg B nv nv' w (W.alloc o) :=
  ⟨h.os, h.tape, h.output, by rw [alloc_size']; exact Nat.le_succ_of_le h.size, fun k h1 h2 h3 => (Below.heap_alloc W o k (Nat.lt_of_lt_of_le h1 h.size)).trans (h.block k h1 h2 h3), h.fresh⟩
theorem Chg.drew {B : Nat} {nv nv' : Value} {w W : World} (h : Chg B nv nv' w W) : Chg B nv nv' w W.drew := ⟨h.os, h.tape, h.output, h.size, h.block, h.fresh⟩
theorem Chg.setX {B : Nat} {nv nv' : Value} {w W : World} (h : Chg B nv nv' w W) {X : Nat} (hX : w.heap.size ≤ X) (i : Nat) (u : Value) : Chg B nv nv' w (W.setCell ⟨X, i, none⟩ u) :=
  ⟨h.os, h.tape, h.output, by simpa [World.setCell] using h.size, fun k h1 h2 h3 => (Below.heap_setCell W ⟨X, i, none⟩ u k (by show k ≠ X; omega)).trans (h.block k h1 h2 h3), h.fresh⟩
theorem Chg.setBB {B : Nat} {nv nv' : Value} {w W : World} (h : Chg B nv nv' w W) (i : Nat) (u : Value) : Chg B nv nv' w (W.setCell ⟨B, i, none⟩ u) :=
  ⟨h.os, h.tape, h.output, by simpa [World.setCell] using h.size, fun k h1 h2 h3 => (Below.heap_setCell W ⟨B, i, none⟩ u k h2).trans (h.block k h1 h2 h3), h.fresh⟩
/-- All but one block stays. -/
abbrev ChgB (B : Nat) (w W : World) : Prop := Chg B (.slice none 0 0) (.slice none 0 0) w W
theorem ChgB.chg {B : Nat} {w W : World} (h : ChgB B w W) (nv : Value) : Chg B nv nv w W := ⟨h.os, h.tape, h.output, h.size, fun k h1 h2 _ => h.block k h1 h2 (by simp [Value.ownBlock]), fun _ h => .inl h⟩
theorem ChgB.keep {B : Nat} {w W : World} (h : ChgB B w W) {base : Nat} {e : TypeId} {z : Nat} {v : Value} {n : Nat} {xs : List Value} (ho : w.ownsRow base e z v n xs) (hB : v.ownBlock ≠ some B) : ∀ k, v.ownBlock = some k → W.heap[k]? = w.heap[k]? := fun k hk =>
  h.block k (own_block ho k hk).2 (fun e => hB (by rw [hk, e])) (by simp [Value.ownBlock])
theorem set0 {w : World} {b : Nat} {x0 x1 x2 x3 x4 : Value} {t : TypeId} (h : w.heap[b]? = some (.cells #[x0, x1, x2, x3, x4] t (0, 0))) (y : Value) : (w.setCell ⟨b, 0, none⟩ y).heap[b]? = some (.cells #[y, x1, x2, x3, x4] t (0, 0)) := by
  simp [World.setCell, Array.getElem?_modify, h]
theorem set5x {w : World} {b X : Nat} {o : Option Obj} (h : w.heap[b]? = o) (hX : b ≠ X) (y0 y1 y2 y3 y4 : Value) :
    (((((w.setCell ⟨X, 0, none⟩ y0).setCell ⟨X, 1, none⟩ y1).setCell ⟨X, 2, none⟩ y2).setCell ⟨X, 3, none⟩ y3).setCell ⟨X, 4, none⟩ y4).heap[b]? = o := by
  rw [Below.heap_setCell _ _ _ _ (by exact hX), Below.heap_setCell _ _ _ _ (by exact hX), Below.heap_setCell _ _ _ _ (by exact hX), Below.heap_setCell _ _ _ _ (by exact hX), Below.heap_setCell _ _ _ _ (by exact hX)]; exact h
theorem RS.lt {F : Nat → Prop} {base B dep : Nat} {st : Ps.St} {nv : Value} {W : World} (h : RS F base B dep st nv W) : B < W.heap.size := by
  obtain ⟨tv, h1, _⟩ := h.rd
  exact Nat.lt_of_not_le fun hg => by rw [Array.getElem?_eq_none hg] at h1; cases h1
/-- The reader in another state, where its block alone has changed. -/
theorem RS.turn {F : Nat → Prop} {base B dep dep' : Nat} {st st' : Ps.St} {nv : Value} {W W' : World} (h : RS F base B dep st nv W) (c : ChgB B W W') (hn : st'.nodes = st.nodes) (hf : st'.toks.length ≤ 100000) (hl : ∀ T, st'.toks.getLast? = some T → T.k = 0 ∨ T.k = 6)
    (tv : Value) (h1 : W'.heap[B]? = some (.cells #[tv, nv, .int .i64 (dep' : Int), .bool st'.failed, .int .i64 (st'.at_ : Int)] 39 (0, 0))) (h2 : TokIn W' tv st'.toks) (h3 : Apart F B nv tv) : RS F base B dep' st' nv W' := by
  obtain ⟨vs, e, ho, hx⟩ := h.nd
  have c2 := c.chg nv
  exact ⟨h.hB, hf, hl, ⟨tv, h1, h2, h3⟩, ⟨vs, by rw [hn]; exact e, own_keep ho (c.keep ho h.own), fun x hm => (hx x hm).go c2⟩, h.own, fun k hk => ⟨Nat.lt_of_lt_of_le (h.far k hk).1 c.size, (h.far k hk).2⟩⟩
set_option maxRecDepth 100000 in
set_option maxHeartbeats 1000000 in
theorem mark_any {F : Nat → Prop} {base B dep : Nat} {st : Ps.St} {nv : Value} {w : World} (h : RS F base B dep st nv w) :
    Calls Tryd.prog 30 #[.pointer (some ⟨B, 0, none⟩)] w fun e w' => e = .returned (.string ⟨(Ps.mark st).toArray⟩) ∧ Below w.heap.size w w' := by
  have HN : Hid (_) := next_any h
  have hm : Ps.mark st = if (Ps.nxt st).k = 4 ∨ (Ps.nxt st).k = 5 then (Ps.nxt st).t else [] := rfl
  rw [hm]
  clear hm h
  generalize Ps.nxt st = T at *
  obtain ⟨tk, tt, tn, ta, tl, te⟩ := T
  simp only [tkA] at HN ⊢
  by_cases h4 : tk = 4
  · subst h4
    rw [if_pos (.inl rfl)]
    go_enter Tryd.func30, Tryd.ntmps30
    go_wp2_with fail
    refine Calls.mono HN.out ?_
    rintro e w1 ⟨rfl, hb1⟩
    go_wp2_with fail
    go_ret
    exact ⟨rfl, hb1.alloc hb1.size _⟩
  by_cases h5 : tk = 5
  · subst h5
    rw [if_pos (.inr rfl)]
    go_enter Tryd.func30, Tryd.ntmps30
    go_wp2_with fail
    refine Calls.mono HN.out ?_
    rintro e w1 ⟨rfl, hb1⟩
    go_wp2_with fail
    go_ret
    exact ⟨rfl, hb1.alloc hb1.size _⟩
  rw [if_neg (by rintro (e | e) <;> contradiction)]
  have e4 : ((tk : Int) == 4) = false := by rw [beq_eq_false_iff_ne]; omega
  have e5 : ((tk : Int) == 5) = false := by rw [beq_eq_false_iff_ne]; omega
  go_enter Tryd.func30, Tryd.ntmps30
  go_wp2_with fail
  refine Calls.mono HN.out ?_
  rintro e w1 ⟨rfl, hb1⟩
  go_wp2_with fail
  go_ret
  exact ⟨rfl, hb1.alloc hb1.size _⟩
theorem TokIn.tail {W : World} {g off cap : Nat} {T : Lx.Tk} {L : List Lx.Tk} (h : TokIn W (.slice (some ⟨g, off, none⟩) (T :: L).length cap) (T :: L)) (hL : 1 ≤ L.length) : TokIn W (.slice (some ⟨g, off + 5, none⟩) L.length (cap - 1)) L := by
  obtain ⟨g', off', cap', e, h1, h2, h3, h4, h5⟩ := h
  simp only [Value.slice.injEq, Option.some.injEq, Addr.mk.injEq, and_true] at e
  obtain ⟨⟨rfl, rfl⟩, _, rfl⟩ := e
  rw [List.length_cons] at h1
  refine ⟨g, off + 5, cap - 1, rfl, by omega, by omega, h3, hL, fun j hj => ?_⟩
  have := h5 (j + 1) (by rw [List.length_cons]; omega)
  rw [show off + 5 + j * 5 = off + (j + 1) * 5 by omega]
  simpa using this
set_option maxRecDepth 100000 in
set_option maxHeartbeats 1000000 in
theorem skip_any {F : Nat → Prop} {base B dep : Nat} {st : Ps.St} {nv : Value} {w : World} (h : RS F base B dep st nv w) :
    Calls Tryd.prog 62 #[.pointer (some ⟨B, 0, none⟩)] w fun e w' => e = .returned (.agg (tkA (Ps.nxt st))) ∧ RS F base B dep (Ps.skip st).2 nv w' ∧ Chg B nv nv w w' := by
  have HN : Hid (∀ W, Below w.heap.size w W → Calls Tryd.prog 13 #[.pointer (some ⟨B, 0, none⟩)] W fun e w' => e = .returned (.agg (tkA (Ps.nxt st))) ∧ Below W.heap.size W w') := fun W hW => next_any (h.below hW)
  have hlB := h.lt
  obtain ⟨tv, h1, htk, h3⟩ := h.rd
  have ⟨g, off, cap, etv, hc, hcap, hg, hne, ht⟩ := htk
  subst etv
  have H : Hid (_) := h
  have HAP : Hid (Apart F B nv (.slice (some ⟨g, off, none⟩) st.toks.length cap)) := h3
  have HTK : Hid (TokIn w (.slice (some ⟨g, off, none⟩) st.toks.length cap) st.toks) := htk
  have HB1 : Hid (w.heap[B]? = _) := h1
  generalize hT : Ps.nxt st = T at *
  obtain ⟨tk, tt, tn, ta, tl, te⟩ := T
  simp only [tkA] at HN ⊢
  clear h h1 htk h3 ht
  by_cases hone : 1 < st.toks.length
  · obtain ⟨T0, L, e⟩ : ∃ T L, st.toks = T :: L := by
      cases hs : st.toks with
      | nil => rw [hs] at hne; simp at hne
      | cons T L => exact ⟨T, L, rfl⟩
    have hst : (Ps.skip st).2 = { st with toks := L } := by unfold Ps.skip; rw [if_pos hone, e]; rfl
    rw [hst]
    have hL1 : 1 ≤ L.length := by rw [e, List.length_cons] at hone; omega
    have HE : Hid (_) := e
    have hone' : (1 : Int) < st.toks.length := by omega
    have h1n : (1 : Int) ≤ st.toks.length := by omega
    have hnc : (st.toks.length : Int) ≤ cap := by omega
    clear e hst
    go_enter Tryd.func62, Tryd.ntmps62
    go_wp2_with fail
    refine Calls.mono (HN.out _ ((Below.refl _ _).alloc (Nat.le_refl _) _)) ?_
    rintro e w1 ⟨rfl, hb1⟩
    have hz1 := hb1.size
    simp only [alloc_size'] at hz1
    obtain ⟨r0, r1, r2, r3, r4, g0, g1, g2, g3, g4⟩ := cells5 rfl (hb1.mono (by simp))
    have hB1 := ((Below.refl w.heap.size w).alloc (Nat.le_refl _) _).trans (hb1.mono (by simp))
    obtain ⟨q0, q1, q2, q3, q4, f0, f1, f2, f3, f4, hlt⟩ := cells5h ((hB1.block B hlB).trans HB1.out)
    have HB1' : Hid (_) := hB1
    clear hb1 hB1 HN
    have hlt1 : w.heap.size < w1.heap.size := by omega
    have hne1 : w.heap.size ≠ B := by omega
    have hne2 : B ≠ w.heap.size := by omega
    go_wp2_with fail
    refine bodyPost_ret (v := .agg #[.int .i64 (tk : Int), .string ⟨tt.toArray⟩, .int .i64 (tn : Int), .int .i64 (ta : Int), .bool tl]) (by simp [results, Tryd.results62, go_sem, *]) rfl ⟨rfl, ?_⟩
    have c0 : ChgB B w w1 := Chg.below _ HB1'.out
    have cc : ChgB B w _ := ((((((((c0.setBB 0 (.slice (some ⟨g, off + 5, none⟩) (st.toks.length - 1) (cap - 1))).setX (Nat.le_refl _) 0 (.int .i64 (tk : Int))).setX (Nat.le_refl _) 1 (.string ⟨tt.toArray⟩)).setX (Nat.le_refl _) 2 (.int .i64 (tn : Int))).setX (Nat.le_refl _) 3 (.int .i64 (ta : Int))).setX (Nat.le_refl _) 4 (.bool tl)).alloc (.cells #[.int .i64 (tk : Int), .string ⟨tt.toArray⟩, .int .i64 (tn : Int), .int .i64 (ta : Int), .bool tl] 42)))
    refine ⟨H.out.turn cc rfl (by have := H.out.few; rw [HE.out, List.length_cons] at this; show L.length ≤ _; omega) (fun T hT => H.out.last T (by rw [HE.out, List.getLast?_cons]; rw [show L.getLast? = some T from hT]; rfl)) (.slice (some ⟨g, off + 5, none⟩) (st.toks.length - 1) (cap - 1)) ?_ ?_ (fun k hk => HAP.out k hk), cc.chg nv⟩
    · rw [Below.heap_alloc _ _ _ (by simp [World.setCell]; exact hlt)]
      exact set5x (set0 ((HB1'.out.block B hlB).trans HB1.out) _) hne2 _ _ _ _ _
    · have h5 := HTK.out.go HAP.out (cc.chg nv)
      rw [HE.out] at h5 ⊢
      exact h5.tail hL1
  · have hst : (Ps.skip st).2 = st := by unfold Ps.skip; rw [if_neg hone]
    rw [hst]
    have hone' : ¬ (1 : Int) < st.toks.length := by omega
    clear hst
    go_enter Tryd.func62, Tryd.ntmps62
    go_wp2_with fail
    refine Calls.mono (HN.out _ ((Below.refl _ _).alloc (Nat.le_refl _) _)) ?_
    rintro e w1 ⟨rfl, hb1⟩
    have hz1 := hb1.size
    simp only [alloc_size'] at hz1
    obtain ⟨r0, r1, r2, r3, r4, g0, g1, g2, g3, g4⟩ := cells5 rfl (hb1.mono (by simp))
    have hB1 := ((Below.refl w.heap.size w).alloc (Nat.le_refl _) _).trans (hb1.mono (by simp))
    obtain ⟨q0, q1, q2, q3, q4, f0, f1, f2, f3, f4, hlt⟩ := cells5h ((hB1.block B hlB).trans HB1.out)
    have HB1' : Hid (_) := hB1
    clear hb1 hB1 HN
    have hlt1 : w.heap.size < w1.heap.size := by omega
    go_wp2_with fail
    refine bodyPost_ret (v := .agg #[.int .i64 (tk : Int), .string ⟨tt.toArray⟩, .int .i64 (tn : Int), .int .i64 (ta : Int), .bool tl]) (by simp [results, Tryd.results62, go_sem, *]) rfl ⟨rfl, ?_⟩
    have hBB : Below w.heap.size w _ := (((((HB1'.out.setCell (p := ⟨w.heap.size, 0, none⟩) (Nat.le_refl _) (.int .i64 (tk : Int))).setCell (p := ⟨w.heap.size, 1, none⟩) (Nat.le_refl _) (.string ⟨tt.toArray⟩)).setCell (p := ⟨w.heap.size, 2, none⟩) (Nat.le_refl _) (.int .i64 (tn : Int))).setCell (p := ⟨w.heap.size, 3, none⟩) (Nat.le_refl _) (.int .i64 (ta : Int))).setCell (p := ⟨w.heap.size, 4, none⟩) (Nat.le_refl _) (.bool tl)).alloc (by simp [World.setCell]; omega) (.cells #[.int .i64 (tk : Int), .string ⟨tt.toArray⟩, .int .i64 (tn : Int), .int .i64 (ta : Int), .bool tl] 42)
    exact ⟨H.out.below hBB, Chg.below nv hBB⟩
/-- A reader's step: from a state to a state. -/
def Step (F : Nat → Prop) (base B dep : Nat) (nv : Value) (w : World) (st' : Ps.St) (w' : World) : Prop := ∃ nv', RS F base B dep st' nv' w' ∧ Chg B nv nv' w w'
theorem bytes_eq (s : ByteArray) (l : List UInt8) : (s.toList == l) = decide (s.data.toList = l) := by
  rw [ByteArray.toList_eq]
  by_cases h : s.data.toList = l <;> simp [h]
set_option maxRecDepth 100000 in
set_option maxHeartbeats 1000000 in
theorem take_any {F : Nat → Prop} {base B dep : Nat} {st : Ps.St} {nv : Value} {w : World} (h : RS F base B dep st nv w) (m : List UInt8) :
    Calls Tryd.prog 65 #[.pointer (some ⟨B, 0, none⟩), .string ⟨m.toArray⟩] w fun e w' => e = .returned (.bool (Ps.take m st).1) ∧ RS F base B dep (Ps.take m st).2 nv w' ∧ Chg B nv nv w w' := by
  have HM : Hid (_) := mark_any h
  have HS : Hid (∀ W, Below w.heap.size w W → Calls Tryd.prog 62 #[.pointer (some ⟨B, 0, none⟩)] W fun e w' => e = .returned (.agg (tkA (Ps.nxt st))) ∧ RS F base B dep (Ps.skip st).2 nv w' ∧ Chg B nv nv W w') := fun W hW => skip_any (h.below hW)
  have H : Hid (_) := h
  clear h
  generalize hm : Ps.mark st = mk at *
  by_cases hq : mk = m
  · have ht : Ps.take m st = (true, (Ps.skip st).2) := by unfold Ps.take; rw [hm, if_pos hq]
    rw [ht]
    subst hq
    clear ht hm
    generalize (Ps.skip st).2 = st' at *
    generalize Ps.nxt st = T at *
    go_enter Tryd.func65, Tryd.ntmps65
    go_wp2_with fail
    refine Calls.mono HM.out ?_
    rintro e w1 ⟨rfl, hb1⟩
    go_wp2_with fail
    refine Calls.mono (HS.out _ hb1) ?_
    rintro e w2 ⟨rfl, hr, hc⟩
    go_wp2_with fail
    go_ret
    exact ⟨rfl, hr, (Chg.below nv hb1).trans hc⟩
  · have ht : Ps.take m st = (false, st) := by unfold Ps.take; rw [hm, if_neg hq]
    rw [ht]
    have hne : (mk == m) = false := by simpa using hq
    clear ht hm HS
    go_enter Tryd.func65, Tryd.ntmps65
    go_wp2_with fail
    refine Calls.mono HM.out ?_
    rintro e w1 ⟨rfl, hb1⟩
    go_wp2_with fail
    go_ret
    exact ⟨rfl, H.out.below hb1, Chg.below nv hb1⟩
set_option maxRecDepth 100000 in
set_option maxHeartbeats 1000000 in
theorem closes_any {F : Nat → Prop} {base B dep : Nat} {st : Ps.St} {nv : Value} {w : World} (h : RS F base B dep st nv w) :
    Calls Tryd.prog 18 #[.pointer (some ⟨B, 0, none⟩)] w fun e w' => e = .returned (.bool (Ps.closes st)) ∧ Below w.heap.size w w' := by
  have HM : Hid (_) := mark_any h
  have HN : Hid (∀ W, Below w.heap.size w W → Calls Tryd.prog 13 #[.pointer (some ⟨B, 0, none⟩)] W fun e w' => e = .returned (.agg (tkA (Ps.nxt st))) ∧ Below W.heap.size W w') := fun W hW => next_any (h.below hW)
  have hc : Ps.closes st = (decide (Ps.mark st = [125]) || decide ((Ps.nxt st).k = 0)) := rfl
  rw [hc]
  clear hc h
  generalize Ps.mark st = mk at *
  generalize Ps.nxt st = T at *
  obtain ⟨tk, tt, tn, ta, tl, te⟩ := T
  simp only [tkA] at HN ⊢
  have hfl : ∀ (k : Int) (t : ByteArray) (n a : Int) (ln : Bool) (W : World), (Instr.field 42 (.agg #[.int .i64 k, .string t, .int .i64 n, .int .i64 a, .bool ln]) 0).run Tryd.prog W = .ok (.int .i64 k) W := fun k t n a ln W => by simp [Instr.field, go_sem, asAgg]
  by_cases h1 : mk = [125]
  · subst h1
    go_enter Tryd.func18, Tryd.ntmps18
    go_wp2_with fail
    refine Calls.mono HM.out ?_
    rintro e w1 ⟨rfl, hb1⟩
    go_wp2_with fail
    go_ret
    exact ⟨rfl, hb1⟩
  · have hne : (mk == [125]) = false := by simpa using h1
    by_cases h2 : tk = 0
    · subst h2
      go_enter Tryd.func18, Tryd.ntmps18
      go_wp2_with fail
      refine Calls.mono HM.out ?_
      rintro e w1 ⟨rfl, hb1⟩
      go_wp2_with fail
      refine Calls.mono (HN.out _ hb1) ?_
      rintro e w2 ⟨rfl, hb2⟩
      go_wp2_with fail
      go_ret
      exact ⟨by simp [h1], hb1.trans (hb2.mono hb1.size)⟩
    · have h2' : ((tk : Int) == 0) = false := by rw [beq_eq_false_iff_ne]; omega
      go_enter Tryd.func18, Tryd.ntmps18
      go_wp2_with fail
      refine Calls.mono HM.out ?_
      rintro e w1 ⟨rfl, hb1⟩
      go_wp2_with fail
      refine Calls.mono (HN.out _ hb1) ?_
      rintro e w2 ⟨rfl, hb2⟩
      go_wp2_with fail
      go_ret
      exact ⟨by simp [h1, h2], hb1.trans (hb2.mono hb1.size)⟩
end Go.Proofs.YtoeolonbkeldoaaDoor.R
