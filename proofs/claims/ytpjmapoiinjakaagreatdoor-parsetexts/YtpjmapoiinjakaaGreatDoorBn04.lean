/- Texts: PsT PsA PsF PsL. -/
import Derived.Test.YtpjmapoiinjakaaGreatDoorBn03
import Derived.BigRegion
import Derived.Maps.AppendAt
import Derived.Deep.RegionLaw
section
namespace Go.Proofs.YtpjmapoiinjakaaGreatDoor.R
open Go.RowKit
open L (TokAt tkA own_block own_below intOf cells5h cells5)
set_option linter.unusedVariables false
theorem alloc_size' (w : World) (o : Obj) : (w.alloc o).heap.size = w.heap.size + 1 := Array.size_push _
theorem own_keep {w w' : World} {B : Nat} {e : TypeId} {z : Nat} {v : Value} {n : Nat} {xs : List Value} (h : w.ownsRow B e z v n xs) (hb : ∀ k, v.ownBlock = some k → w'.heap[k]? = w.heap[k]?) : w'.ownsRow B e z v n xs := by
  rcases h.2 with ⟨e, e0⟩ | ⟨g, cap, cur, e, e1, e2, e3⟩
  · exact ⟨h.1, .inl ⟨e, e0⟩⟩
  · exact ⟨h.1, .inr ⟨g, cap, cur, e, e1, (hb g (by rw [e]; rfl)).trans e2, e3⟩⟩
theorem Chg.setB (B : Nat) (nv : Value) (w : World) (i : Nat) (u : Value) : Chg B nv nv w (w.setCell ⟨B, i, none⟩ u) :=
  ⟨rfl, rfl, rfl, by simp [World.setCell], fun k _ h2 _ => Below.heap_setCell _ _ _ _ (by show k ≠ B; exact h2), fun _ h => .inl h⟩
theorem Chg.alloc {B : Nat} {nv nv' : Value} {w W : World} (h : Chg B nv nv' w W) (o : Obj) : Chg B nv nv' w (W.alloc o) :=
  ⟨h.os, h.tape, h.output, by rw [alloc_size']; exact Nat.le_succ_of_le h.size, fun k h1 h2 h3 => (Below.heap_alloc W o k (Nat.lt_of_lt_of_le h1 h.size)).trans (h.block k h1 h2 h3), h.fresh⟩
theorem Chg.drew {B : Nat} {nv nv' : Value} {w W : World} (h : Chg B nv nv' w W) : Chg B nv nv' w W.drew := ⟨h.os, h.tape, h.output, h.size, h.block, h.fresh⟩
theorem Chg.setX {B : Nat} {nv nv' : Value} {w W : World} (h : Chg B nv nv' w W) {X : Nat} (hX : w.heap.size ≤ X) (i : Nat) (u : Value) : Chg B nv nv' w (W.setCell ⟨X, i, none⟩ u) :=
  ⟨h.os, h.tape, h.output, by simpa [World.setCell] using h.size, fun k h1 h2 h3 => (Below.heap_setCell W ⟨X, i, none⟩ u k (by show k ≠ X; omega)).trans (h.block k h1 h2 h3), h.fresh⟩
theorem Chg.setBB {B : Nat} {nv nv' : Value} {w W : World} (h : Chg B nv nv' w W) (i : Nat) (u : Value) : Chg B nv nv' w (W.setCell ⟨B, i, none⟩ u) :=
  ⟨h.os, h.tape, h.output, by simpa [World.setCell] using h.size, fun k h1 h2 h3 => (Below.heap_setCell W ⟨B, i, none⟩ u k h2).trans (h.block k h1 h2 h3), h.fresh⟩
/-- All but one block stays. -/
abbrev ChgB (B : Nat) (w W : World) : Prop := Chg B (.slice none 0 0) (.slice none 0 0) w W
theorem ChgB.chg {B : Nat} {w W : World} (h : ChgB B w W) (nv : Value) : Chg B nv nv w W := ⟨h.os, h.tape, h.output, h.size, fun k h1 h2 _ => h.block k h1 h2 (by simp [Value.ownBlock]), fun _ h => .inl h⟩
theorem ChgB.keep {B : Nat} {w W : World} (h : ChgB B w W) {base : Nat} {e : TypeId} {z : Nat} {v : Value} {n : Nat} {xs : List Value} (ho : w.ownsRow base e z v n xs) (hB : v.ownBlock ≠ some B) : ∀ k, v.ownBlock = some k → W.heap[k]? = w.heap[k]? := fun k hk =>
  h.block k (own_block ho k hk).2 (fun e => hB (by rw [hk, e])) (by simp [Value.ownBlock])
theorem set0 {w : World} {b : Nat} {x0 x1 x2 x3 x4 : Value} {t : TypeId} (h : w.heap[b]? = some (.cells #[x0, x1, x2, x3, x4] t (0, 0))) (y : Value) : (w.setCell ⟨b, 0, none⟩ y).heap[b]? = some (.cells #[y, x1, x2, x3, x4] t (0, 0)) := by
  simp [World.setCell, Array.getElem?_modify, h]
theorem set5x {w : World} {b X : Nat} {o : Option Obj} (h : w.heap[b]? = o) (hX : b ≠ X) (y0 y1 y2 y3 y4 : Value) :
    (((((w.setCell ⟨X, 0, none⟩ y0).setCell ⟨X, 1, none⟩ y1).setCell ⟨X, 2, none⟩ y2).setCell ⟨X, 3, none⟩ y3).setCell ⟨X, 4, none⟩ y4).heap[b]? = o := by
  rw [Below.heap_setCell _ _ _ _ (by exact hX), Below.heap_setCell _ _ _ _ (by exact hX), Below.heap_setCell _ _ _ _ (by exact hX), Below.heap_setCell _ _ _ _ (by exact hX), Below.heap_setCell _ _ _ _ (by exact hX)]; exact h
theorem RS.lt {F : Nat → Prop} {base B dep : Nat} {st : Ps.St} {nv : Value} {W : World} (h : RS F base B dep st nv W) : B < W.heap.size := by
  obtain ⟨tv, h1, _⟩ := h.rd
  exact Nat.lt_of_not_le fun hg => by rw [Array.getElem?_eq_none hg] at h1; cases h1
/-- The reader in another state, where its block alone has changed. -/
theorem RS.turn {F : Nat → Prop} {base B dep dep' : Nat} {st st' : Ps.St} {nv : Value} {W W' : World} (h : RS F base B dep st nv W) (c : ChgB B W W') (hn : st'.nodes = st.nodes) (hf : st'.toks.length ≤ 100000) (hl : ∀ T, st'.toks.getLast? = some T → T.k = 0 ∨ T.k = 6)
    (tv : Value) (h1 : W'.heap[B]? = some (.cells #[tv, nv, .int .i64 (dep' : Int), .bool st'.failed, .int .i64 (st'.at_ : Int)] 57 (0, 0))) (h2 : TokIn W' tv st'.toks) (h3 : Apart F B nv tv) : RS F base B dep' st' nv W' := by
  obtain ⟨vs, e, ho, hx⟩ := h.nd
  have c2 := c.chg nv
  exact ⟨h.hB, hf, hl, ⟨tv, h1, h2, h3⟩, ⟨vs, by rw [hn]; exact e, own_keep ho (c.keep ho h.own), fun x hm => (hx x hm).go c2⟩, h.own, fun k hk => ⟨Nat.lt_of_lt_of_le (h.far k hk).1 c.size, (h.far k hk).2⟩⟩
set_option maxRecDepth 100000 in
set_option maxHeartbeats 1000000 in
theorem mark_any {F : Nat → Prop} {base B dep : Nat} {st : Ps.St} {nv : Value} {w : World} (h : RS F base B dep st nv w) :
    Calls Tryz.prog 52 #[.pointer (some ⟨B, 0, none⟩)] w fun e w' => e = .returned (.string ⟨(Ps.mark st).toArray⟩) ∧ Below w.heap.size w w' := by
  have HN : Hid (_) := next_any h
  have hm : Ps.mark st = if (Ps.nxt st).k = 4 ∨ (Ps.nxt st).k = 5 then (Ps.nxt st).t else [] := rfl
  rw [hm]
  clear hm h
  generalize Ps.nxt st = T at *
  obtain ⟨tk, tt, tn, ta, tl, te⟩ := T
  simp only [tkA] at HN ⊢
  by_cases h4 : tk = 4
  · subst h4
    rw [if_pos (.inl rfl)]
    go_enter Tryz.func52, Tryz.ntmps52
    go_wp2_with fail
    refine Calls.mono HN.out ?_
    rintro e w1 ⟨rfl, hb1⟩
    go_wp2_with fail
    go_ret
    exact ⟨rfl, hb1.alloc hb1.size _⟩
  by_cases h5 : tk = 5
  · subst h5
    rw [if_pos (.inr rfl)]
    go_enter Tryz.func52, Tryz.ntmps52
    go_wp2_with fail
    refine Calls.mono HN.out ?_
    rintro e w1 ⟨rfl, hb1⟩
    go_wp2_with fail
    go_ret
    exact ⟨rfl, hb1.alloc hb1.size _⟩
  rw [if_neg (by rintro (e | e) <;> contradiction)]
  have e4 : ((tk : Int) == 4) = false := by rw [beq_eq_false_iff_ne]; omega
  have e5 : ((tk : Int) == 5) = false := by rw [beq_eq_false_iff_ne]; omega
  go_enter Tryz.func52, Tryz.ntmps52
  go_wp2_with fail
  refine Calls.mono HN.out ?_
  rintro e w1 ⟨rfl, hb1⟩
  go_wp2_with fail
  go_ret
  exact ⟨rfl, hb1.alloc hb1.size _⟩
theorem TokIn.tail {W : World} {g off cap : Nat} {T : Lx.Tk} {L : List Lx.Tk} (h : TokIn W (.slice (some ⟨g, off, none⟩) (T :: L).length cap) (T :: L)) (hL : 1 ≤ L.length) : TokIn W (.slice (some ⟨g, off + 5, none⟩) L.length (cap - 1)) L := by
  obtain ⟨g', off', cap', e, h1, h2, h3, h4, h5⟩ := h
  simp only [Value.slice.injEq, Option.some.injEq, Addr.mk.injEq, and_true] at e
  obtain ⟨⟨rfl, rfl⟩, _, rfl⟩ := e
  rw [List.length_cons] at h1
  refine ⟨g, off + 5, cap - 1, rfl, by omega, by omega, h3, hL, fun j hj => ?_⟩
  have := h5 (j + 1) (by rw [List.length_cons]; omega)
  rw [show off + 5 + j * 5 = off + (j + 1) * 5 by omega]
  simpa using this
set_option maxRecDepth 100000 in
set_option maxHeartbeats 1000000 in
theorem skip_any {F : Nat → Prop} {base B dep : Nat} {st : Ps.St} {nv : Value} {w : World} (h : RS F base B dep st nv w) :
    Calls Tryz.prog 94 #[.pointer (some ⟨B, 0, none⟩)] w fun e w' => e = .returned (.agg (tkA (Ps.nxt st))) ∧ RS F base B dep (Ps.skip st).2 nv w' ∧ Chg B nv nv w w' := by
  have HN : Hid (∀ W, Below w.heap.size w W → Calls Tryz.prog 22 #[.pointer (some ⟨B, 0, none⟩)] W fun e w' => e = .returned (.agg (tkA (Ps.nxt st))) ∧ Below W.heap.size W w') := fun W hW => next_any (h.below hW)
  have hlB := h.lt
  obtain ⟨tv, h1, htk, h3⟩ := h.rd
  have ⟨g, off, cap, etv, hc, hcap, hg, hne, ht⟩ := htk
  subst etv
  have H : Hid (_) := h
  have HAP : Hid (Apart F B nv (.slice (some ⟨g, off, none⟩) st.toks.length cap)) := h3
  have HTK : Hid (TokIn w (.slice (some ⟨g, off, none⟩) st.toks.length cap) st.toks) := htk
  have HB1 : Hid (w.heap[B]? = _) := h1
  generalize hT : Ps.nxt st = T at *
  obtain ⟨tk, tt, tn, ta, tl, te⟩ := T
  simp only [tkA] at HN ⊢
  clear h h1 htk h3 ht
  by_cases hone : 1 < st.toks.length
  · obtain ⟨T0, L, e⟩ : ∃ T L, st.toks = T :: L := by
      cases hs : st.toks with
      | nil => rw [hs] at hne; simp at hne
      | cons T L => exact ⟨T, L, rfl⟩
    have hst : (Ps.skip st).2 = { st with toks := L } := by unfold Ps.skip; rw [if_pos hone, e]; rfl
    rw [hst]
    have hL1 : 1 ≤ L.length := by rw [e, List.length_cons] at hone; omega
    have HE : Hid (_) := e
    have hone' : (1 : Int) < st.toks.length := by omega
    have h1n : (1 : Int) ≤ st.toks.length := by omega
    have hnc : (st.toks.length : Int) ≤ cap := by omega
    clear e hst
    go_enter Tryz.func94, Tryz.ntmps94
    go_wp2_with fail
    refine Calls.mono (HN.out _ ((Below.refl _ _).alloc (Nat.le_refl _) _)) ?_
    rintro e w1 ⟨rfl, hb1⟩
    have hz1 := hb1.size
    simp only [alloc_size'] at hz1
    obtain ⟨r0, r1, r2, r3, r4, g0, g1, g2, g3, g4⟩ := cells5 rfl (hb1.mono (by simp))
    have hB1 := ((Below.refl w.heap.size w).alloc (Nat.le_refl _) _).trans (hb1.mono (by simp))
    obtain ⟨q0, q1, q2, q3, q4, f0, f1, f2, f3, f4, hlt⟩ := cells5h ((hB1.block B hlB).trans HB1.out)
    have HB1' : Hid (_) := hB1
    clear hb1 hB1 HN
    have hlt1 : w.heap.size < w1.heap.size := by omega
    have hne1 : w.heap.size ≠ B := by omega
    have hne2 : B ≠ w.heap.size := by omega
    go_wp2_with fail
    refine bodyPost_ret (v := .agg #[.int .i64 (tk : Int), .string ⟨tt.toArray⟩, .int .i64 (tn : Int), .int .i64 (ta : Int), .bool tl]) (by simp [results, Tryz.results94, go_sem, *]) rfl ⟨rfl, ?_⟩
    have c0 : ChgB B w w1 := Chg.below _ HB1'.out
    have cc : ChgB B w _ := ((((((((c0.setBB 0 (.slice (some ⟨g, off + 5, none⟩) (st.toks.length - 1) (cap - 1))).setX (Nat.le_refl _) 0 (.int .i64 (tk : Int))).setX (Nat.le_refl _) 1 (.string ⟨tt.toArray⟩)).setX (Nat.le_refl _) 2 (.int .i64 (tn : Int))).setX (Nat.le_refl _) 3 (.int .i64 (ta : Int))).setX (Nat.le_refl _) 4 (.bool tl)).alloc (.cells #[.int .i64 (tk : Int), .string ⟨tt.toArray⟩, .int .i64 (tn : Int), .int .i64 (ta : Int), .bool tl] 34)))
    refine ⟨H.out.turn cc rfl (by have := H.out.few; rw [HE.out, List.length_cons] at this; show L.length ≤ _; omega) (fun T hT => H.out.last T (by rw [HE.out, List.getLast?_cons]; rw [show L.getLast? = some T from hT]; rfl)) (.slice (some ⟨g, off + 5, none⟩) (st.toks.length - 1) (cap - 1)) ?_ ?_ (fun k hk => HAP.out k hk), cc.chg nv⟩
    · rw [Below.heap_alloc _ _ _ (by simp [World.setCell]; exact hlt)]
      exact set5x (set0 ((HB1'.out.block B hlB).trans HB1.out) _) hne2 _ _ _ _ _
    · have h5 := HTK.out.go HAP.out (cc.chg nv)
      rw [HE.out] at h5 ⊢
      exact h5.tail hL1
  · have hst : (Ps.skip st).2 = st := by unfold Ps.skip; rw [if_neg hone]
    rw [hst]
    have hone' : ¬ (1 : Int) < st.toks.length := by omega
    clear hst
    go_enter Tryz.func94, Tryz.ntmps94
    go_wp2_with fail
    refine Calls.mono (HN.out _ ((Below.refl _ _).alloc (Nat.le_refl _) _)) ?_
    rintro e w1 ⟨rfl, hb1⟩
    have hz1 := hb1.size
    simp only [alloc_size'] at hz1
    obtain ⟨r0, r1, r2, r3, r4, g0, g1, g2, g3, g4⟩ := cells5 rfl (hb1.mono (by simp))
    have hB1 := ((Below.refl w.heap.size w).alloc (Nat.le_refl _) _).trans (hb1.mono (by simp))
    obtain ⟨q0, q1, q2, q3, q4, f0, f1, f2, f3, f4, hlt⟩ := cells5h ((hB1.block B hlB).trans HB1.out)
    have HB1' : Hid (_) := hB1
    clear hb1 hB1 HN
    have hlt1 : w.heap.size < w1.heap.size := by omega
    go_wp2_with fail
    refine bodyPost_ret (v := .agg #[.int .i64 (tk : Int), .string ⟨tt.toArray⟩, .int .i64 (tn : Int), .int .i64 (ta : Int), .bool tl]) (by simp [results, Tryz.results94, go_sem, *]) rfl ⟨rfl, ?_⟩
    have hBB : Below w.heap.size w _ := (((((HB1'.out.setCell (p := ⟨w.heap.size, 0, none⟩) (Nat.le_refl _) (.int .i64 (tk : Int))).setCell (p := ⟨w.heap.size, 1, none⟩) (Nat.le_refl _) (.string ⟨tt.toArray⟩)).setCell (p := ⟨w.heap.size, 2, none⟩) (Nat.le_refl _) (.int .i64 (tn : Int))).setCell (p := ⟨w.heap.size, 3, none⟩) (Nat.le_refl _) (.int .i64 (ta : Int))).setCell (p := ⟨w.heap.size, 4, none⟩) (Nat.le_refl _) (.bool tl)).alloc (by simp [World.setCell]; omega) (.cells #[.int .i64 (tk : Int), .string ⟨tt.toArray⟩, .int .i64 (tn : Int), .int .i64 (ta : Int), .bool tl] 34)
    exact ⟨H.out.below hBB, Chg.below nv hBB⟩
/-- A reader's step: from a state to a state. -/
def Step (F : Nat → Prop) (base B dep : Nat) (nv : Value) (w : World) (st' : Ps.St) (w' : World) : Prop := ∃ nv', RS F base B dep st' nv' w' ∧ Chg B nv nv' w w'
theorem bytes_eq (s : ByteArray) (l : List UInt8) : (s.toList == l) = decide (s.data.toList = l) := by
  rw [ByteArray.toList_eq]
  by_cases h : s.data.toList = l <;> simp [h]
set_option maxRecDepth 100000 in
set_option maxHeartbeats 1000000 in
theorem take_any {F : Nat → Prop} {base B dep : Nat} {st : Ps.St} {nv : Value} {w : World} (h : RS F base B dep st nv w) (m : List UInt8) :
    Calls Tryz.prog 97 #[.pointer (some ⟨B, 0, none⟩), .string ⟨m.toArray⟩] w fun e w' => e = .returned (.bool (Ps.take m st).1) ∧ RS F base B dep (Ps.take m st).2 nv w' ∧ Chg B nv nv w w' := by
  have HM : Hid (_) := mark_any h
  have HS : Hid (∀ W, Below w.heap.size w W → Calls Tryz.prog 94 #[.pointer (some ⟨B, 0, none⟩)] W fun e w' => e = .returned (.agg (tkA (Ps.nxt st))) ∧ RS F base B dep (Ps.skip st).2 nv w' ∧ Chg B nv nv W w') := fun W hW => skip_any (h.below hW)
  have H : Hid (_) := h
  clear h
  generalize hm : Ps.mark st = mk at *
  by_cases hq : mk = m
  · have ht : Ps.take m st = (true, (Ps.skip st).2) := by unfold Ps.take; rw [hm, if_pos hq]
    rw [ht]
    subst hq
    clear ht hm
    generalize (Ps.skip st).2 = st' at *
    generalize Ps.nxt st = T at *
    go_enter Tryz.func97, Tryz.ntmps97
    go_wp2_with fail
    refine Calls.mono HM.out ?_
    rintro e w1 ⟨rfl, hb1⟩
    go_wp2_with fail
    refine Calls.mono (HS.out _ hb1) ?_
    rintro e w2 ⟨rfl, hr, hc⟩
    go_wp2_with fail
    go_ret
    exact ⟨rfl, hr, (Chg.below nv hb1).trans hc⟩
  · have ht : Ps.take m st = (false, st) := by unfold Ps.take; rw [hm, if_neg hq]
    rw [ht]
    have hne : (mk == m) = false := by simpa using hq
    clear ht hm HS
    go_enter Tryz.func97, Tryz.ntmps97
    go_wp2_with fail
    refine Calls.mono HM.out ?_
    rintro e w1 ⟨rfl, hb1⟩
    go_wp2_with fail
    go_ret
    exact ⟨rfl, H.out.below hb1, Chg.below nv hb1⟩
set_option maxRecDepth 100000 in
set_option maxHeartbeats 1000000 in
theorem closes_any {F : Nat → Prop} {base B dep : Nat} {st : Ps.St} {nv : Value} {w : World} (h : RS F base B dep st nv w) :
    Calls Tryz.prog 38 #[.pointer (some ⟨B, 0, none⟩)] w fun e w' => e = .returned (.bool (Ps.closes st)) ∧ Below w.heap.size w w' := by
  have HM : Hid (_) := mark_any h
  have HN : Hid (∀ W, Below w.heap.size w W → Calls Tryz.prog 22 #[.pointer (some ⟨B, 0, none⟩)] W fun e w' => e = .returned (.agg (tkA (Ps.nxt st))) ∧ Below W.heap.size W w') := fun W hW => next_any (h.below hW)
  have hc : Ps.closes st = (decide (Ps.mark st = [125]) || decide ((Ps.nxt st).k = 0)) := rfl
  rw [hc]
  clear hc h
  generalize Ps.mark st = mk at *
  generalize Ps.nxt st = T at *
  obtain ⟨tk, tt, tn, ta, tl, te⟩ := T
  simp only [tkA] at HN ⊢
  have hfl : ∀ (k : Int) (t : ByteArray) (n a : Int) (ln : Bool) (W : World), (Instr.field 34 (.agg #[.int .i64 k, .string t, .int .i64 n, .int .i64 a, .bool ln]) 0).run Tryz.prog W = .ok (.int .i64 k) W := fun k t n a ln W => by simp [Instr.field, go_sem, asAgg]
  by_cases h1 : mk = [125]
  · subst h1
    go_enter Tryz.func38, Tryz.ntmps38
    go_wp2_with fail
    refine Calls.mono HM.out ?_
    rintro e w1 ⟨rfl, hb1⟩
    go_wp2_with fail
    go_ret
    exact ⟨rfl, hb1⟩
  · have hne : (mk == [125]) = false := by simpa using h1
    by_cases h2 : tk = 0
    · subst h2
      go_enter Tryz.func38, Tryz.ntmps38
      go_wp2_with fail
      refine Calls.mono HM.out ?_
      rintro e w1 ⟨rfl, hb1⟩
      go_wp2_with fail
      refine Calls.mono (HN.out _ hb1) ?_
      rintro e w2 ⟨rfl, hb2⟩
      go_wp2_with fail
      go_ret
      exact ⟨by simp [h1], hb1.trans (hb2.mono hb1.size)⟩
    · have h2' : ((tk : Int) == 0) = false := by rw [beq_eq_false_iff_ne]; omega
      go_enter Tryz.func38, Tryz.ntmps38
      go_wp2_with fail
      refine Calls.mono HM.out ?_
      rintro e w1 ⟨rfl, hb1⟩
      go_wp2_with fail
      refine Calls.mono (HN.out _ hb1) ?_
      rintro e w2 ⟨rfl, hb2⟩
      go_wp2_with fail
      go_ret
      exact ⟨by simp [h1, h2], hb1.trans (hb2.mono hb1.size)⟩
end Go.Proofs.YtpjmapoiinjakaaGreatDoor.R
end
section
namespace Go.Proofs.YtpjmapoiinjakaaGreatDoor.R
open Go.RowKit
open L (TokAt tkA own_block own_below intOf cells5h cells5 info_of)
set_option linter.unusedVariables false
theorem infoND : (Tryz.prog.info? 43).map (fun i => (i.zero, i.size, i.bytes)) = some (some (.agg #[.int .i64 0, .int .i64 0, .string ⟨#[]⟩, .slice none 0 0, .slice none 0 0, .int .i64 0]), 6, 88) := by kernel_rfl
theorem ndCells_snoc (vs : List (Ps.Nd × Value × Value)) (x : Ps.Nd × Value × Value) : ndCells vs ++ (ndA x.1 x.2.1 x.2.2).toList = ndCells (vs ++ [x]) := by simp [ndCells]
/-- What an append of a node leaves. -/
structure Added (base : Nat) (w : World) (nv : Value) (vs : List (Ps.Nd × Value × Value)) (x : Ps.Nd × Value × Value) (v' : Value) (w' : World) : Prop where
  form : ∃ ad cap, v' = .slice ad (vs.length + 1) cap
  own : w'.ownsRow base 43 6 v' (vs ++ [x]).length (ndCells (vs ++ [x]))
  os : w'.os = w.os
  tape : w'.tape = w.tape
  output : w'.output = w.output
  size : w.heap.size ≤ w'.heap.size
  block : ∀ k, k < w.heap.size → nv.ownBlock ≠ some k → w'.heap[k]? = w.heap[k]?
  fresh : ∀ k, v'.ownBlock = some k → nv.ownBlock = some k ∨ w.heap.size ≤ k
set_option maxRecDepth 100000 in
theorem nd_more {base : Nat} {w W : World} {nv : Value} {vs : List (Ps.Nd × Value × Value)} (h : w.ownsRow base 43 6 nv vs.length (ndCells vs)) (hB : base ≤ w.heap.size) (hl : vs.length ≤ 1000000000) (x : Ps.Nd × Value × Value) (h1 : x.2.1.oneCell' = true) (h2 : x.2.2.oneCell' = true) (ty : TypeId)
    (hW : Below w.heap.size w W) (X : Nat) (hX : W.heap[X]? = some (.cells (ndA x.1 x.2.1 x.2.2) 43 (0, 0))) :
    ∃ v' w', (Builtin.append_ #[27, 27] ty #[nv, .slice (some ⟨X, 0, none⟩) 1 1]).run Tryz.prog W = .ok v' w' ∧ Added base w nv vs x v' w' := by
  obtain ⟨i0, hi, hz0, hz1, hz2⟩ := info_of infoND
  have hown := own_block h
  obtain ⟨v', w3, hr, ho, hg, _, hat⟩ := run_append_own_at (P := Tryz.prog) W base 27 ty 43 i0 _ 6 88 Tryz.underlying27 hi hz0 hz1 hz2 rfl (by decide) nv vs.length (ndCells vs) (own_below h hW) ⟨X, 0, none⟩ 1 1 (ndA x.1 x.2.1 x.2.2).toList rfl (by
      intro j u hj
      have hj6 : j < 6 := by
        rcases Nat.lt_or_ge j 6 with h | h
        · exact h
        · rw [List.getElem?_eq_none (by simpa using h)] at hj; cases hj
      have hc : W.cell? ⟨X, j, none⟩ = (ndA x.1 x.2.1 x.2.2)[j]? := by unfold World.cell?; rw [hX]; rfl
      rw [show (⟨X, 0, none⟩ : Addr).add j = ⟨X, j, none⟩ by unfold Addr.add; split <;> simp_all, hc]
      simpa using hj) (by intro u hu; simp at hu; rcases hu with rfl | rfl | rfl | rfl | rfl | rfl <;> first | exact h1 | exact h2 | rfl) (by unfold maxLen; omega) (by omega) (Nat.le_trans hB hW.size)
  obtain ⟨a, cap, rfl⟩ : ∃ a cap, v' = .slice a (vs.length + 1) cap := by
    rcases ho.2 with ⟨_, e⟩ | ⟨g, cap, cur, e, _⟩
    · omega
    · exact ⟨_, _, e⟩
  rw [ndCells_snoc] at ho
  refine ⟨_, w3, hr, ⟨a, cap, rfl⟩, by simpa using ho, hg.os.trans hW.os, hg.tape.trans hW.tape, hg.output.trans hW.output, Nat.le_trans hW.size hg.size, fun k hk hn => (hg.block k (Nat.lt_of_lt_of_le hk hW.size) (fun e => hn e.symm)).trans (hW.block k hk), fun k hk => ?_⟩
  rcases hat with e | e
  · exact .inl (e ▸ hk)
  · rw [e] at hk
    have := hW.size
    exact .inr (by simp at hk; omega)
/-- An append whose run is known, as one step of a region that draws. -/
theorem step_append_ex {P : Program} {ops : Array Oper} {o : Oper} {a : Act} {w : World} {K : Act → World → Prop} {Q : Exit → Act → World → Prop} {E : Prop} (hgd : o.guard = none) (s x : Operand) (t : TypeId)
    (ho : o.op = .call { callee := .builtin .append, args := #[s, x], argTypes := #[t, t] }) (v y : Value) (hs : a.eval s = v) (hx : a.eval x = y) (R : Value → World → Prop)
    (hr : ∃ v' w', (Builtin.append_ #[t, t] o.type #[v, y]).run P w = .ok v' w' ∧ R v' w') (h : ∀ v' w', R v' w' → K (a.put o.dst v') w') :
    if Region.wanted o (yielded ops a.tmps) = true then Oper.wp P o a w K Q else E := by
  have hw : Region.wanted o (yielded ops a.tmps) = true := by simp [Region.wanted, hgd]
  rw [if_pos hw]
  obtain ⟨v', w', h1, h2⟩ := hr
  unfold Oper.wp execOp
  simp only [ho, resolve, invoke, builtin, Sem.run_bind, Sem.run_pure, Result.andThen_ok, List.map_toArray, List.map_cons, List.map_nil, hs, hx, h1]
  exact h v' w' h2
theorem Added.drew {base : Nat} {w w' : World} {nv v' : Value} {vs : List (Ps.Nd × Value × Value)} {x : Ps.Nd × Value × Value} (h : Added base w nv vs x v' w') : Added base w nv vs x v' w'.drew :=
  ⟨h.form, own_below h.own (Below.refl _ _).drew, h.os, h.tape, h.output, h.size, h.block, h.fresh⟩
theorem set1 {w : World} {b : Nat} {x0 x1 x2 x3 x4 : Value} {t : TypeId} (h : w.heap[b]? = some (.cells #[x0, x1, x2, x3, x4] t (0, 0))) (y : Value) : (w.setCell ⟨b, 1, none⟩ y).heap[b]? = some (.cells #[x0, y, x2, x3, x4] t (0, 0)) := by
  simp [World.setCell, Array.getElem?_modify, h]
/-- The reader with a node more. -/
theorem RS.added {F : Nat → Prop} {base B dep : Nat} {st : Ps.St} {nv v' : Value} {w w' : World} {vs : List (Ps.Nd × Value × Value)} {n : Ps.Nd} {nm kd : Value} (h : RS F base B dep st nv w) (e : vs.map (·.1) = st.nodes) (hvs : ∀ x ∈ vs, NdIn F w B nv x.1 x.2.1 x.2.2)
    (hA : Added base w nv vs (n, nm, kd) v' w') (hx : NdIn F w B nv n nm kd) :
    RS F base B dep (Ps.add n st).2 v' (w'.setCell ⟨B, 1, none⟩ v') ∧ Chg B nv v' w (w'.setCell ⟨B, 1, none⟩ v') := by
  have c0 : Chg B nv v' w w' := ⟨hA.os, hA.tape, hA.output, hA.size, fun k h1 _ h3 => hA.block k h1 h3, hA.fresh⟩
  have c := c0.setBB 1 v'
  have hB := h.lt
  obtain ⟨tv, h1, h2, h3⟩ := h.rd
  have hnB : v'.ownBlock ≠ some B := fun e => by
    rcases hA.fresh B e with e | e
    · exact h.own e
    · omega
  have htl : ∀ k, blockOf tv = some k → k < w.heap.size := fun k hk => by
    obtain ⟨g, off, cap, rfl, _, _, hg, _⟩ := h2
    have : g = k := by simpa [blockOf] using hk
    omega
  refine ⟨⟨h.hB, h.few, h.last, ⟨tv, set1 ((hA.block B hB h.own).trans h1) v', h2.go h3 c, h3.go htl c⟩, ⟨vs ++ [(n, nm, kd)], ?_, own_keep hA.own (fun k hk => Below.heap_setCell _ _ _ _ (by show k ≠ B; intro e; subst e; exact hnB hk)), fun x hm => ?_⟩, hnB, fun k hk => ⟨Nat.lt_of_lt_of_le (h.far k hk).1 c.size, (h.far k hk).2.1, fun e => by
    rcases hA.fresh k e with e | e
    · exact (h.far k hk).2.2 e
    · have := (h.far k hk).1; omega⟩⟩, c⟩
  · rw [List.map_append, e]; rfl
  · rcases List.mem_append.1 hm with hm | hm
    · exact (hvs x hm).go c
    · rw [List.mem_singleton] at hm
      subst hm
      exact hx.go c
/-- What the walk is told behind the append. -/
def AddR (base B : Nat) (w : World) (nv : Value) (vs : List (Ps.Nd × Value × Value)) (x : Ps.Nd × Value × Value) (v' : Value) (w' : World) : Prop :=
  ∃ ad cap, v' = .slice ad (vs.length + 1) cap ∧ Hid (Added base w nv vs x (.slice ad (vs.length + 1) cap) w') ∧ w'.cell? ⟨B, 1, none⟩ = some nv ∧ w'.frozen? ⟨B, 1, none⟩ = false ∧ B < w'.heap.size
theorem heap_alloc_new (w : World) (V : Array Value) (t : TypeId) : (w.alloc (.cells V t)).heap[w.heap.size]? = some (.cells V t (0, 0)) := Array.getElem?_push_size
theorem alloc_drew_new (w : World) (V : Array Value) (t : TypeId) : (w.alloc (.cells V t)).drew.heap[w.heap.size]? = some (.cells V t (0, 0)) := Array.getElem?_push_size
theorem alloc2_new (w : World) (o : Obj) (V : Array Value) (t : TypeId) : ((w.alloc o).alloc (.cells V t)).heap[w.heap.size + 1]? = some (.cells V t (0, 0)) := by
  rw [← alloc_size' w o]; exact Array.getElem?_push_size
set_option maxRecDepth 100000 in
set_option maxHeartbeats 2000000 in
theorem add_any {F : Nat → Prop} {base B dep : Nat} {st : Ps.St} {nv : Value} {w : World} (h : RS F base B dep st nv w) (hbw : base ≤ w.heap.size) (hlen : st.nodes.length ≤ 1000000000) (n : Ps.Nd) (nm kd : Value) (hx : NdIn F w B nv n nm kd) (h1 : nm.oneCell' = true) (h2 : kd.oneCell' = true) :
    Calls Tryz.prog 24 #[.pointer (some ⟨B, 0, none⟩), .agg (ndA n nm kd)] w fun e w' => e = .returned (.int .i64 (st.nodes.length : Int)) ∧ ∃ nv', RS F base B dep (Ps.add n st).2 nv' w' ∧ Chg B nv nv' w w' := by
  obtain ⟨tv, e1, -, -⟩ := h.rd
  obtain ⟨vs, e, ho, hvs⟩ := h.nd
  have hvl : vs.length = st.nodes.length := by rw [← e, List.length_map]
  obtain ⟨q0, q1, q2, q3, q4, f0, f1, f2, f3, f4, hlt⟩ := cells5h e1
  have HP : Hid (∀ W X, Below w.heap.size w W → W.heap[X]? = some (.cells #[.int .i64 (n.k : Int), .int .i64 (n.n : Int), .string ⟨n.t.toArray⟩, nm, kd, .int .i64 (n.a : Int)] 43 (0, 0)) → ∀ ty, ∃ v' w', (Builtin.append_ #[27, 27] ty #[nv, .slice (some ⟨X, 0, none⟩) 1 1]).run Tryz.prog W = .ok v' w' ∧ AddR base B w nv vs (n, nm, kd) v' w') := fun W X hW hX ty => by
    obtain ⟨v', w', hr, hA⟩ := nd_more ho hbw (by omega) (n, nm, kd) h1 h2 ty hW X hX
    obtain ⟨ad, cap, rfl⟩ := hA.form
    obtain ⟨p0, p1, p2, p3, p4, g0, g1, g2, g3, g4, hl⟩ := cells5h ((hA.block B hlt h.own).trans e1)
    exact ⟨_, w', hr, ad, cap, rfl, hA, p1, g1, hl⟩
  have HM : Hid (∀ v' w', Added base w nv vs (n, nm, kd) v' w' → RS F base B dep (Ps.add n st).2 v' (w'.setCell ⟨B, 1, none⟩ v') ∧ Chg B nv v' w (w'.setCell ⟨B, 1, none⟩ v')) := fun v' w' hA => h.added e hvs hA hx
  have HL : Hid (st.nodes.length = vs.length) := hvl.symm
  have hm : ((vs.length : Int) + 1 - 1) = vs.length := by omega
  have hvb : (vs.length : Int) ≤ 1000000000 := by omega
  clear h e e1 hvs ho hx hvl hlen
  obtain ⟨nk, nn, nt, nms, nks, na⟩ := n
  simp only at HP ⊢
  go_enter Tryz.func24, Tryz.ntmps24
  go_wp2_with fail
  go_region_law ((refine step_append_ex (by rfl) _ _ 27 (by rfl) _ _ (by rfl) (by rfl) (AddR base B w nv vs (⟨nk, nn, nt, nms, nks, na⟩, nm, kd)) (HP.out _ _ (by repeat (first | with_reducible exact Below.refl _ _ | (with_reducible refine Below.drew ?_) | (with_reducible refine Below.alloc ?_ (by first | exact Nat.le_refl _ | (simp; omega) | simp) _))) (by first | exact heap_alloc_new _ _ _ | exact alloc_drew_new _ _ _ | exact alloc2_new _ _ _ _) _) ?_; rintro v' w7 ⟨a7, cap7, rfl, HA7, hc7, hf7, hl7⟩))
  all_goals
    go_wp2_with fail
    go_ret
    exact ⟨congrArg (fun x : Nat => Ending.returned (Value.int .i64 (x : Int))) HL.out.symm, _, by first | exact HM.out _ _ HA7.out | exact HM.out _ _ HA7.out.drew⟩
end Go.Proofs.YtpjmapoiinjakaaGreatDoor.R
end
section
namespace Go.Proofs.YtpjmapoiinjakaaGreatDoor.R
open Go.RowKit
open L (TokAt tkA own_block own_below intOf cells5h cells5 info_of)
set_option linter.unusedVariables false
abbrev nil0 : Value := .slice none 0 0
theorem NdIn.zero {F : Nat → Prop} (W : World) (B : Nat) (nv : Value) (k n : Nat) (t : List UInt8) (a : Nat) : NdIn F W B nv { k := k, n := n, t := t, a := a } nil0 nil0 :=
  ⟨⟨none, 0, rfl, Nat.le_refl _, .inl rfl⟩, ⟨none, 0, rfl, Nat.le_refl _, .inl rfl⟩, (fun _ h => nomatch h), (fun _ h => nomatch h), (fun _ h => nomatch h), (fun _ h => nomatch h)⟩
theorem set3 {w : World} {b : Nat} {x0 x1 x2 x3 x4 : Value} {t : TypeId} (h : w.heap[b]? = some (.cells #[x0, x1, x2, x3, x4] t (0, 0))) (y : Value) : (w.setCell ⟨b, 3, none⟩ y).heap[b]? = some (.cells #[x0, x1, x2, y, x4] t (0, 0)) := by
  simp [World.setCell, Array.getElem?_modify, h]
theorem set4 {w : World} {b : Nat} {x0 x1 x2 x3 x4 : Value} {t : TypeId} (h : w.heap[b]? = some (.cells #[x0, x1, x2, x3, x4] t (0, 0))) (y : Value) : (w.setCell ⟨b, 4, none⟩ y).heap[b]? = some (.cells #[x0, x1, x2, x3, y] t (0, 0)) := by
  simp [World.setCell, Array.getElem?_modify, h]
theorem set2 {w : World} {b : Nat} {x0 x1 x2 x3 x4 : Value} {t : TypeId} (h : w.heap[b]? = some (.cells #[x0, x1, x2, x3, x4] t (0, 0))) (y : Value) : (w.setCell ⟨b, 2, none⟩ y).heap[b]? = some (.cells #[x0, x1, y, x3, x4] t (0, 0)) := by
  simp [World.setCell, Array.getElem?_modify, h]
theorem RS.hbw {F : Nat → Prop} {base B dep : Nat} {st : Ps.St} {nv : Value} {W : World} (h : RS F base B dep st nv W) : base ≤ W.heap.size := by have := h.lt; have := h.hB; omega
theorem run_field3 (k : Int) (t : ByteArray) (n a : Int) (ln : Bool) (W : World) : (Instr.field 34 (.agg #[.int .i64 k, .string t, .int .i64 n, .int .i64 a, .bool ln]) 3).run Tryz.prog W = .ok (.int .i64 a) W := by
  simp [Instr.field, go_sem, asAgg]
/-- Where the reader stands once it has failed. -/
def failed (st : Ps.St) : Ps.St := if st.failed then st else { st with failed := true, at_ := (Ps.nxt st).a, toks := [Ps.bad] }
set_option maxRecDepth 100000 in
set_option maxHeartbeats 2000000 in
theorem fail_any {F : Nat → Prop} {base B dep : Nat} {st : Ps.St} {nv : Value} {w : World} (h : RS F base B dep st nv w) (hlen : st.nodes.length ≤ 1000000000) :
    Calls Tryz.prog 23 #[.pointer (some ⟨B, 0, none⟩)] w fun e w' => e = .returned (.int .i64 (st.nodes.length : Int)) ∧ ∃ nv', RS F base B dep (Ps.fail st).2 nv' w' ∧ Chg B nv nv' w w' := by
  obtain ⟨tv, e1, -, -⟩ := h.rd
  obtain ⟨q0, q1, q2, q3, q4, f0, f1, f2, f3, f4, hlt⟩ := cells5h e1
  have HADD : Hid (∀ (st' : Ps.St) W, RS F base B dep st' nv W → st'.nodes.length ≤ 1000000000 → Calls Tryz.prog 24 #[.pointer (some ⟨B, 0, none⟩), .agg #[.int .i64 0, .int .i64 0, .string ⟨#[]⟩, .slice none 0 0, .slice none 0 0, .int .i64 0]] W fun e w' => e = .returned (.int .i64 (st'.nodes.length : Int)) ∧ ∃ nv', RS F base B dep (Ps.add {} st').2 nv' w' ∧ Chg B nv nv' W w') := fun st' W hW hl => add_any hW hW.hbw hl {} nil0 nil0 (NdIn.zero _ _ _ _ _ _ _) rfl rfl
  have hfst : (Ps.fail st).2 = (Ps.add {} (failed st)).2 := rfl
  rw [hfst]
  by_cases hf : st.failed = true
  · have hfs : failed st = st := by unfold failed; rw [if_pos hf]
    rw [hfs]
    rw [hf] at q3
    have HH : Hid (_) := HADD.out st w h hlen
    clear HADD h hfs hfst hlen
    go_enter Tryz.func23, Tryz.ntmps23
    go_wp2_with fail
    refine Calls.mono HH.out ?_
    rintro e w1 ⟨rfl, hr⟩
    go_wp2_with fail
    go_ret
    exact ⟨rfl, hr⟩
  · have hf' : st.failed = false := by simpa using hf
    have hfs : failed st = { st with failed := true, at_ := (Ps.nxt st).a, toks := [Ps.bad] } := by unfold failed; rw [if_neg hf]
    rw [hfs]
    rw [hf'] at q3
    have HN : Hid (_) := next_any h
    have H : Hid (_) := h
    have HE1 : Hid (w.heap[B]? = _) := e1
    have HLN : Hid (st.nodes.length ≤ 1000000000) := hlen
    have hfl := run_field3
    clear hfst h hfs hf e1 hlen
    generalize Ps.nxt st = T at *
    obtain ⟨tk, tt, tn, ta, tl, te⟩ := T
    simp only [tkA] at HN ⊢
    go_enter Tryz.func23, Tryz.ntmps23
    go_wp2_with fail
    refine Calls.mono HN.out ?_
    rintro e w1 ⟨rfl, hb1⟩
    have hE1 := (hb1.block B hlt).trans HE1.out
    obtain ⟨p0, p1, p2, p3, p4, g0, g1, g2, g3, g4, hlt1⟩ := cells5h hE1
    have HB1 : Hid (_) := hb1
    have HE2 : Hid (w1.heap[B]? = _) := hE1
    clear hE1 hb1 HN
    go_wp2_with fail
    have cc : ChgB B w ((((w1.setCell ⟨B, 3, none⟩ (.bool true)).setCell ⟨B, 4, none⟩ (.int .i64 (ta : Int))).setCell ⟨B, 0, none⟩ (.slice (some ⟨w1.heap.size, 0, none⟩) 1 1)).alloc (.cells #[.int .i64 6, .string ⟨#[]⟩, .int .i64 0, .int .i64 0, .bool false] 34)) :=
      ((((Chg.below _ HB1.out).setBB 3 _).setBB 4 _).setBB 0 _).alloc _
    have hsz : ((((w1.setCell ⟨B, 3, none⟩ (.bool true)).setCell ⟨B, 4, none⟩ (.int .i64 (ta : Int))).setCell ⟨B, 0, none⟩ (.slice (some ⟨w1.heap.size, 0, none⟩) 1 1))).heap.size = w1.heap.size := by simp [World.setCell]
    have hnew := heap_alloc_new ((((w1.setCell ⟨B, 3, none⟩ (.bool true)).setCell ⟨B, 4, none⟩ (.int .i64 (ta : Int))).setCell ⟨B, 0, none⟩ (.slice (some ⟨w1.heap.size, 0, none⟩) 1 1))) #[.int .i64 6, .string ⟨#[]⟩, .int .i64 0, .int .i64 0, .bool false] 34
    rw [hsz] at hnew
    obtain ⟨u0, u1, u2, u3, u4, -, -, -, -, -, hlu⟩ := cells5h hnew
    have hr1 := H.out.turn (dep' := dep) (st' := { st with failed := true, at_ := ta, toks := [Ps.bad] }) cc rfl (by show (1 : Nat) ≤ _; omega) (fun T hT => by
        have : T = Ps.bad := by simpa using hT.symm
        subst this; exact .inr rfl) (.slice (some ⟨w1.heap.size, 0, none⟩) 1 1)
      (by
        rw [Below.heap_alloc _ _ _ (by rw [hsz]; exact hlt1)]
        exact set0 (set4 (set3 HE2.out _) _) _)
      ⟨w1.heap.size, 0, 1, rfl, Nat.le_refl _, by omega, hlu, Nat.le_refl _, fun j hj => by
        have hj0 : j = 0 := by simpa using hj
        subst hj0
        exact ⟨u0, u1, u2, u3, u4⟩⟩
      (fun k hk => by
        have hk' : w1.heap.size = k := by simpa [blockOf] using hk
        subst hk'
        refine ⟨by omega, fun e => ?_, fun hF => by have := (H.out.far _ hF).1; have := HB1.out.size; omega⟩
        obtain ⟨vs, _, ho, _⟩ := H.out.nd
        have := (own_block ho _ e).2
        have := HB1.out.size
        omega)
    have HH : Hid (_) := HADD.out _ _ hr1 HLN.out
    have HC : Hid (_) := cc.chg nv
    clear cc hsz hnew u0 u1 u2 u3 u4 hlu hr1 HADD
    refine Calls.mono HH.out ?_
    rintro e w2 ⟨rfl, nv', hr, hc⟩
    go_wp2_with fail
    go_ret
    exact ⟨rfl, nv', hr, HC.out.trans hc⟩
theorem skip_nodes (st : Ps.St) : (Ps.skip st).2.nodes = st.nodes := by unfold Ps.skip; simp only []; split <;> rfl
theorem take_nodes (m : List UInt8) (st : Ps.St) : (Ps.take m st).2.nodes = st.nodes := by
  unfold Ps.take
  split
  · exact skip_nodes st
  · rfl
theorem want_eq (m : List UInt8) (st : Ps.St) : (Ps.want m st).2 = if (Ps.take m st).1 = true then (Ps.take m st).2 else (Ps.fail (Ps.take m st).2).2 := by
  unfold Ps.want
  rcases Ps.take m st with ⟨b, s⟩
  cases b <;> rfl
/-- A call that leaves the reader in another state, and tells nothing. -/
def Leaves (F : Nat → Prop) (base B dep : Nat) (nv : Value) (w : World) (st' : Ps.St) (w' : World) : Prop := ∃ nv', RS F base B dep st' nv' w' ∧ Chg B nv nv' w w'
set_option maxRecDepth 100000 in
set_option maxHeartbeats 2000000 in
theorem want_any {F : Nat → Prop} {base B dep : Nat} {st : Ps.St} {nv : Value} {w : World} (h : RS F base B dep st nv w) (hlen : st.nodes.length ≤ 1000000000) (m : List UInt8) :
    Calls Tryz.prog 100 #[.pointer (some ⟨B, 0, none⟩), .string ⟨m.toArray⟩] w fun e w' => e = .returned (.tuple #[]) ∧ Leaves F base B dep nv w (Ps.want m st).2 w' := by
  have HT : Hid (_) := take_any h m
  have HF : Hid (∀ W, RS F base B dep (Ps.take m st).2 nv W → Calls Tryz.prog 23 #[.pointer (some ⟨B, 0, none⟩)] W fun e w' => e = .returned (.int .i64 ((Ps.take m st).2.nodes.length : Int)) ∧ ∃ nv', RS F base B dep (Ps.fail (Ps.take m st).2).2 nv' w' ∧ Chg B nv nv' W w') := fun W hW => fail_any hW (by rw [take_nodes]; exact hlen)
  rw [want_eq]
  clear h hlen
  generalize Ps.take m st = R at *
  obtain ⟨b, st'⟩ := R
  simp only at HT HF ⊢
  cases b
  · rw [if_neg (by simp)]
    go_enter Tryz.func100, Tryz.ntmps100
    go_wp2_with fail
    refine Calls.mono HT.out ?_
    rintro e w1 ⟨rfl, hr, hc⟩
    go_wp2_with fail
    refine Calls.mono (HF.out _ hr) ?_
    rintro e w2 ⟨rfl, nv', hr2, hc2⟩
    go_wp2_with fail
    go_end0
    exact ⟨rfl, nv', hr2, hc.trans hc2⟩
  · rw [if_pos rfl]
    go_enter Tryz.func100, Tryz.ntmps100
    go_wp2_with fail
    refine Calls.mono HT.out ?_
    rintro e w1 ⟨rfl, hr, hc⟩
    go_wp2_with fail
    go_end0
    exact ⟨rfl, nv, hr, hc⟩
end Go.Proofs.YtpjmapoiinjakaaGreatDoor.R
end
section
namespace Go.Proofs.YtpjmapoiinjakaaGreatDoor.R
open Go.RowKit
open L (TokAt tkA own_block own_below intOf cells5h cells5 info_of)
set_option linter.unusedVariables false
theorem TokIn.same {W W' : World} {v : Value} {l : List Lx.Tk} (h : TokIn W v l) (hs : W.heap.size ≤ W'.heap.size) (hb : ∀ k, blockOf v = some k → k < W.heap.size → W'.heap[k]? = W.heap[k]?) : TokIn W' v l := by
  obtain ⟨g, off, cap, rfl, h1, h2, h3, h4, h5⟩ := h
  have hb' := hb g rfl h3
  refine ⟨g, off, cap, rfl, h1, h2, Nat.lt_of_lt_of_le h3 hs, h4, fun j hj => ?_⟩
  obtain ⟨c0, c1, c2, c3, c4⟩ := h5 j hj
  exact ⟨(cell_of_block hb' _).trans c0, (cell_of_block hb' _).trans c1, (cell_of_block hb' _).trans c2, (cell_of_block hb' _).trans c3, (cell_of_block hb' _).trans c4⟩
theorem KidsIn.same {W W' : World} {v : Value} {l : List Nat} (h : KidsIn W v l) (hs : W.heap.size ≤ W'.heap.size) (hb : ∀ k, blockOf v = some k → k < W.heap.size → W'.heap[k]? = W.heap[k]?) : KidsIn W' v l := by
  obtain ⟨ad, cap, rfl, hc, h⟩ := h
  refine ⟨ad, cap, rfl, hc, ?_⟩
  rcases h with h | ⟨g, rfl, h1, h2⟩
  · exact .inl h
  · exact .inr ⟨g, rfl, Nat.lt_of_lt_of_le h1 hs, fun j hj => (cell_of_block (hb g rfl h1) j).trans (h2 j hj)⟩
theorem NamesIn.same {W W' : World} {v : Value} {l : List (List UInt8)} (h : NamesIn W v l) (hs : W.heap.size ≤ W'.heap.size) (hb : ∀ k, blockOf v = some k → k < W.heap.size → W'.heap[k]? = W.heap[k]?) : NamesIn W' v l := by
  obtain ⟨ad, cap, rfl, hc, h⟩ := h
  refine ⟨ad, cap, rfl, hc, ?_⟩
  rcases h with h | ⟨g, rfl, h1, h2⟩
  · exact .inl h
  · exact .inr ⟨g, rfl, Nat.lt_of_lt_of_le h1 hs, fun j hj => (cell_of_block (hb g rfl h1) j).trans (h2 j hj)⟩
/-- A store into another one's block keeps the reader. -/
theorem RS.foreign {F : Nat → Prop} {base B dep : Nat} {st : Ps.St} {nv : Value} {W : World} (h : RS F base B dep st nv W) {X : Nat} (hX : F X) (i : Nat) (u : Value) : RS F base B dep st nv (W.setCell ⟨X, i, none⟩ u) := by
  have hs : (W.setCell ⟨X, i, none⟩ u).heap.size = W.heap.size := by simp [World.setCell]
  have hk : ∀ k, k ≠ X → (W.setCell ⟨X, i, none⟩ u).heap[k]? = W.heap[k]? := fun k hk => Below.heap_setCell W ⟨X, i, none⟩ u k hk
  have hap : ∀ v, Apart F B nv v → ∀ k, blockOf v = some k → k < W.heap.size → (W.setCell ⟨X, i, none⟩ u).heap[k]? = W.heap[k]? := fun v ha k e _ => hk k (fun e2 => (ha k e).2.2 (e2 ▸ hX))
  obtain ⟨tv, h1, h2, h3⟩ := h.rd
  obtain ⟨vs, e, ho, hn⟩ := h.nd
  have hf := h.far X hX
  refine ⟨h.hB, h.few, h.last, ⟨tv, (hk B (fun e => hf.2.1 e.symm)).trans h1, h2.same (by rw [hs]; exact Nat.le_refl _) (hap tv h3), h3⟩, ⟨vs, e, own_keep ho (fun k hk2 => hk k (fun e => hf.2.2 (e ▸ hk2))), fun x hx => ?_⟩, h.own, fun k hk2 => by rw [hs]; exact h.far k hk2⟩
  have hx' := hn x hx
  exact ⟨hx'.names.same (by rw [hs]; exact Nat.le_refl _) (hap _ hx'.anm), hx'.kids.same (by rw [hs]; exact Nat.le_refl _) (hap _ hx'.akd), hx'.anm, hx'.akd, fun k hk2 => by rw [hs]; exact hx'.lnm k hk2, fun k hk2 => by rw [hs]; exact hx'.lkd k hk2⟩
/-- A new block is another one's. -/
theorem RS.more {F : Nat → Prop} {base B dep : Nat} {st : Ps.St} {nv : Value} {W : World} (h : RS F base B dep st nv W) (o : Obj) : RS (fun k => F k ∨ k = W.heap.size) base B dep st nv (W.alloc o) := by
  have hb : Below W.heap.size W (W.alloc o) := (Below.refl _ _).alloc (Nat.le_refl _) _
  have h' := h.below hb
  have hlB := h.lt
  obtain ⟨tv, h1, h2, h3⟩ := h'.rd
  obtain ⟨vs, e, ho, hn⟩ := h'.nd
  obtain ⟨tv0, g1, g2, g3⟩ := h.rd
  obtain ⟨vs0, e0, ho0, hn0⟩ := h.nd
  have c := Chg.below (B := B) nv hb
  have htl : ∀ k, blockOf tv0 = some k → k < W.heap.size := fun k hk => by
    obtain ⟨g, off, cap, rfl, _, _, hg, _⟩ := g2
    have : g = k := by simpa [blockOf] using hk
    omega
  refine ⟨h.hB, h.few, h.last, ⟨tv0, (hb.block B hlB).trans g1, g2.go g3 c, fun k hk => ⟨(g3 k hk).1, (g3 k hk).2.1, fun hF => by
    rcases hF with hF | hF
    · exact (g3 k hk).2.2 hF
    · have := htl k hk; omega⟩⟩, ⟨vs0, e0, own_below ho0 hb, fun x hx => ?_⟩, h.own, fun k hk => ?_⟩
  · have hx' := (hn0 x hx).go c
    have hx0 := hn0 x hx
    exact ⟨hx'.names, hx'.kids, fun k hk => ⟨(hx0.anm k hk).1, (hx0.anm k hk).2.1, fun hF => by
      rcases hF with hF | hF
      · exact (hx0.anm k hk).2.2 hF
      · have := hx0.lnm k hk; omega⟩, fun k hk => ⟨(hx0.akd k hk).1, (hx0.akd k hk).2.1, fun hF => by
      rcases hF with hF | hF
      · exact (hx0.akd k hk).2.2 hF
      · have := hx0.lkd k hk; omega⟩, hx'.lnm, hx'.lkd⟩
  · rw [alloc_size']
    rcases hk with hk | rfl
    · have := h.far k hk; exact ⟨by omega, this.2⟩
    · exact ⟨by omega, by omega, fun e => by have := (own_block ho0 _ e).2; omega⟩
/-- Fewer blocks are other ones'. -/
theorem RS.less {F F' : Nat → Prop} {base B dep : Nat} {st : Ps.St} {nv : Value} {W : World} (h : RS F base B dep st nv W) (hF : ∀ k, F' k → F k) : RS F' base B dep st nv W := by
  obtain ⟨tv, h1, h2, h3⟩ := h.rd
  obtain ⟨vs, e, ho, hn⟩ := h.nd
  exact ⟨h.hB, h.few, h.last, ⟨tv, h1, h2, fun k hk => ⟨(h3 k hk).1, (h3 k hk).2.1, fun h => (h3 k hk).2.2 (hF k h)⟩⟩, ⟨vs, e, ho, fun x hx => ⟨(hn x hx).names, (hn x hx).kids, fun k hk => ⟨((hn x hx).anm k hk).1, ((hn x hx).anm k hk).2.1, fun h => ((hn x hx).anm k hk).2.2 (hF k h)⟩, fun k hk => ⟨((hn x hx).akd k hk).1, ((hn x hx).akd k hk).2.1, fun h => ((hn x hx).akd k hk).2.2 (hF k h)⟩, (hn x hx).lnm, (hn x hx).lkd⟩⟩, h.own, fun k hk => h.far k (hF k hk)⟩
set_option maxRecDepth 100000 in
set_option maxHeartbeats 2000000 in
theorem leaf_any {F : Nat → Prop} {base B dep : Nat} {st : Ps.St} {nv : Value} {w : World} (h : RS F base B dep st nv w) (hlen : st.nodes.length ≤ 1000000000) (k n : Nat) (t : List UInt8) :
    Calls Tryz.prog 131 #[.pointer (some ⟨B, 0, none⟩), .agg #[.int .i64 (k : Int), .int .i64 (n : Int), .string ⟨t.toArray⟩, .slice none 0 0, .slice none 0 0, .int .i64 0]] w fun e w' => e = .returned (.int .i64 (st.nodes.length : Int)) ∧ Leaves F base B dep nv w (Ps.leaf { k := k, n := n, t := t } st).2 w' := by
  have HS : Hid (∀ o, Calls Tryz.prog 94 #[.pointer (some ⟨B, 0, none⟩)] (w.alloc o) fun e w' => e = .returned (.agg (tkA (Ps.nxt st))) ∧ RS (fun k => F k ∨ k = w.heap.size) base B dep (Ps.skip st).2 nv w' ∧ Chg B nv nv (w.alloc o) w') := fun o => skip_any (h.more o)
  have HADD : Hid (∀ (a : Nat) W, RS (fun k => F k ∨ k = w.heap.size) base B dep (Ps.skip st).2 nv W → Calls Tryz.prog 24 #[.pointer (some ⟨B, 0, none⟩), .agg #[.int .i64 (k : Int), .int .i64 (n : Int), .string ⟨t.toArray⟩, .slice none 0 0, .slice none 0 0, .int .i64 (a : Int)]] W fun e w' => e = .returned (.int .i64 (st.nodes.length : Int)) ∧ ∃ nv', RS F base B dep (Ps.add { k := k, n := n, t := t, a := a } (Ps.skip st).2).2 nv' w' ∧ Chg B nv nv' W w') := fun a W hW => by
    have := add_any hW hW.hbw (by rw [skip_nodes]; exact hlen) { k := k, n := n, t := t, a := a } nil0 nil0 (NdIn.zero _ _ _ _ _ _ _) rfl rfl
    rw [skip_nodes] at this
    refine this.mono ?_
    rintro e w' ⟨rfl, nv', hr, hc⟩
    exact ⟨rfl, nv', hr.less (fun k hk => .inl hk), hc⟩
  have hl : (Ps.leaf { k := k, n := n, t := t } st).2 = (Ps.add { k := k, n := n, t := t, a := (Ps.nxt st).a } (Ps.skip st).2).2 := rfl
  rw [hl]
  have HLB : Hid (B < w.heap.size ∧ nv.ownBlock ≠ some w.heap.size) := ⟨h.lt, fun e => by
    obtain ⟨vs, _, ho, _⟩ := h.nd
    have := (own_block ho _ e).2; omega⟩
  have hfl := run_field3
  clear h hl hlen
  generalize Ps.nxt st = T at *
  obtain ⟨tk, tt, tn, ta, tl, te⟩ := T
  simp only [tkA] at HS ⊢
  generalize (Ps.skip st).2 = st1 at *
  go_enter Tryz.func131, Tryz.ntmps131
  go_wp2_with fail
  refine Calls.mono (HS.out _) ?_
  rintro e w1 ⟨rfl, hr, hc⟩
  have hX := (hc.block w.heap.size (by simp) (by have := HLB.out.1; omega) HLB.out.2).trans (heap_alloc_new _ _ _)
  have hlX : w.heap.size < w1.heap.size := by have := hc.size; simp at this; omega
  obtain ⟨p0, p1, p2, p3, p4, p5⟩ : w1.cell? ⟨w.heap.size, 0, none⟩ = some (.int .i64 (k : Int)) ∧ w1.cell? ⟨w.heap.size, 1, none⟩ = some (.int .i64 (n : Int)) ∧ w1.cell? ⟨w.heap.size, 2, none⟩ = some (.string ⟨t.toArray⟩) ∧ w1.cell? ⟨w.heap.size, 3, none⟩ = some (.slice none 0 0) ∧ w1.cell? ⟨w.heap.size, 4, none⟩ = some (.slice none 0 0) ∧ w1.cell? ⟨w.heap.size, 5, none⟩ = some (.int .i64 0) := by
    refine ⟨?_, ?_, ?_, ?_, ?_, ?_⟩ <;> simp [World.cell?, hX]
  have hfz : w1.frozen? ⟨w.heap.size, 5, none⟩ = false := by simp [World.frozen?, hX]
  have HR : Hid (_) := hr
  have HC : Hid (Chg B nv nv _ w1) := (Chg.below (B := B) nv ((Below.refl w.heap.size w).alloc (Nat.le_refl _) _)).trans hc
  clear hr hc HS hX
  go_wp2_with fail
  refine Calls.mono (HADD.out ta _ (HR.out.foreign (.inr rfl) 5 _)) ?_
  rintro e w2 ⟨rfl, nv', hr2, hc2⟩
  go_wp2_with fail
  go_ret
  exact ⟨rfl, nv', hr2, (HC.out.setX (Nat.le_refl _) 5 _).trans hc2⟩
end Go.Proofs.YtpjmapoiinjakaaGreatDoor.R
end
