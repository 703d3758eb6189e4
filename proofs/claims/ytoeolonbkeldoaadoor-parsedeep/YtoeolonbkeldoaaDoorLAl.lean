/- lex.All by its contract: all tokens, in memory of their own. -/
import Derived.Test.YtoeolonbkeldoaaDoorLNx
import Derived.Test.YtoeolonbkeldoaaDoorLByte
namespace Go.Proofs.YtoeolonbkeldoaaDoor.L
open Go.RowKit
set_option linter.unusedVariables false
def tkCells (L : List Lx.Tk) : List Value := L.flatMap fun t => (tkA t).toList
theorem tkCells_snoc (L : List Lx.Tk) (t : Lx.Tk) : tkCells L ++ (tkA t).toList = tkCells (L ++ [t]) := by simp [tkCells]
theorem infoTK : (Tryd.prog.info? 42).map (fun i => (i.zero, i.size, i.bytes)) = some (some (.agg #[.int .i64 0, .string ⟨#[]⟩, .int .i64 0, .int .i64 0, .bool false]), 5, 48) := by kernel_rfl
theorem own_block {w : World} {B : Nat} {e : TypeId} {z : Nat} {v : Value} {n : Nat} {xs : List Value} (h : w.ownsRow B e z v n xs) : ∀ k, v.ownBlock = some k → B ≤ k ∧ k < w.heap.size := fun k hk => by
  rcases h.2 with ⟨e, _⟩ | ⟨g, cap, cur, e, e1, e2, _⟩
  · rw [e] at hk; simp [Value.ownBlock] at hk
  · rw [e] at hk; simp [Value.ownBlock] at hk; subst hk
    refine ⟨e1, Nat.lt_of_not_le fun hg => ?_⟩
    rw [Array.getElem?_eq_none hg] at e2; cases e2
theorem own_below {w w' : World} {B : Nat} {e : TypeId} {z : Nat} {v : Value} {n : Nat} {xs : List Value} (h : w.ownsRow B e z v n xs) (hb : Below w.heap.size w w') : w'.ownsRow B e z v n xs := by
  have hl := own_block h
  rcases h.2 with ⟨e, e0⟩ | ⟨g, cap, cur, e, e1, e2, e3⟩
  · exact ⟨h.1, .inl ⟨e, e0⟩⟩
  · refine ⟨h.1, .inr ⟨g, cap, cur, e, e1, ?_, e3⟩⟩
    rw [hb.block g (hl g (by rw [e]; rfl)).2]; exact e2
/-- A store below the row's memory leaves the row. -/
theorem own_set {w : World} {B : Nat} {e : TypeId} {z : Nat} {v : Value} {n : Nat} {xs : List Value} (h : w.ownsRow B e z v n xs) {X i : Nat} (hX : X < B) (u : Value) : (w.setCell ⟨X, i, none⟩ u).ownsRow B e z v n xs := by
  rcases h.2 with ⟨e, e0⟩ | ⟨g, cap, cur, e, e1, e2, e3⟩
  · exact ⟨h.1, .inl ⟨e, e0⟩⟩
  · refine ⟨h.1, .inr ⟨g, cap, cur, e, e1, ?_, e3⟩⟩
    rw [Below.heap_setCell _ _ _ _ (by show g ≠ X; omega)]; exact e2
/-- One token more behind tokens of one's own, as a run of the append. -/
theorem tok_more {B : Nat} {w : World} {v : Value} {L : List Lx.Tk} (h : w.ownsRow B 42 5 v L.length (tkCells L)) (hB : B ≤ w.heap.size) (hl : L.length ≤ 1000000) (t : Lx.Tk) (ty : TypeId) :
    ∃ a cap w3, (Builtin.append_ #[36, 36] ty #[v, .slice (some ⟨w.heap.size, 0, none⟩) 1 1]).run Tryd.prog (w.alloc (.cells (tkA t) 42)) = .ok (.slice a (L.length + 1) cap) w3 ∧
      w3.ownsRow B 42 5 (.slice a (L.length + 1) cap) (L ++ [t]).length (tkCells (L ++ [t])) ∧ Below B w w3 := by
  obtain ⟨i0, hi, hz0, hz1, hz2⟩ := info_of infoTK
  have hb : Below w.heap.size w (w.alloc (.cells (tkA t) 42)) := (Below.refl _ _).alloc (Nat.le_refl _) _
  have hown := own_block h
  obtain ⟨v', w3, hr, ho, hg, _⟩ := run_append_own (P := Tryd.prog) (w.alloc (.cells (tkA t) 42)) B 36 ty 42 i0 _ 5 48 Tryd.underlying36 hi hz0 hz1 hz2 rfl (by decide) v L.length (tkCells L) (own_below h hb) ⟨w.heap.size, 0, none⟩ 1 1 (tkA t).toList rfl (by
      intro j u hj
      have hj5 : j < 5 := by
        rcases Nat.lt_or_ge j 5 with h | h
        · exact h
        · rw [List.getElem?_eq_none (by simpa using h)] at hj; cases hj
      obtain rfl | rfl | rfl | rfl | rfl : j = 0 ∨ j = 1 ∨ j = 2 ∨ j = 3 ∨ j = 4 := by omega
      all_goals (simp at hj; subst hj; simp [Addr.add])) (by intro u hu; simp at hu; rcases hu with rfl | rfl | rfl | rfl | rfl <;> rfl) (by unfold maxLen; omega) (by omega) (by simp; omega)
  obtain ⟨a, cap, rfl⟩ : ∃ a cap, v' = .slice a (L.length + 1) cap := by
    rcases ho.2 with ⟨_, e⟩ | ⟨g, cap, cur, e, _⟩
    · omega
    · exact ⟨_, _, e⟩
  rw [tkCells_snoc] at ho
  exact ⟨a, cap, w3, hr, by simpa using ho, (hb.mono hB).trans ((Below.refl _ _).grown hg (by simp; omega) fun k hk => (hown k hk).1)⟩
/-- A token's five cells, from an address on. -/
def TokAt (w : World) (b off : Nat) (t : Lx.Tk) : Prop :=
  w.cell? ⟨b, off, none⟩ = some (.int .i64 (t.k : Int)) ∧ w.cell? ⟨b, off + 1, none⟩ = some (.string ⟨t.t.toArray⟩) ∧ w.cell? ⟨b, off + 2, none⟩ = some (.int .i64 (t.n : Int)) ∧ w.cell? ⟨b, off + 3, none⟩ = some (.int .i64 (t.a : Int)) ∧ w.cell? ⟨b, off + 4, none⟩ = some (.bool t.ln)
/-- Tokens lie from an address on. -/
def Toks (w : World) (ad : Option Addr) (L : List Lx.Tk) : Prop :=
  L.length = 0 ∨ ∃ b, ad = some ⟨b, 0, none⟩ ∧ b < w.heap.size ∧ ∀ j (h : j < L.length), TokAt w b (j * 5) L[j]
theorem Toks.below {w w' : World} {ad : Option Addr} {L : List Lx.Tk} (h : Toks w ad L) (hb : Below w.heap.size w w') : Toks w' ad L := by
  rcases h with h | ⟨b, h1, h2, h3⟩
  · exact .inl h
  · refine .inr ⟨b, h1, Nat.lt_of_lt_of_le h2 hb.size, fun j hj => ?_⟩
    obtain ⟨c0, c1, c2, c3, c4⟩ := h3 j hj
    exact ⟨(hb.cell h2).trans c0, (hb.cell h2).trans c1, (hb.cell h2).trans c2, (hb.cell h2).trans c3, (hb.cell h2).trans c4⟩
theorem tkCells_at : ∀ (L : List Lx.Tk) (j : Nat) (h : j < L.length) (i : Nat), i < 5 → (tkCells L)[j * 5 + i]? = (tkA L[j])[i]?
  | [], j, h, i, hi => by simp at h
  | t :: L, 0, h, i, hi => by
    rw [show tkCells (t :: L) = (tkA t).toList ++ tkCells L from rfl, List.getElem?_append_left (by simp; omega)]
    simp
  | t :: L, j + 1, h, i, hi => by
    have ih := tkCells_at L j (by simpa using h) i hi
    rw [show tkCells (t :: L) = (tkA t).toList ++ tkCells L from rfl, List.getElem?_append_right (by simp; omega)]
    rw [show (j + 1) * 5 + i - (tkA t).toList.length = j * 5 + i by simp; omega]
    simpa using ih
theorem Toks.own {w : World} {base : Nat} {v : Value} {L : List Lx.Tk} (h : w.ownsRow base 42 5 v L.length (tkCells L)) : ∃ ad cap, v = .slice ad L.length cap ∧ L.length ≤ cap ∧ Toks w ad L := by
  by_cases h0 : L.length = 0
  · obtain ⟨_, h1⟩ := h
    rcases h1 with ⟨rfl, _⟩ | ⟨g, cap, cur, rfl, _, _, h4, _⟩
    · exact ⟨none, 0, by rw [h0], by omega, .inl h0⟩
    · exact ⟨_, cap, rfl, h4, .inl h0⟩
  · have hl := own_block h
    obtain ⟨_, h1⟩ := h
    rcases h1 with ⟨rfl, hn⟩ | ⟨g, cap, cur, rfl, h2, h3, h4, _, _, h5⟩
    · exact absurd hn h0
    · refine ⟨_, cap, rfl, h4, .inr ⟨g, rfl, (hl g rfl).2, fun j hj => ?_⟩⟩
      have hc : ∀ i, i < 5 → w.cell? ⟨g, j * 5 + i, none⟩ = (tkA L[j])[i]? := fun i hi => by
        rw [← tkCells_at L j hj i hi, ← h5, List.getElem?_take, if_pos (by omega)]
        simp [World.cell?, h3]
      exact ⟨hc 0 (by omega), hc 1 (by omega), hc 2 (by omega), hc 3 (by omega), hc 4 (by omega)⟩
def lenOf : Value → Nat
  | .slice _ n _ => n
  | _ => 0
theorem cells5h {w : World} {b : Nat} {x0 x1 x2 x3 x4 : Value} {t : TypeId} (h : w.heap[b]? = some (.cells #[x0, x1, x2, x3, x4] t (0, 0))) :
    w.cell? ⟨b, 0, none⟩ = some x0 ∧ w.cell? ⟨b, 1, none⟩ = some x1 ∧ w.cell? ⟨b, 2, none⟩ = some x2 ∧ w.cell? ⟨b, 3, none⟩ = some x3 ∧ w.cell? ⟨b, 4, none⟩ = some x4 ∧ w.frozen? ⟨b, 0, none⟩ = false ∧ w.frozen? ⟨b, 1, none⟩ = false ∧ w.frozen? ⟨b, 2, none⟩ = false ∧ w.frozen? ⟨b, 3, none⟩ = false ∧ w.frozen? ⟨b, 4, none⟩ = false ∧ b < w.heap.size := by
  refine ⟨?_, ?_, ?_, ?_, ?_, ?_, ?_, ?_, ?_, ?_, Nat.lt_of_not_le fun hg => by rw [Array.getElem?_eq_none hg] at h; cases h⟩ <;> simp [World.cell?, World.frozen?, h]
theorem set5 {w : World} {b : Nat} {x0 x1 x2 x3 x4 y0 y1 y2 y3 y4 : Value} {t : TypeId} (h : w.heap[b]? = some (.cells #[x0, x1, x2, x3, x4] t (0, 0))) :
    (((((w.setCell ⟨b, 0, none⟩ y0).setCell ⟨b, 1, none⟩ y1).setCell ⟨b, 2, none⟩ y2).setCell ⟨b, 3, none⟩ y3).setCell ⟨b, 4, none⟩ y4).heap[b]? = some (.cells #[y0, y1, y2, y3, y4] t (0, 0)) := by
  simp [World.setCell, Array.getElem?_modify, h]
theorem own_set5 {w : World} {B : Nat} {e : TypeId} {z : Nat} {v : Value} {n : Nat} {xs : List Value} (h : w.ownsRow B e z v n xs) {X : Nat} (hX : X < B) (y0 y1 y2 y3 y4 : Value) :
    (((((w.setCell ⟨X, 0, none⟩ y0).setCell ⟨X, 1, none⟩ y1).setCell ⟨X, 2, none⟩ y2).setCell ⟨X, 3, none⟩ y3).setCell ⟨X, 4, none⟩ y4).ownsRow B e z v n xs :=
  own_set (own_set (own_set (own_set (own_set h hX _) hX _) hX _) hX _) hX _
theorem own_mono {w : World} {B B' : Nat} {e : TypeId} {z : Nat} {v : Value} {n : Nat} {xs : List Value} (h : w.ownsRow B e z v n xs) (hB : B' ≤ B) : w.ownsRow B' e z v n xs := by
  rcases h.2 with ⟨e, e0⟩ | ⟨g, cap, cur, e, e1, e2⟩
  · exact ⟨h.1, .inl ⟨e, e0⟩⟩
  · exact ⟨h.1, .inr ⟨g, cap, cur, e, Nat.le_trans hB e1, e2⟩⟩
/-- What stands while All goes: L is written down, the token at p lies at X. -/
structure AllS (w : World) (X : Nat) (F : Nat → List Lx.Tk) (R : List Lx.Tk) (W : World) (v : Value) (L : List Lx.Tk) (p : Nat) (t : Lx.Tk) : Prop where
  own : W.ownsRow (X + 1) 42 5 v L.length (tkCells L)
  at_ : W.heap[X]? = some (.cells (tkA t) 42 (0, 0))
  bel : Below w.heap.size w W
  few : L.length ≤ p
  rest : L ++ F p = R
set_option maxRecDepth 100000 in
set_option maxHeartbeats 4000000 in
theorem All_core (s : ByteArray) (w : World) (tk : Nat → Lx.Tk) (F : Nat → List Lx.Tk) (R : List Lx.Tk) (hs : s.size ≤ 1000000) (hR : F 0 = R) (h0 : w.heap.size ≠ 0)
    (HE : Hid (∀ p, p ≤ s.size → F p = if (tk p).k = 0 ∨ (tk p).k = 6 then [tk p] else tk p :: F (tk p).e))
    (HT : Hid (∀ p, p ≤ s.size → (tk p).e ≤ s.size ∧ ((tk p).k ≠ 0 → (tk p).k ≠ 6 → p < (tk p).e)))
    (HN : Hid (∀ p W, p ≤ s.size → Below w.heap.size w W → Calls Tryd.prog 17 #[.string s, .int .i64 (p : Int)] W fun e w' => e = .returned (.tuple #[.agg (tkA (tk p)), .int .i64 ((tk p).e : Int)]) ∧ Below W.heap.size W w')) :
    Calls Tryd.prog 11 #[.string s] w fun e w' => ∃ v, e = .returned v ∧ w'.ownsRow w.heap.size 42 5 v R.length (tkCells R) ∧ Below w.heap.size w w' := by
  have HN0 : Hid (∀ W, Below w.heap.size w W → Calls Tryd.prog 17 #[.string s, .int .i64 0] W fun e w' => e = .returned (.tuple #[.agg (tkA (tk 0)), .int .i64 ((tk 0).e : Int)]) ∧ Below W.heap.size W w') := fun W hW => HN.out 0 W (by omega) hW
  go_enter Tryd.func11, Tryd.ntmps11
  go_wp2_with fail
  refine Calls.mono (HN0.out _ (Below.refl _ _)) ?_
  rintro e w1 ⟨rfl, hb1⟩
  clear HN0
  have hX : w.heap.size ≤ w1.heap.size := hb1.size
  generalize hX' : w1.heap.size = X at hX
  have HS0 : Hid (AllS w X F R (w1.alloc (.cells (tkA (tk 0)) 42)) (.slice none 0 0) [] 0 (tk 0)) := (show AllS _ _ _ _ _ _ _ _ _ from
    ⟨World.ownsRow_nil _ _ _ _, by subst hX'; exact Array.getElem?_push_size, hb1.trans ((Below.refl _ _).alloc (by omega) _), by simp, hR⟩)
  subst hX'
  clear hb1
  go_wp2_with fail
  go_loopw [3, 5] (fun v i W => ∃ (L : List Lx.Tk) (p cap : Nat) (a : Option Addr), p ≤ s.size ∧ v = .slice a L.length cap ∧ i = .int .i64 ((tk p).e : Int) ∧ Hid (AllS w w1.heap.size F R W v L p (tk p))) (fun v _ _ => s.size + 1 - lenOf v)
  case atStart => exact ⟨[], 0, 0, none, by omega, rfl, rfl, HS0⟩
  case round =>
    obtain ⟨L, p, cap, a, hp, rfl, rfl, HS⟩ := hrel
    clear HS0
    obtain ⟨ht1, ht2⟩ := HT.out p hp
    generalize hT : tk p = T at *
    obtain ⟨k, t, n, at', ln, e'⟩ := T
    simp only at ht1 ht2
    obtain ⟨q0, q1, q2, q3, q4, f0, f1, f2, f3, f4, hlt⟩ := cells5h HS.out.at_
    have hfew : L.length ≤ 1000000 := by have := HS.out.few; omega
    obtain ⟨a2, cap2, w3, hr, ho, hb3⟩ := tok_more HS.out.own (by omega) hfew ⟨k, t, n, at', ln, e'⟩ 36
    have HRn : Hid (_) := hr
    have HBB : Hid (Below w.heap.size w w3) := HS.out.bel.trans (hb3.mono (by omega))
    simp only [tkA] at HRn
    by_cases hk0 : k = 0
    · subst hk0
      have HF := HE.out p hp
      rw [hT, if_pos (by simp)] at HF
      have HO : Hid (w3.ownsRow w.heap.size 42 5 (.slice a2 (L.length + 1) cap2) R.length (tkCells R)) := by
        show World.ownsRow _ _ _ _ _ _ _
        rw [← HS.out.rest, HF]
        exact own_mono ho (by omega)
      clear HS HE HT HN hr ho hT HF
      go_wp2_with (at_builtin; refine wpList_append_run _ _ 36 rfl rfl _ _ _ _ rfl rfl HRn.out ?_)
      go_ret
      exact ⟨_, rfl, HO.out, HBB.out⟩
    by_cases hk6 : k = 6
    · subst hk6
      have HF := HE.out p hp
      rw [hT, if_pos (by simp)] at HF
      have HO : Hid (w3.ownsRow w.heap.size 42 5 (.slice a2 (L.length + 1) cap2) R.length (tkCells R)) := by
        show World.ownsRow _ _ _ _ _ _ _
        rw [← HS.out.rest, HF]
        exact own_mono ho (by omega)
      clear HS HE HT HN hr ho hT HF
      go_wp2_with (at_builtin; refine wpList_append_run _ _ 36 rfl rfl _ _ _ _ rfl rfl HRn.out ?_)
      go_ret
      exact ⟨_, rfl, HO.out, HBB.out⟩
    have b0 : ((k : Int) == 0) = false := by rw [beq_eq_false_iff_ne]; omega
    have b6 : ((k : Int) == 6) = false := by rw [beq_eq_false_iff_ne]; omega
    have c0 : ((k : Int) != 0) = true := by rw [bne, b0]; rfl
    have c6 : ((k : Int) != 6) = true := by rw [bne, b6]; rfl
    have hpe := ht2 hk0 hk6
    have HF := HE.out p hp
    rw [hT, if_neg (by simp [hk0, hk6])] at HF
    have HN' : Hid (_) := HN.out e' w3 ht1 HBB.out
    have hX3 : w3.heap[w1.heap.size]? = some (.cells #[.int .i64 (k : Int), .string ⟨t.toArray⟩, .int .i64 (n : Int), .int .i64 (at' : Int), .bool ln] 42 (0, 0)) := (hb3.block _ (by omega)).trans HS.out.at_
    obtain ⟨u0, u1, u2, u3, u4, g0, g1, g2, g3, g4, hlt3⟩ := cells5h hX3
    have HREST : Hid ((L ++ [⟨k, t, n, at', ln, e'⟩]) ++ F e' = R) := by
      show _ = _
      rw [← HS.out.rest, HF]; simp
    have hfew2 : (L ++ [(⟨k, t, n, at', ln, e'⟩ : Lx.Tk)]).length ≤ e' := by have := HS.out.few; simp; omega
    have hfew3 : L.length ≤ s.size := by have := HS.out.few; omega
    have HO3 : Hid (_) := ho
    have HX3 : Hid (_) := hX3
    clear HS HE HT HN hr ho HF hX3 hb3 hT ht2
    go_wp2_with (at_builtin; refine wpList_append_run _ _ 36 rfl rfl _ _ _ _ rfl rfl HRn.out ?_)
    refine Calls.mono HN'.out ?_
    rintro e w4 ⟨rfl, hb4⟩
    have hX4 := (hb4.block _ hlt3).trans HX3.out
    obtain ⟨v0, v1, v2, v3, v4, k0, k1, k2, k3, k4, hlt4⟩ := cells5h hX4
    have ho4 := own_below HO3.out hb4
    have hb5 := HBB.out.trans (hb4.mono HBB.out.size)
    generalize hT : tk e' = T at *
    obtain ⟨K, TT, NN, AA, LN, E'⟩ := T
    have HSN : Hid (AllS w w1.heap.size F R (((((w4.setCell ⟨w1.heap.size, 0, none⟩ (.int .i64 (K : Int))).setCell ⟨w1.heap.size, 1, none⟩ (.string ⟨TT.toArray⟩)).setCell ⟨w1.heap.size, 2, none⟩ (.int .i64 (NN : Int))).setCell ⟨w1.heap.size, 3, none⟩ (.int .i64 (AA : Int))).setCell ⟨w1.heap.size, 4, none⟩ (.bool LN)) (.slice a2 (L.length + 1) cap2) (L ++ [⟨k, t, n, at', ln, e'⟩]) e' ⟨K, TT, NN, AA, LN, E'⟩) :=
      (show AllS _ _ _ _ _ _ _ _ _ from ⟨own_set5 ho4 (Nat.lt_succ_self _) _ _ _ _ _, set5 hX4, ((((hb5.setCell hX _).setCell hX _).setCell hX _).setCell hX _).setCell hX _, hfew2, HREST.out⟩)
    have HTT : Hid (_) := hT
    clear hX4 ho4 hb5 hb4 HN' HX3 HO3 HRn hT HBB HREST
    go_wp2_with fail
    go_roundw
    case rel =>
      refine ⟨L ++ [⟨k, t, n, at', ln, e'⟩], e', cap2, a2, by omega, by simp, by rw [HTT.out], ?_⟩
      rw [HTT.out]; exact HSN
    case measure => simp [lenOf]; omega
theorem All_any (s : ByteArray) (w : World) (hs : s.size ≤ 1000000) (hg : Sig w) :
    Calls Tryd.prog 11 #[.string s] w fun e w' => ∃ v, e = .returned v ∧ w'.ownsRow w.heap.size 42 5 v (Lx.all s.data.toList).length (tkCells (Lx.all s.data.toList)) ∧ Below w.heap.size w w' := by
  refine All_core s w (Lx.tok s.data.toList) (Lx.run s.data.toList (s.data.toList.length + 1)) _ hs rfl (Nat.ne_of_gt hg.1) (fun p hp => Lx.all_step _ _ (by rw [size_list]; exact hp)) (fun p hp => ?_) (fun p W hp hW => next_any s p W hs hp (hg.below hW))
  have := Lx.tok_ok s.data.toList p (by rw [size_list]; exact hp)
  rw [size_list] at this
  exact ⟨this.2.2.1, fun h1 h2 => Nat.lt_of_le_of_lt this.1 (this.2.2.2.2.1 h1 h2)⟩
end Go.Proofs.YtoeolonbkeldoaaDoor.L
