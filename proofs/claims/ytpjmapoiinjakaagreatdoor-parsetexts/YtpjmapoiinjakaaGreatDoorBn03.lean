/- Texts: LAl PsM PsR. -/
import Derived.Test.YtpjmapoiinjakaaGreatDoorBn02
import Derived.Test.YtpjmapoiinjakaaGreatDoorBn01
section
namespace Go.Proofs.YtpjmapoiinjakaaGreatDoor.L
open Go.RowKit
set_option linter.unusedVariables false
def tkCells (L : List Lx.Tk) : List Value := L.flatMap fun t => (tkA t).toList
theorem tkCells_snoc (L : List Lx.Tk) (t : Lx.Tk) : tkCells L ++ (tkA t).toList = tkCells (L ++ [t]) := by simp [tkCells]
theorem infoTK : (Tryz.prog.info? 34).map (fun i => (i.zero, i.size, i.bytes)) = some (some (.agg #[.int .i64 0, .string ⟨#[]⟩, .int .i64 0, .int .i64 0, .bool false]), 5, 48) := by kernel_rfl
theorem own_block {w : World} {B : Nat} {e : TypeId} {z : Nat} {v : Value} {n : Nat} {xs : List Value} (h : w.ownsRow B e z v n xs) : ∀ k, v.ownBlock = some k → B ≤ k ∧ k < w.heap.size := fun k hk => by
  rcases h.2 with ⟨e, _⟩ | ⟨g, cap, cur, e, e1, e2, _⟩
  · rw [e] at hk; simp [Value.ownBlock] at hk
  · rw [e] at hk; simp [Value.ownBlock] at hk; subst hk
    refine ⟨e1, Nat.lt_of_not_le fun hg => ?_⟩
    rw [Array.getElem?_eq_none hg] at e2; cases e2
theorem own_below {w w' : World} {B : Nat} {e : TypeId} {z : Nat} {v : Value} {n : Nat} {xs : List Value} (h : w.ownsRow B e z v n xs) (hb : Below w.heap.size w w') : w'.ownsRow B e z v n xs := by
  have hl := own_block h
  rcases h.2 with ⟨e, e0⟩ | ⟨g, cap, cur, e, e1, e2, e3⟩
  · exact ⟨h.1, .inl ⟨e, e0⟩⟩
  · refine ⟨h.1, .inr ⟨g, cap, cur, e, e1, ?_, e3⟩⟩
    rw [hb.block g (hl g (by rw [e]; rfl)).2]; exact e2
/-- A store below the row's memory leaves the row. -/
theorem own_set {w : World} {B : Nat} {e : TypeId} {z : Nat} {v : Value} {n : Nat} {xs : List Value} (h : w.ownsRow B e z v n xs) {X i : Nat} (hX : X < B) (u : Value) : (w.setCell ⟨X, i, none⟩ u).ownsRow B e z v n xs := by
  rcases h.2 with ⟨e, e0⟩ | ⟨g, cap, cur, e, e1, e2, e3⟩
  · exact ⟨h.1, .inl ⟨e, e0⟩⟩
  · refine ⟨h.1, .inr ⟨g, cap, cur, e, e1, ?_, e3⟩⟩
    rw [Below.heap_setCell _ _ _ _ (by show g ≠ X; omega)]; exact e2
/-- One token more behind tokens of one's own, as a run of the append. -/
theorem tok_more {B : Nat} {w : World} {v : Value} {L : List Lx.Tk} (h : w.ownsRow B 34 5 v L.length (tkCells L)) (hB : B ≤ w.heap.size) (hl : L.length ≤ 1000000) (t : Lx.Tk) (ty : TypeId) :
    ∃ a cap w3, (Builtin.append_ #[31, 31] ty #[v, .slice (some ⟨w.heap.size, 0, none⟩) 1 1]).run Tryz.prog (w.alloc (.cells (tkA t) 34)) = .ok (.slice a (L.length + 1) cap) w3 ∧
      w3.ownsRow B 34 5 (.slice a (L.length + 1) cap) (L ++ [t]).length (tkCells (L ++ [t])) ∧ Below B w w3 := by
  obtain ⟨i0, hi, hz0, hz1, hz2⟩ := info_of infoTK
  have hb : Below w.heap.size w (w.alloc (.cells (tkA t) 34)) := (Below.refl _ _).alloc (Nat.le_refl _) _
  have hown := own_block h
  obtain ⟨v', w3, hr, ho, hg, _⟩ := run_append_own (P := Tryz.prog) (w.alloc (.cells (tkA t) 34)) B 31 ty 34 i0 _ 5 48 Tryz.underlying31 hi hz0 hz1 hz2 rfl (by decide) v L.length (tkCells L) (own_below h hb) ⟨w.heap.size, 0, none⟩ 1 1 (tkA t).toList rfl (by
      intro j u hj
      have hj5 : j < 5 := by
        rcases Nat.lt_or_ge j 5 with h | h
        · exact h
        · rw [List.getElem?_eq_none (by simpa using h)] at hj; cases hj
      obtain rfl | rfl | rfl | rfl | rfl : j = 0 ∨ j = 1 ∨ j = 2 ∨ j = 3 ∨ j = 4 := by omega
      all_goals (simp at hj; subst hj; simp [Addr.add])) (by intro u hu; simp at hu; rcases hu with rfl | rfl | rfl | rfl | rfl <;> rfl) (by unfold maxLen; omega) (by omega) (by simp; omega)
  obtain ⟨a, cap, rfl⟩ : ∃ a cap, v' = .slice a (L.length + 1) cap := by
    rcases ho.2 with ⟨_, e⟩ | ⟨g, cap, cur, e, _⟩
    · omega
    · exact ⟨_, _, e⟩
  rw [tkCells_snoc] at ho
  exact ⟨a, cap, w3, hr, by simpa using ho, (hb.mono hB).trans ((Below.refl _ _).grown hg (by simp; omega) fun k hk => (hown k hk).1)⟩
/-- A token's five cells, from an address on. -/
def TokAt (w : World) (b off : Nat) (t : Lx.Tk) : Prop :=
  w.cell? ⟨b, off, none⟩ = some (.int .i64 (t.k : Int)) ∧ w.cell? ⟨b, off + 1, none⟩ = some (.string ⟨t.t.toArray⟩) ∧ w.cell? ⟨b, off + 2, none⟩ = some (.int .i64 (t.n : Int)) ∧ w.cell? ⟨b, off + 3, none⟩ = some (.int .i64 (t.a : Int)) ∧ w.cell? ⟨b, off + 4, none⟩ = some (.bool t.ln)
/-- Tokens lie from an address on. -/
def Toks (w : World) (ad : Option Addr) (L : List Lx.Tk) : Prop :=
  L.length = 0 ∨ ∃ b, ad = some ⟨b, 0, none⟩ ∧ b < w.heap.size ∧ ∀ j (h : j < L.length), TokAt w b (j * 5) L[j]
theorem Toks.below {w w' : World} {ad : Option Addr} {L : List Lx.Tk} (h : Toks w ad L) (hb : Below w.heap.size w w') : Toks w' ad L := by
  rcases h with h | ⟨b, h1, h2, h3⟩
  · exact .inl h
  · refine .inr ⟨b, h1, Nat.lt_of_lt_of_le h2 hb.size, fun j hj => ?_⟩
    obtain ⟨c0, c1, c2, c3, c4⟩ := h3 j hj
    exact ⟨(hb.cell h2).trans c0, (hb.cell h2).trans c1, (hb.cell h2).trans c2, (hb.cell h2).trans c3, (hb.cell h2).trans c4⟩
theorem tkCells_at : ∀ (L : List Lx.Tk) (j : Nat) (h : j < L.length) (i : Nat), i < 5 → (tkCells L)[j * 5 + i]? = (tkA L[j])[i]?
  | [], j, h, i, hi => by simp at h
  | t :: L, 0, h, i, hi => by
    rw [show tkCells (t :: L) = (tkA t).toList ++ tkCells L from rfl, List.getElem?_append_left (by simp; omega)]
    simp
  | t :: L, j + 1, h, i, hi => by
    have ih := tkCells_at L j (by simpa using h) i hi
    rw [show tkCells (t :: L) = (tkA t).toList ++ tkCells L from rfl, List.getElem?_append_right (by simp; omega)]
    rw [show (j + 1) * 5 + i - (tkA t).toList.length = j * 5 + i by simp; omega]
    simpa using ih
theorem Toks.own {w : World} {base : Nat} {v : Value} {L : List Lx.Tk} (h : w.ownsRow base 34 5 v L.length (tkCells L)) : ∃ ad cap, v = .slice ad L.length cap ∧ L.length ≤ cap ∧ Toks w ad L := by
  by_cases h0 : L.length = 0
  · obtain ⟨_, h1⟩ := h
    rcases h1 with ⟨rfl, _⟩ | ⟨g, cap, cur, rfl, _, _, h4, _⟩
    · exact ⟨none, 0, by rw [h0], by omega, .inl h0⟩
    · exact ⟨_, cap, rfl, h4, .inl h0⟩
  · have hl := own_block h
    obtain ⟨_, h1⟩ := h
    rcases h1 with ⟨rfl, hn⟩ | ⟨g, cap, cur, rfl, h2, h3, h4, _, _, h5⟩
    · exact absurd hn h0
    · refine ⟨_, cap, rfl, h4, .inr ⟨g, rfl, (hl g rfl).2, fun j hj => ?_⟩⟩
      have hc : ∀ i, i < 5 → w.cell? ⟨g, j * 5 + i, none⟩ = (tkA L[j])[i]? := fun i hi => by
        rw [← tkCells_at L j hj i hi, ← h5, List.getElem?_take, if_pos (by omega)]
        simp [World.cell?, h3]
      exact ⟨hc 0 (by omega), hc 1 (by omega), hc 2 (by omega), hc 3 (by omega), hc 4 (by omega)⟩
def lenOf : Value → Nat
  | .slice _ n _ => n
  | _ => 0
theorem cells5h {w : World} {b : Nat} {x0 x1 x2 x3 x4 : Value} {t : TypeId} (h : w.heap[b]? = some (.cells #[x0, x1, x2, x3, x4] t (0, 0))) :
    w.cell? ⟨b, 0, none⟩ = some x0 ∧ w.cell? ⟨b, 1, none⟩ = some x1 ∧ w.cell? ⟨b, 2, none⟩ = some x2 ∧ w.cell? ⟨b, 3, none⟩ = some x3 ∧ w.cell? ⟨b, 4, none⟩ = some x4 ∧ w.frozen? ⟨b, 0, none⟩ = false ∧ w.frozen? ⟨b, 1, none⟩ = false ∧ w.frozen? ⟨b, 2, none⟩ = false ∧ w.frozen? ⟨b, 3, none⟩ = false ∧ w.frozen? ⟨b, 4, none⟩ = false ∧ b < w.heap.size := by
  refine ⟨?_, ?_, ?_, ?_, ?_, ?_, ?_, ?_, ?_, ?_, Nat.lt_of_not_le fun hg => by rw [Array.getElem?_eq_none hg] at h; cases h⟩ <;> simp [World.cell?, World.frozen?, h]
theorem set5 {w : World} {b : Nat} {x0 x1 x2 x3 x4 y0 y1 y2 y3 y4 : Value} {t : TypeId} (h : w.heap[b]? = some (.cells #[x0, x1, x2, x3, x4] t (0, 0))) :
    (((((w.setCell ⟨b, 0, none⟩ y0).setCell ⟨b, 1, none⟩ y1).setCell ⟨b, 2, none⟩ y2).setCell ⟨b, 3, none⟩ y3).setCell ⟨b, 4, none⟩ y4).heap[b]? = some (.cells #[y0, y1, y2, y3, y4] t (0, 0)) := by
  simp [World.setCell, Array.getElem?_modify, h]
theorem own_set5 {w : World} {B : Nat} {e : TypeId} {z : Nat} {v : Value} {n : Nat} {xs : List Value} (h : w.ownsRow B e z v n xs) {X : Nat} (hX : X < B) (y0 y1 y2 y3 y4 : Value) :
    (((((w.setCell ⟨X, 0, none⟩ y0).setCell ⟨X, 1, none⟩ y1).setCell ⟨X, 2, none⟩ y2).setCell ⟨X, 3, none⟩ y3).setCell ⟨X, 4, none⟩ y4).ownsRow B e z v n xs :=
  own_set (own_set (own_set (own_set (own_set h hX _) hX _) hX _) hX _) hX _
theorem own_mono {w : World} {B B' : Nat} {e : TypeId} {z : Nat} {v : Value} {n : Nat} {xs : List Value} (h : w.ownsRow B e z v n xs) (hB : B' ≤ B) : w.ownsRow B' e z v n xs := by
  rcases h.2 with ⟨e, e0⟩ | ⟨g, cap, cur, e, e1, e2⟩
  · exact ⟨h.1, .inl ⟨e, e0⟩⟩
  · exact ⟨h.1, .inr ⟨g, cap, cur, e, Nat.le_trans hB e1, e2⟩⟩
/-- What stands while All goes: L is written down, the token at p lies at X. -/
structure AllS (w : World) (X : Nat) (F : Nat → List Lx.Tk) (R : List Lx.Tk) (W : World) (v : Value) (L : List Lx.Tk) (p : Nat) (t : Lx.Tk) : Prop where
  own : W.ownsRow (X + 1) 34 5 v L.length (tkCells L)
  at_ : W.heap[X]? = some (.cells (tkA t) 34 (0, 0))
  bel : Below w.heap.size w W
  few : L.length ≤ p
  rest : L ++ F p = R
set_option maxRecDepth 100000 in
set_option maxHeartbeats 4000000 in
theorem All_core (s : ByteArray) (w : World) (tk : Nat → Lx.Tk) (F : Nat → List Lx.Tk) (R : List Lx.Tk) (hs : s.size ≤ 1000000) (hR : F 0 = R) (h0 : w.heap.size ≠ 0)
    (HE : Hid (∀ p, p ≤ s.size → F p = if (tk p).k = 0 ∨ (tk p).k = 6 then [tk p] else tk p :: F (tk p).e))
    (HT : Hid (∀ p, p ≤ s.size → (tk p).e ≤ s.size ∧ ((tk p).k ≠ 0 → (tk p).k ≠ 6 → p < (tk p).e)))
    (HN : Hid (∀ p W, p ≤ s.size → Below w.heap.size w W → Calls Tryz.prog 37 #[.string s, .int .i64 (p : Int)] W fun e w' => e = .returned (.tuple #[.agg (tkA (tk p)), .int .i64 ((tk p).e : Int)]) ∧ Below W.heap.size W w')) :
    Calls Tryz.prog 20 #[.string s] w fun e w' => ∃ v, e = .returned v ∧ w'.ownsRow w.heap.size 34 5 v R.length (tkCells R) ∧ Below w.heap.size w w' := by
  have HN0 : Hid (∀ W, Below w.heap.size w W → Calls Tryz.prog 37 #[.string s, .int .i64 0] W fun e w' => e = .returned (.tuple #[.agg (tkA (tk 0)), .int .i64 ((tk 0).e : Int)]) ∧ Below W.heap.size W w') := fun W hW => HN.out 0 W (by omega) hW
  go_enter Tryz.func20, Tryz.ntmps20
  go_wp2_with fail
  refine Calls.mono (HN0.out _ (Below.refl _ _)) ?_
  rintro e w1 ⟨rfl, hb1⟩
  clear HN0
  have hX : w.heap.size ≤ w1.heap.size := hb1.size
  generalize hX' : w1.heap.size = X at hX
  have HS0 : Hid (AllS w X F R (w1.alloc (.cells (tkA (tk 0)) 34)) (.slice none 0 0) [] 0 (tk 0)) := (show AllS _ _ _ _ _ _ _ _ _ from
    ⟨World.ownsRow_nil _ _ _ _, by subst hX'; exact Array.getElem?_push_size, hb1.trans ((Below.refl _ _).alloc (by omega) _), by simp, hR⟩)
  subst hX'
  clear hb1
  go_wp2_with fail
  go_loopw [3, 5] (fun v i W => ∃ (L : List Lx.Tk) (p cap : Nat) (a : Option Addr), p ≤ s.size ∧ v = .slice a L.length cap ∧ i = .int .i64 ((tk p).e : Int) ∧ Hid (AllS w w1.heap.size F R W v L p (tk p))) (fun v _ _ => s.size + 1 - lenOf v)
  case atStart => exact ⟨[], 0, 0, none, by omega, rfl, rfl, HS0⟩
  case round =>
    obtain ⟨L, p, cap, a, hp, rfl, rfl, HS⟩ := hrel
    clear HS0
    obtain ⟨ht1, ht2⟩ := HT.out p hp
    generalize hT : tk p = T at *
    obtain ⟨k, t, n, at', ln, e'⟩ := T
    simp only at ht1 ht2
    obtain ⟨q0, q1, q2, q3, q4, f0, f1, f2, f3, f4, hlt⟩ := cells5h HS.out.at_
    have hfew : L.length ≤ 1000000 := by have := HS.out.few; omega
    obtain ⟨a2, cap2, w3, hr, ho, hb3⟩ := tok_more HS.out.own (by omega) hfew ⟨k, t, n, at', ln, e'⟩ 31
    have HRn : Hid (_) := hr
    have HBB : Hid (Below w.heap.size w w3) := HS.out.bel.trans (hb3.mono (by omega))
    simp only [tkA] at HRn
    by_cases hk0 : k = 0
    · subst hk0
      have HF := HE.out p hp
      rw [hT, if_pos (by simp)] at HF
      have HO : Hid (w3.ownsRow w.heap.size 34 5 (.slice a2 (L.length + 1) cap2) R.length (tkCells R)) := by
        show World.ownsRow _ _ _ _ _ _ _
        rw [← HS.out.rest, HF]
        exact own_mono ho (by omega)
      clear HS HE HT HN hr ho hT HF
      go_wp2_with (at_builtin; refine wpList_append_run _ _ 31 rfl rfl _ _ _ _ rfl rfl HRn.out ?_)
      go_ret
      exact ⟨_, rfl, HO.out, HBB.out⟩
    by_cases hk6 : k = 6
    · subst hk6
      have HF := HE.out p hp
      rw [hT, if_pos (by simp)] at HF
      have HO : Hid (w3.ownsRow w.heap.size 34 5 (.slice a2 (L.length + 1) cap2) R.length (tkCells R)) := by
        show World.ownsRow _ _ _ _ _ _ _
        rw [← HS.out.rest, HF]
        exact own_mono ho (by omega)
      clear HS HE HT HN hr ho hT HF
      go_wp2_with (at_builtin; refine wpList_append_run _ _ 31 rfl rfl _ _ _ _ rfl rfl HRn.out ?_)
      go_ret
      exact ⟨_, rfl, HO.out, HBB.out⟩
    have b0 : ((k : Int) == 0) = false := by rw [beq_eq_false_iff_ne]; omega
    have b6 : ((k : Int) == 6) = false := by rw [beq_eq_false_iff_ne]; omega
    have c0 : ((k : Int) != 0) = true := by rw [bne, b0]; rfl
    have c6 : ((k : Int) != 6) = true := by rw [bne, b6]; rfl
    have hpe := ht2 hk0 hk6
    have HF := HE.out p hp
    rw [hT, if_neg (by simp [hk0, hk6])] at HF
    have HN' : Hid (_) := HN.out e' w3 ht1 HBB.out
    have hX3 : w3.heap[w1.heap.size]? = some (.cells #[.int .i64 (k : Int), .string ⟨t.toArray⟩, .int .i64 (n : Int), .int .i64 (at' : Int), .bool ln] 34 (0, 0)) := (hb3.block _ (by omega)).trans HS.out.at_
    obtain ⟨u0, u1, u2, u3, u4, g0, g1, g2, g3, g4, hlt3⟩ := cells5h hX3
    have HREST : Hid ((L ++ [⟨k, t, n, at', ln, e'⟩]) ++ F e' = R) := by
      show _ = _
      rw [← HS.out.rest, HF]; simp
    have hfew2 : (L ++ [(⟨k, t, n, at', ln, e'⟩ : Lx.Tk)]).length ≤ e' := by have := HS.out.few; simp; omega
    have hfew3 : L.length ≤ s.size := by have := HS.out.few; omega
    have HO3 : Hid (_) := ho
    have HX3 : Hid (_) := hX3
    clear HS HE HT HN hr ho HF hX3 hb3 hT ht2
    go_wp2_with (at_builtin; refine wpList_append_run _ _ 31 rfl rfl _ _ _ _ rfl rfl HRn.out ?_)
    refine Calls.mono HN'.out ?_
    rintro e w4 ⟨rfl, hb4⟩
    have hX4 := (hb4.block _ hlt3).trans HX3.out
    obtain ⟨v0, v1, v2, v3, v4, k0, k1, k2, k3, k4, hlt4⟩ := cells5h hX4
    have ho4 := own_below HO3.out hb4
    have hb5 := HBB.out.trans (hb4.mono HBB.out.size)
    generalize hT : tk e' = T at *
    obtain ⟨K, TT, NN, AA, LN, E'⟩ := T
    have HSN : Hid (AllS w w1.heap.size F R (((((w4.setCell ⟨w1.heap.size, 0, none⟩ (.int .i64 (K : Int))).setCell ⟨w1.heap.size, 1, none⟩ (.string ⟨TT.toArray⟩)).setCell ⟨w1.heap.size, 2, none⟩ (.int .i64 (NN : Int))).setCell ⟨w1.heap.size, 3, none⟩ (.int .i64 (AA : Int))).setCell ⟨w1.heap.size, 4, none⟩ (.bool LN)) (.slice a2 (L.length + 1) cap2) (L ++ [⟨k, t, n, at', ln, e'⟩]) e' ⟨K, TT, NN, AA, LN, E'⟩) :=
      (show AllS _ _ _ _ _ _ _ _ _ from ⟨own_set5 ho4 (Nat.lt_succ_self _) _ _ _ _ _, set5 hX4, ((((hb5.setCell hX _).setCell hX _).setCell hX _).setCell hX _).setCell hX _, hfew2, HREST.out⟩)
    have HTT : Hid (_) := hT
    clear hX4 ho4 hb5 hb4 HN' HX3 HO3 HRn hT HBB HREST
    go_wp2_with fail
    go_roundw
    case rel =>
      refine ⟨L ++ [⟨k, t, n, at', ln, e'⟩], e', cap2, a2, by omega, by simp, by rw [HTT.out], ?_⟩
      rw [HTT.out]; exact HSN
    case measure => simp [lenOf]; omega
theorem All_any (s : ByteArray) (w : World) (hs : s.size ≤ 1000000) (hg : Sig w) :
    Calls Tryz.prog 20 #[.string s] w fun e w' => ∃ v, e = .returned v ∧ w'.ownsRow w.heap.size 34 5 v (Lx.all s.data.toList).length (tkCells (Lx.all s.data.toList)) ∧ Below w.heap.size w w' := by
  refine All_core s w (Lx.tok s.data.toList) (Lx.run s.data.toList (s.data.toList.length + 1)) _ hs rfl (Nat.ne_of_gt hg.1) (fun p hp => Lx.all_step _ _ (by rw [size_list]; exact hp)) (fun p hp => ?_) (fun p W hp hW => next_any s p W hs hp (hg.below hW))
  have := Lx.tok_ok s.data.toList p (by rw [size_list]; exact hp)
  rw [size_list] at this
  exact ⟨this.2.2.1, fun h1 h2 => Nat.lt_of_le_of_lt this.1 (this.2.2.2.2.1 h1 h2)⟩
end Go.Proofs.YtpjmapoiinjakaaGreatDoor.L
end
section
namespace Go.Proofs.YtpjmapoiinjakaaGreatDoor.Ps
open Lx
set_option linter.unusedVariables false
/-- A node: kind, number, text, names, kids, place. -/
structure Nd where
  k : Nat := 0
  n : Nat := 0
  t : List UInt8 := []
  names : List (List UInt8) := []
  kids : List Nat := []
  a : Nat := 0
  deriving DecidableEq
/-- Where a reader is: tokens ahead, nodes behind, whether it failed, and where. -/
structure St where
  toks : List Tk
  nodes : List Nd
  failed : Bool
  at_ : Nat
abbrev M (α : Type) := St → α × St
def bad : Tk := ⟨6, [], 0, 0, false, 0⟩
def nxt (s : St) : Tk := s.toks.headD bad
def mark (s : St) : List UInt8 := if (nxt s).k = 4 ∨ (nxt s).k = 5 then (nxt s).t else []
def skip : M Tk := fun s => (nxt s, if 1 < s.toks.length then { s with toks := s.toks.tail } else s)
def take (m : List UInt8) : M Bool := fun s => if mark s = m then (true, (skip s).2) else (false, s)
def add (n : Nd) : M Nat := fun s => (s.nodes.length, { s with nodes := s.nodes ++ [n] })
def fail : M Nat := fun s => add {} (if s.failed then s else { s with failed := true, at_ := (nxt s).a, toks := [bad] })
def want (m : List UInt8) : M Unit := fun s => match take m s with
  | (true, s) => ((), s)
  | (false, s) => ((), (fail s).2)
def textOf (kinds : List Nat) : M (List UInt8) := fun s => if (nxt s).k ∈ kinds then ((nxt s).t, (skip s).2) else ([], (fail s).2)
def name : M (List UInt8) := textOf [3]
def over (n : Nd) (kids : List Nat) : M Nat := fun s => add { n with kids := kids, a := (s.nodes.getD (kids.headD 0) {}).a } s
/-- Items with a comma between, up to what ends them. -/
def itemsLoop {α : Type} (item : M α) : Nat → List α → M (List α)
  | 0, l => fun s => (l, s)
  | f + 1, l => fun s => match take [44] s with
    | (false, s) => (l, s)
    | (true, s) => itemsLoop item f (l ++ [(item s).1]) (item s).2
def items {α : Type} (behind : List UInt8) (item : M α) : M (List α) := fun s => match take behind s with
  | (true, s) => ([], s)
  | (false, s) =>
    let r := itemsLoop item (item s).2.toks.length [(item s).1] (item s).2
    (r.1, (want behind r.2).2)
/-- Parts with signs of one level between. -/
def chainLoop (lv : List UInt8 → Option Nd) (sub : M Nat) : Nat → Nat → M Nat
  | 0, left => fun s => (left, s)
  | f + 1, left => fun s => match lv (mark s) with
    | none => (left, s)
    | some n =>
      let r := sub (skip s).2
      let o := over n [left, r.1] r.2
      chainLoop lv sub f o.1 o.2
def chain (part : M Nat) : List (List UInt8 → Option Nd) → M Nat
  | [] => part
  | lv :: row => fun s =>
    let r := chain part row s
    chainLoop lv (chain part row) r.2.toks.length r.1 r.2
def logic (sign : List UInt8) (k : Nat) : List UInt8 → Option Nd := fun m => if m = sign then some { k := k } else none
def binary (l : List (List UInt8)) : List UInt8 → Option Nd := fun m => if m ∈ l then some { k := 15, t := m } else none
def logics : List (List UInt8 → Option Nd) := [logic [124, 124] 17, logic [38, 38] 16]
def binaries : List (List UInt8 → Option Nd) := [binary [[61, 61, 61], [33, 61, 61]], binary [[60], [60, 61], [62], [62, 61]], binary [[43], [45]], binary [[42], [47], [37]]]
/-- What may lie within: an e, a u, a p, a statement. -/
structure Lv where
  e : M Nat
  u : M Nat
  p : M Nat
  s : M Nat
def isTarget (k : Nat) : Bool := k == 3 || k == 11 || k == 12
def choice (L : Lv) : M Nat := fun s =>
  let f := chain (chain L.u binaries) logics s
  match take [63] f.2 with
  | (false, s) => (f.1, s)
  | (true, s) =>
    let y := L.e s
    let w := want [58] y.2
    let z := L.e w.2
    over { k := 18 } [f.1, y.1, z.1] z.2
def anyExpr (L : Lv) : M Nat := fun s =>
  match take [121, 105, 101, 108, 100] s with
  | (true, s') => let r := L.e s'; add { k := 20, a := (nxt s).a, kids := [r.1] } r.2
  | (false, s') =>
    let t := choice L s'
    if isTarget (t.2.nodes.getD t.1 {}).k then
      match take [61] t.2 with
      | (false, s) => (t.1, s)
      | (true, s) => let r := L.e s; over { k := 19 } [t.1, r.1] r.2
    else t
def anyUnary (L : Lv) : M Nat := fun s =>
  if mark s = [33] ∨ mark s = [45] ∨ mark s = [116, 121, 112, 101, 111, 102] then
    let x := skip s
    let r := L.u x.2
    add { k := 14, t := x.1.t, a := x.1.a, kids := [r.1] } r.2
  else L.p s
def leaf (n : Nd) : M Nat := fun s => let x := skip s; add { n with a := x.1.a } x.2
def inParens (L : Lv) : M Nat := fun s =>
  let r := L.e (want [40] s).2
  (r.1, (want [41] r.2).2)
def closes (s : St) : Bool := decide (mark s = [125]) || decide ((nxt s).k = 0)
def statementsLoop (L : Lv) : Nat → List Nat → M (List Nat)
  | 0, l => fun s => (l, s)
  | f + 1, l => fun s => if !s.failed && !closes s then let r := L.s s; statementsLoop L f (l ++ [r.1]) r.2 else (l, s)
def statements (L : Lv) : M (List Nat) := fun s => statementsLoop L (s.toks.length + 1) [] s
def body (L : Lv) : M (List Nat) := fun s =>
  let r := statements L (want [123] s).2
  (r.1, (want [125] r.2).2)
def func (L : Lv) (named : Bool) : M Nat := fun s =>
  let x := skip s
  let g := take [42] x.2
  let nm := if named || (nxt g.2).k = 3 then name g.2 else ([], g.2)
  let ps := items [41] name (want [40] nm.2).2
  let b := body L ps.2
  add { k := 10, n := if g.1 then 1 else 0, t := nm.1, names := ps.1, kids := b.1, a := x.1.a } b.2
def pair (L : Lv) : M (List UInt8 × Nat) := fun s =>
  let n := textOf [3, 4, 2] s
  let r := L.e (want [58] n.2).2
  ((n.1, r.1), r.2)
def alone (L : Lv) : M Nat := fun s =>
  let x := nxt s
  if x.k = 1 then leaf { k := 1, n := x.n } s
  else if x.k = 2 then leaf { k := 2, t := x.t } s
  else if x.k = 3 then leaf { k := 3, t := x.t } s
  else
    let m := mark s
    if m = [116, 114, 117, 101] then leaf { k := 4, n := 1 } s
    else if m = [102, 97, 108, 115, 101] then leaf { k := 4 } s
    else if m = [110, 117, 108, 108] then leaf { k := 5 } s
    else if m = [117, 110, 100, 101, 102, 105, 110, 101, 100] then leaf { k := 6 } s
    else if m = [116, 104, 105, 115] then leaf { k := 7 } s
    else if m = [40] then inParens L s
    else if m = [91] then
      let x := skip s
      let l := items [93] L.e x.2
      add { k := 9, a := x.1.a, kids := l.1 } l.2
    else if m = [123] then
      let x := skip s
      let l := items [125] (pair L) x.2
      add { k := 8, a := x.1.a, names := l.1.map (·.1), kids := l.1.map (·.2) } l.2
    else if m = [102, 117, 110, 99, 116, 105, 111, 110] then func L false s
    else fail s
def primaryLoop (L : Lv) : Nat → Nat → M Nat
  | 0, p => fun s => (p, s)
  | f + 1, p => fun s => match take [46] s with
    | (true, s) =>
      let t := textOf [3, 4] s
      let o := over { k := 11, t := t.1 } [p] t.2
      primaryLoop L f o.1 o.2
    | (false, s) => match take [91] s with
      | (true, s) =>
        let w := L.e s
        let o := over { k := 12 } [p, w.1] (want [93] w.2).2
        primaryLoop L f o.1 o.2
      | (false, s) => match take [40] s with
        | (true, s) =>
          let w := items [41] L.e s
          let o := over { k := 13 } (p :: w.1) w.2
          primaryLoop L f o.1 o.2
        | (false, s) => (p, s)
def primary (L : Lv) : M Nat := fun s =>
  let p := alone L s
  primaryLoop L p.2.toks.length p.1 p.2
def endS : M Unit := fun s => match take [59] s with
  | (true, s) => ((), s)
  | (false, s) => if !closes s && !(nxt s).ln then ((), (fail s).2) else ((), s)
def block (L : Lv) : M Nat := fun s => let b := body L s; add { k := 25, a := (nxt s).a, kids := b.1 } b.2
def inner (L : Lv) : M Nat := fun s =>
  if mark s = [108, 101, 116] ∨ mark s = [99, 111, 110, 115, 116] ∨ mark s = [102, 117, 110, 99, 116, 105, 111, 110] then fail s else L.s s
def ifS (L : Lv) : M Nat := fun s =>
  let x := skip s
  let c := inParens L x.2
  let y := inner L c.2
  match take [101, 108, 115, 101] y.2 with
  | (true, s) => let z := inner L s; add { k := 26, a := x.1.a, kids := [c.1, y.1, z.1] } z.2
  | (false, s) => add { k := 26, a := x.1.a, kids := [c.1, y.1] } s
def whileS (L : Lv) : M Nat := fun s =>
  let x := skip s
  let c := inParens L x.2
  let y := inner L c.2
  add { k := 27, a := x.1.a, kids := [c.1, y.1] } y.2
def jump (k : Nat) : M Nat := fun s => let x := skip s; add { k := k, a := x.1.a } (endS x.2).2
def returnS (L : Lv) : M Nat := fun s =>
  let x := skip s
  if !(nxt x.2).ln && !decide (mark x.2 = [59]) && !closes x.2 then
    let r := L.e x.2
    add { k := 30, a := x.1.a, kids := [r.1] } (endS r.2).2
  else add { k := 30, a := x.1.a } (endS x.2).2
def throwS (L : Lv) : M Nat := fun s =>
  let x := skip s
  if (nxt x.2).ln then fail x.2
  else
    let r := L.e x.2
    add { k := 31, a := x.1.a, kids := [r.1] } (endS r.2).2
def tryS (L : Lv) : M Nat := fun s =>
  let x := skip s
  let f := block L x.2
  let n := name (want [40] (want [99, 97, 116, 99, 104] f.2).2).2
  let g := block L (want [41] n.2).2
  add { k := 32, t := n.1, a := x.1.a, kids := [f.1, g.1] } g.2
def binding (L : Lv) (k : Nat) : M Nat := fun s =>
  let x := skip s
  let n := name x.2
  let r := L.e (want [61] n.2).2
  add { k := k, t := n.1, a := x.1.a, kids := [r.1] } (endS r.2).2
def definition (L : Lv) : M Nat := fun s => let f := func L true s; add { k := 23, a := (nxt s).a, kids := [f.1] } f.2
def exprS (L : Lv) : M Nat := fun s => let r := L.e s; over { k := 24 } [r.1] (endS r.2).2
def anyStatement (L : Lv) : M Nat := fun s =>
  let m := mark s
  if m = [123] then block L s
  else if m = [105, 102] then ifS L s
  else if m = [119, 104, 105, 108, 101] then whileS L s
  else if m = [98, 114, 101, 97, 107] then jump 28 s
  else if m = [99, 111, 110, 116, 105, 110, 117, 101] then jump 29 s
  else if m = [114, 101, 116, 117, 114, 110] then returnS L s
  else if m = [116, 104, 114, 111, 119] then throwS L s
  else if m = [116, 114, 121] then tryS L s
  else if m = [108, 101, 116] then binding L 21 s
  else if m = [99, 111, 110, 115, 116] then binding L 22 s
  else if m = [102, 117, 110, 99, 116, 105, 111, 110] then definition L s
  else exprS L s
/-- So many parts may yet lie within one another. -/
def lv : Nat → Lv
  | 0 => ⟨fail, fail, fail, fail⟩
  | d + 1 => ⟨anyExpr (lv d), anyUnary (lv d), primary (lv d), anyStatement (lv d)⟩
/-- A program's tree, or where there is no program any more. -/
def parse (src : List UInt8) : List Nd × Nat × Bool :=
  if 4096 < src.length then ([], 0, false)
  else
    let r := statements (lv 40) ⟨Lx.all src, [], false, 0⟩
    let s := if (nxt r.2).k = 0 then r.2 else (fail r.2).2
    let s := (add { k := 33, kids := r.1 } s).2
    if s.failed then ([], s.at_, false) else (s.nodes, 0, true)
end Go.Proofs.YtpjmapoiinjakaaGreatDoor.Ps
end
section
namespace Go.Proofs.YtpjmapoiinjakaaGreatDoor.R
open Go.RowKit
open L (TokAt tkA own_block own_below intOf cells5h)
set_option linter.unusedVariables false
/-- Tokens lie from a place of a block on. -/
def TokIn (W : World) (v : Value) (L : List Lx.Tk) : Prop := ∃ (g off cap : Nat), v = .slice (some ⟨g, off, none⟩) L.length cap ∧ L.length ≤ cap ∧ cap ≤ 9223372036854775807 ∧ g < W.heap.size ∧ 1 ≤ L.length ∧ ∀ j (h : j < L.length), TokAt W g (off + j * 5) L[j]
def blockOf : Value → Option Nat
  | .slice (some a) _ _ => some a.block
  | _ => none
/-- Numbers, texts in a row that is never written again. -/
def KidsIn (W : World) (v : Value) (l : List Nat) : Prop := ∃ (ad : Option Addr) (cap : Nat), v = .slice ad l.length cap ∧ l.length ≤ cap ∧ (l = [] ∨ ∃ g, ad = some ⟨g, 0, none⟩ ∧ g < W.heap.size ∧ ∀ j (h : j < l.length), W.cell? ⟨g, j, none⟩ = some (.int .i64 (l[j] : Int)))
def NamesIn (W : World) (v : Value) (l : List (List UInt8)) : Prop := ∃ (ad : Option Addr) (cap : Nat), v = .slice ad l.length cap ∧ l.length ≤ cap ∧ (l = [] ∨ ∃ g, ad = some ⟨g, 0, none⟩ ∧ g < W.heap.size ∧ ∀ j (h : j < l.length), W.cell? ⟨g, j, none⟩ = some (.string ⟨l[j].toArray⟩))
/-- What of a value's block may not be written: it is neither the reader's nor the nodes' own. -/
def Apart (F : Nat → Prop) (B : Nat) (nv v : Value) : Prop := ∀ k, blockOf v = some k → k ≠ B ∧ nv.ownBlock ≠ some k ∧ ¬ F k
/-- A node's six cells. -/
abbrev ndA (n : Ps.Nd) (nm kd : Value) : Array Value := #[.int .i64 (n.k : Int), .int .i64 (n.n : Int), .string ⟨n.t.toArray⟩, nm, kd, .int .i64 (n.a : Int)]
/-- What a node needs: its names, its kids. -/
structure NdIn (F : Nat → Prop) (W : World) (B : Nat) (nv : Value) (n : Ps.Nd) (nm kd : Value) : Prop where
  names : NamesIn W nm n.names
  kids : KidsIn W kd n.kids
  anm : Apart F B nv nm
  akd : Apart F B nv kd
  lnm : ∀ k, blockOf nm = some k → k < W.heap.size
  lkd : ∀ k, blockOf kd = some k → k < W.heap.size
/-- The nodes' values of names and of kids, in a row. -/
def ndCells (ns : List (Ps.Nd × Value × Value)) : List Value := ns.flatMap fun x => (ndA x.1 x.2.1 x.2.2).toList
/-- What the reader's functions leave of the world: all but the reader's block and the nodes' own. -/
structure Chg (B : Nat) (nv nv' : Value) (w w' : World) : Prop where
  os : w'.os = w.os
  tape : w'.tape = w.tape
  output : w'.output = w.output
  size : w.heap.size ≤ w'.heap.size
  block : ∀ k, k < w.heap.size → k ≠ B → nv.ownBlock ≠ some k → w'.heap[k]? = w.heap[k]?
  fresh : ∀ k, nv'.ownBlock = some k → nv.ownBlock = some k ∨ w.heap.size ≤ k
theorem Chg.refl (B : Nat) (nv : Value) (w : World) : Chg B nv nv w w := ⟨rfl, rfl, rfl, Nat.le_refl _, fun _ _ _ _ => rfl, fun _ h => .inl h⟩
theorem Chg.trans {B : Nat} {a b c : Value} {w w1 w2 : World} (h : Chg B a b w w1) (k : Chg B b c w1 w2) : Chg B a c w w2 where
  os := k.os.trans h.os
  tape := k.tape.trans h.tape
  output := k.output.trans h.output
  size := Nat.le_trans h.size k.size
  block := fun j h1 h2 h3 => (k.block j (Nat.lt_of_lt_of_le h1 h.size) h2 (fun e => by
    rcases h.fresh j e with e | e
    · exact h3 e
    · omega)).trans (h.block j h1 h2 h3)
  fresh := fun j e => by
    rcases k.fresh j e with e | e
    · exact h.fresh j e
    · exact .inr (Nat.le_trans h.size e)
theorem Chg.below {B : Nat} (nv : Value) {w w' : World} (h : Below w.heap.size w w') : Chg B nv nv w w' := ⟨h.os, h.tape, h.output, h.size, fun k hk _ _ => h.block k hk, fun _ h => .inl h⟩
theorem Chg.toBelow {B b : Nat} {nv nv' : Value} {w w' : World} (h : Chg B nv nv' w w') (hB : b ≤ B) (hn : ∀ k, nv.ownBlock = some k → b ≤ k) (hw : b ≤ w.heap.size) : Below b w w' :=
  ⟨h.os, h.tape, h.output, h.size, fun k hk => h.block k (by omega) (by omega) (fun e => by have := hn k e; omega)⟩
theorem cell_of_block {W W' : World} {g : Nat} (h : W'.heap[g]? = W.heap[g]?) (j : Nat) : W'.cell? ⟨g, j, none⟩ = W.cell? ⟨g, j, none⟩ := by
  unfold World.cell?; rw [h]
/-- What is apart stays. -/
theorem Apart.go {F : Nat → Prop} {B : Nat} {nv nv' v : Value} {w w' : World} (h : Apart F B nv v) (hl : ∀ k, blockOf v = some k → k < w.heap.size) (c : Chg B nv nv' w w') : Apart F B nv' v := fun k hk =>
  ⟨(h k hk).1, fun e => by
    rcases c.fresh k e with e | e
    · exact (h k hk).2.1 e
    · have := hl k hk; omega, (h k hk).2.2⟩
theorem KidsIn.lt {W : World} {v : Value} {l : List Nat} (h : KidsIn W v l) (hl : l ≠ []) : ∀ k, blockOf v = some k → k < W.heap.size := fun k hk => by
  obtain ⟨ad, cap, rfl, _, h⟩ := h
  obtain ⟨g, rfl, h1, _⟩ := h.resolve_left hl
  have : g = k := by simpa [blockOf] using hk
  omega
theorem KidsIn.go {F : Nat → Prop} {B : Nat} {nv nv' v : Value} {w w' : World} {l : List Nat} (h : KidsIn w v l) (ha : Apart F B nv v) (c : Chg B nv nv' w w') : KidsIn w' v l := by
  obtain ⟨ad, cap, rfl, hc, h⟩ := h
  refine ⟨ad, cap, rfl, hc, ?_⟩
  rcases h with h | ⟨g, rfl, h1, h2⟩
  · exact .inl h
  · have hg := ha g rfl
    exact .inr ⟨g, rfl, Nat.lt_of_lt_of_le h1 c.size, fun j hj => (cell_of_block (c.block g h1 hg.1 hg.2.1) j).trans (h2 j hj)⟩
theorem NamesIn.go {F : Nat → Prop} {B : Nat} {nv nv' v : Value} {w w' : World} {l : List (List UInt8)} (h : NamesIn w v l) (ha : Apart F B nv v) (c : Chg B nv nv' w w') : NamesIn w' v l := by
  obtain ⟨ad, cap, rfl, hc, h⟩ := h
  refine ⟨ad, cap, rfl, hc, ?_⟩
  rcases h with h | ⟨g, rfl, h1, h2⟩
  · exact .inl h
  · have hg := ha g rfl
    exact .inr ⟨g, rfl, Nat.lt_of_lt_of_le h1 c.size, fun j hj => (cell_of_block (c.block g h1 hg.1 hg.2.1) j).trans (h2 j hj)⟩
theorem TokIn.go {F : Nat → Prop} {B : Nat} {nv nv' v : Value} {w w' : World} {l : List Lx.Tk} (h : TokIn w v l) (ha : Apart F B nv v) (c : Chg B nv nv' w w') : TokIn w' v l := by
  obtain ⟨g, off, cap, rfl, h1, h2, h3, h4, h5⟩ := h
  have hg := ha g rfl
  have hb := c.block g h3 hg.1 hg.2.1
  refine ⟨g, off, cap, rfl, h1, h2, Nat.lt_of_lt_of_le h3 c.size, h4, fun j hj => ?_⟩
  obtain ⟨c0, c1, c2, c3, c4⟩ := h5 j hj
  exact ⟨(cell_of_block hb _).trans c0, (cell_of_block hb _).trans c1, (cell_of_block hb _).trans c2, (cell_of_block hb _).trans c3, (cell_of_block hb _).trans c4⟩
/-- The reader at B, its nodes' value nv, in a state; F: blocks that are other ones', in which none of it lies. -/
structure RS (F : Nat → Prop) (base B dep : Nat) (st : Ps.St) (nv : Value) (W : World) : Prop where
  hB : base ≤ B
  few : st.toks.length ≤ 100000
  last : ∀ T, st.toks.getLast? = some T → T.k = 0 ∨ T.k = 6
  rd : ∃ tv, W.heap[B]? = some (.cells #[tv, nv, .int .i64 (dep : Int), .bool st.failed, .int .i64 (st.at_ : Int)] 57 (0, 0)) ∧ TokIn W tv st.toks ∧ Apart F B nv tv
  nd : ∃ vs : List (Ps.Nd × Value × Value), vs.map (·.1) = st.nodes ∧ W.ownsRow base 43 6 nv vs.length (ndCells vs) ∧ ∀ x ∈ vs, NdIn F W B nv x.1 x.2.1 x.2.2
  own : nv.ownBlock ≠ some B
  far : ∀ k, F k → k < W.heap.size ∧ k ≠ B ∧ nv.ownBlock ≠ some k
theorem NdIn.go {F : Nat → Prop} {B : Nat} {nv nv' nm kd : Value} {w w' : World} {n : Ps.Nd} (h : NdIn F w B nv n nm kd) (c : Chg B nv nv' w w') : NdIn F w' B nv' n nm kd :=
  ⟨h.names.go h.anm c, h.kids.go h.akd c, h.anm.go h.lnm c, h.akd.go h.lkd c, fun k hk => Nat.lt_of_lt_of_le (h.lnm k hk) c.size, fun k hk => Nat.lt_of_lt_of_le (h.lkd k hk) c.size⟩
/-- A world that has turned nothing old keeps the reader. -/
theorem RS.below {F : Nat → Prop} {base B dep : Nat} {st : Ps.St} {nv : Value} {W W' : World} (h : RS F base B dep st nv W) (hb : Below W.heap.size W W') : RS F base B dep st nv W' := by
  have c := Chg.below (B := B) nv hb
  obtain ⟨tv, h1, h2, h3⟩ := h.rd
  obtain ⟨vs, e, ho, hn⟩ := h.nd
  have hlt : B < W.heap.size := Nat.lt_of_not_le fun hg => by rw [Array.getElem?_eq_none hg] at h1; cases h1
  exact ⟨h.hB, h.few, h.last, ⟨tv, (hb.block B hlt).trans h1, h2.go h3 c, h3⟩, ⟨vs, e, own_below ho hb, fun x hx => (hn x hx).go c⟩, h.own, fun k hk => ⟨Nat.lt_of_lt_of_le (h.far k hk).1 hb.size, (h.far k hk).2⟩⟩
set_option maxRecDepth 100000 in
set_option maxHeartbeats 1000000 in
theorem next_any {F : Nat → Prop} {base B dep : Nat} {st : Ps.St} {nv : Value} {w : World} (h : RS F base B dep st nv w) :
    Calls Tryz.prog 22 #[.pointer (some ⟨B, 0, none⟩)] w fun e w' => e = .returned (.agg (tkA (Ps.nxt st))) ∧ Below w.heap.size w w' := by
  obtain ⟨tv, h1, ⟨g, off, cap, rfl, hc, hcap, hg, hne, ht⟩, h3⟩ := h.rd
  obtain ⟨c0, c1, c2, c3, c4⟩ := ht 0 hne
  obtain ⟨T, L, e⟩ : ∃ T L, st.toks = T :: L := by
    cases hs : st.toks with
    | nil => rw [hs] at hne; simp at hne
    | cons T L => exact ⟨T, L, rfl⟩
  have hT : st.toks[0] = T := by simp [e]
  rw [hT] at c0 c1 c2 c3 c4
  have hN : Ps.nxt st = T := by unfold Ps.nxt; rw [e]; rfl
  rw [hN]
  obtain ⟨q0, q1, q2, q3, q4, f0, f1, f2, f3, f4, hlt⟩ := cells5h h1
  have hlen : (0 : Int) < st.toks.length := by omega
  simp only [Nat.zero_mul, Nat.add_zero] at c0 c1 c2 c3 c4
  clear ht hN hT e h3 h
  obtain ⟨tk, tt, tn, ta, tl, te⟩ := T
  simp only at c0 c1 c2 c3 c4
  generalize st.toks.length = n at *
  go_enter Tryz.func22, Tryz.ntmps22
  go_wp2_with fail
  refine bodyPost_ret (v := .agg #[.int .i64 (tk : Int), .string ⟨tt.toArray⟩, .int .i64 (tn : Int), .int .i64 (ta : Int), .bool tl]) (by simp [results, Tryz.results22, go_sem, *]) rfl ⟨rfl, ?_⟩
  repeat (first | with_reducible exact Below.refl _ _ | (with_reducible refine Below.drew ?_) | (with_reducible refine Below.setCell ?_ (by first | exact Nat.le_refl _ | omega | simp) _) | (with_reducible refine Below.alloc ?_ (by first | exact Nat.le_refl _ | omega | simp | (simp; omega)) _))
end Go.Proofs.YtpjmapoiinjakaaGreatDoor.R
end
