/- The reference's All by its contract. -/
import Derived.Test.YtbciecmikcloaaaDoorLRToken
namespace Go.Proofs.YtbciecmikcloaaaDoor.L
open Go.RowKit
set_option linter.unusedVariables false
theorem cells6h {w : World} {b : Nat} {x0 x1 x2 x3 x4 x5 : Value} {t : TypeId} (h : w.heap[b]? = some (.cells #[x0, x1, x2, x3, x4, x5] t (0, 0))) :
    w.cell? ⟨b, 0, none⟩ = some x0 ∧ w.cell? ⟨b, 1, none⟩ = some x1 ∧ w.cell? ⟨b, 2, none⟩ = some x2 ∧ w.cell? ⟨b, 3, none⟩ = some x3 ∧ w.cell? ⟨b, 4, none⟩ = some x4 ∧ w.cell? ⟨b, 5, none⟩ = some x5 := by
  refine ⟨?_, ?_, ?_, ?_, ?_, ?_⟩ <;> simp [World.cell?, h]
/-- One token more behind tokens of one's own, as a run of the append; what is not the row's block stays. -/
theorem tok_more2 {B : Nat} {w : World} {v : Value} {L : List Lx.Tk} (h : w.ownsRow B 24 5 v L.length (tkCells L)) (hB : B ≤ w.heap.size) (hl : L.length ≤ 1000000) (t : Lx.Tk) (ty : TypeId) :
    ∃ a cap w3, (Builtin.append_ #[30, 30] ty #[v, .slice (some ⟨w.heap.size, 0, none⟩) 1 1]).run Tryd.prog (w.alloc (.cells (tkA t) 24)) = .ok (.slice a (L.length + 1) cap) w3 ∧
      w3.ownsRow B 24 5 (.slice a (L.length + 1) cap) (L ++ [t]).length (tkCells (L ++ [t])) ∧ Below B w w3 ∧ (∀ b, b < w.heap.size → v.ownBlock ≠ some b → w3.heap[b]? = w.heap[b]?) := by
  obtain ⟨i0, hi, hz0, hz1, hz2⟩ := info_of infoTK
  have hb : Below w.heap.size w (w.alloc (.cells (tkA t) 24)) := (Below.refl _ _).alloc (Nat.le_refl _) _
  have hown := own_block h
  obtain ⟨v', w3, hr, ho, hg, _⟩ := run_append_own (P := Tryd.prog) (w.alloc (.cells (tkA t) 24)) B 30 ty 24 i0 _ 5 48 Tryd.underlying30 hi hz0 hz1 hz2 rfl (by decide) v L.length (tkCells L) (own_below h hb) ⟨w.heap.size, 0, none⟩ 1 1 (tkA t).toList rfl (by
      intro j u hj
      have hj5 : j < 5 := by
        rcases Nat.lt_or_ge j 5 with h | h
        · exact h
        · rw [List.getElem?_eq_none (by simpa using h)] at hj; cases hj
      obtain rfl | rfl | rfl | rfl | rfl : j = 0 ∨ j = 1 ∨ j = 2 ∨ j = 3 ∨ j = 4 := by omega
      all_goals (simp at hj; subst hj; simp [Addr.add])) (by intro u hu; simp at hu; rcases hu with rfl | rfl | rfl | rfl | rfl <;> rfl) (by unfold maxLen; omega) (by omega) (by simp; omega)
  obtain ⟨a, cap, rfl⟩ : ∃ a cap, v' = .slice a (L.length + 1) cap := by
    rcases ho.2 with ⟨_, e⟩ | ⟨g, cap, cur, e, _⟩
    · omega
    · exact ⟨_, _, e⟩
  rw [tkCells_snoc] at ho
  exact ⟨a, cap, w3, hr, by simpa using ho, (hb.mono hB).trans ((Below.refl _ _).grown hg (by simp; omega) fun k hk => (hown k hk).1), fun b h1 h2 => (hg.block b (by simp; omega) (fun e => h2 e.symm)).trans (hb.block b h1)⟩
set_option maxRecDepth 100000 in
set_option maxHeartbeats 4000000 in
theorem rAll_core (s : ByteArray) (w : World) (tk : Nat → Lx.Tk) (F : Nat → List Lx.Tk) (R : List Lx.Tk) (hs : s.size ≤ 1000000) (hR : F 0 = R)
    (HE : Hid (∀ p, p ≤ s.size → F p = if (tk p).k = 0 ∨ (tk p).k = 6 then [tk p] else tk p :: F (tk p).e))
    (HT : Hid (∀ p, p ≤ s.size → (tk p).e ≤ s.size ∧ ((tk p).k ≠ 0 → (tk p).k ≠ 6 → p < (tk p).e)))
    (HN : Hid (∀ (p : Nat) W, p ≤ s.size → Calls Tryd.prog 11 #[.string s, .int .i64 (p : Int)] W fun e w' => FoundT (tk p) e ∧ Below W.heap.size W w')) :
    Calls Tryd.prog 14 #[.string s] w fun e w' => ∃ v, e = .returned v ∧ w'.ownsRow w.heap.size 24 5 v R.length (tkCells R) ∧ Below w.heap.size w w' := by
  go_enter Tryd.func14, Tryd.ntmps14
  go_wp2_with fail
  go_loopw [3, 4] (fun v i W => ∃ (L : List Lx.Tk) (p cap : Nat) (a : Option Addr), p ≤ s.size ∧ v = .slice a L.length cap ∧ i = .int .i64 (p : Int) ∧ L.length ≤ p ∧ Hid (W.ownsRow w.heap.size 24 5 v L.length (tkCells L)) ∧ Hid (Below w.heap.size w W) ∧ Hid (L ++ F p = R)) (fun v _ _ => s.size + 1 - lenOf v)
  case atStart => exact ⟨[], 0, 0, none, by omega, rfl, rfl, by simp, (show World.ownsRow _ _ _ _ _ _ _ from World.ownsRow_nil _ _ _ _), (show Below _ _ _ from Below.refl _ _), (by show _ = _; rw [hR]; rfl)⟩
  case round =>
    obtain ⟨L, p, cap, a, hp, rfl, rfl, hLp, HO, HB, HL⟩ := hrel
    obtain ⟨ht1, ht2⟩ := HT.out p hp
    have HN' : Hid (_) := HN.out p wr hp
    have HF := HE.out p hp
    generalize hT : tk p = T at *
    obtain ⟨k, t, n, at', ln, e'⟩ := T
    simp only at ht1 ht2
    clear HN
    go_wp2_with fail
    refine Calls.mono HN'.out ?_
    rintro e w1 ⟨⟨E, rfl, hE⟩, hb1⟩
    simp only at hE
    have hO1 := own_below HO.out hb1
    have hB1 := HB.out.trans (hb1.mono HB.out.size)
    have hsz1 := hB1.size
    have hbF : Below w1.heap.size w1 (w1.alloc (.cells #[.int .i64 (k : Int), .string ⟨t.toArray⟩, .int .i64 (n : Int), .int .i64 (at' : Int), .bool ln, .int .i64 (E : Int)] 27)) := (Below.refl _ _).alloc (Nat.le_refl _) _
    obtain ⟨a2, cap2, w3, hr, ho, hb3, hkeep⟩ := tok_more2 (own_below hO1 hbF) (by rw [alloc_size]; omega) (by omega) ⟨k, t, n, at', ln, e'⟩ 30
    have hne : (Value.slice a L.length cap).ownBlock ≠ some w1.heap.size := fun e => by
      have := (own_block hO1 _ e).2; omega
    have hX3 := (hkeep w1.heap.size (by rw [alloc_size]; omega) hne).trans (show (w1.alloc (.cells #[.int .i64 (k : Int), .string ⟨t.toArray⟩, .int .i64 (n : Int), .int .i64 (at' : Int), .bool ln, .int .i64 (E : Int)] 27)).heap[w1.heap.size]? = some (.cells #[.int .i64 (k : Int), .string ⟨t.toArray⟩, .int .i64 (n : Int), .int .i64 (at' : Int), .bool ln, .int .i64 (E : Int)] 27 (0, 0)) from Array.getElem?_push_size)
    obtain ⟨u0, u1, u2, u3, u4, u5⟩ := cells6h hX3
    have HRn : Hid (_) := hr
    simp only [tkA] at HRn
    rw [alloc_size] at HRn
    have hBB : Hid (Below w.heap.size w w3) := (hB1.trans (hbF.mono hsz1)).trans hb3
    have hL1 : (L ++ [(⟨k, t, n, at', ln, e'⟩ : Lx.Tk)]).length = L.length + 1 := by simp
    have HO3 : Hid (w3.ownsRow w.heap.size 24 5 (.slice a2 (L.length + 1) cap2) (L ++ [(⟨k, t, n, at', ln, e'⟩ : Lx.Tk)]).length (tkCells (L ++ [(⟨k, t, n, at', ln, e'⟩ : Lx.Tk)]))) := ho
    have HLL : Hid (_) := HL.out
    clear HN' hb1 HO HB hr ho hb3 hkeep hne hX3 hbF hB1 hO1 HL hL1
    by_cases hk0 : k = 0
    · subst hk0
      rw [if_pos (by simp)] at HF
      have HR : Hid (w3.ownsRow w.heap.size 24 5 (.slice a2 (L.length + 1) cap2) R.length (tkCells R)) := by
        show World.ownsRow _ _ _ _ _ _ _
        rw [← HLL.out, HF]; exact HO3.out
      clear HE HT HF hT HO3 HLL hE
      go_wp2_with (at_builtin; refine wpList_append_run _ _ 30 rfl rfl _ _ _ _ rfl rfl HRn.out ?_)
      go_ret
      exact ⟨_, rfl, HR.out, hBB.out⟩
    by_cases hk6 : k = 6
    · subst hk6
      rw [if_pos (by simp)] at HF
      have HR : Hid (w3.ownsRow w.heap.size 24 5 (.slice a2 (L.length + 1) cap2) R.length (tkCells R)) := by
        show World.ownsRow _ _ _ _ _ _ _
        rw [← HLL.out, HF]; exact HO3.out
      clear HE HT HF hT HO3 HLL hE
      go_wp2_with (at_builtin; refine wpList_append_run _ _ 30 rfl rfl _ _ _ _ rfl rfl HRn.out ?_)
      go_ret
      exact ⟨_, rfl, HR.out, hBB.out⟩
    have b0 : ((k : Int) == 0) = false := by rw [beq_eq_false_iff_ne]; omega
    have b6 : ((k : Int) == 6) = false := by rw [beq_eq_false_iff_ne]; omega
    have hpe := ht2 hk0 hk6
    rw [if_neg (by simp [hk0, hk6])] at HF
    have HREST : Hid ((L ++ [⟨k, t, n, at', ln, e'⟩]) ++ F e' = R) := by
      show _ = _
      rw [← HLL.out, HF]; simp
    obtain rfl := hE hk6
    clear HE HT HF hT HLL hE ht2
    go_wp2_with (at_builtin; refine wpList_append_run _ _ 30 rfl rfl _ _ _ _ rfl rfl HRn.out ?_)
    go_roundw
    case rel =>
      exact ⟨L ++ [⟨k, t, n, at', ln, E⟩], E, cap2, a2, ht1, by simp, rfl, by simp; omega, HO3, hBB, HREST⟩
    case measure => simp [lenOf]; omega
theorem rAll_any (s : ByteArray) (w : World) (hs : s.size ≤ 1000000) :
    Calls Tryd.prog 14 #[.string s] w fun e w' => ∃ v, e = .returned v ∧ w'.ownsRow w.heap.size 24 5 v (Lx.all s.data.toList).length (tkCells (Lx.all s.data.toList)) ∧ Below w.heap.size w w' := by
  refine rAll_core s w (Lx.tok s.data.toList) (Lx.run s.data.toList (s.data.toList.length + 1)) _ hs rfl (fun p hp => Lx.all_step _ _ (by rw [size_list]; exact hp)) (fun p hp => ?_) (fun p W hp => ?_)
  · have := Lx.tok_ok s.data.toList p (by rw [size_list]; exact hp)
    rw [size_list] at this
    exact ⟨this.2.2.1, fun h1 h2 => Nat.lt_of_le_of_lt this.1 (this.2.2.2.2.1 h1 h2)⟩
  · have h := rtoken_any s (p : Int) W hs
    rw [show plc (p : Int) s.size = p by unfold plc; omega] at h
    exact h
end Go.Proofs.YtbciecmikcloaaaDoor.L
