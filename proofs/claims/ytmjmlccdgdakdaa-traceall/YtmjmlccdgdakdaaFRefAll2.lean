-- PROVED: the reference's 'AllFrames'.
import Derived.Test.YtmjmlccdgdakdaaFRefPutF
import Derived.Test.YtmjmlccdgdakdaaTMath2
import Derived.Test.YtmjmlccdgdakdaaTFramed
namespace Go.Proofs.Ytmjmlccdgdakdaa.Fm
theorem rec_put {l : List UInt8} {p q : Nat} {t : List UInt8} (h : rec_ l p = (t, q, 0)) : q = p + (put t).length := by
  unfold rec_ at h
  by_cases h0 : (one (l.drop p)).2.2 = 0
  · rw [if_pos h0] at h
    have h1 : (one (l.drop p)).1 = t := congrArg (·.1) h
    have h2 : p + (one (l.drop p)).2.1 = q := congrArg (·.2.1) h
    have hk := one_ok h0
    have hb := (one_back h0).1
    rw [h1] at hb
    rw [hb, List.length_take, ← h2]
    omega
  · rw [if_neg h0] at h
    exact absurd (congrArg (·.2.2) h) h0
end Go.Proofs.Ytmjmlccdgdakdaa.Fm
namespace Go.Proofs.Ytmjmlccdgdakdaa.F
theorem own_lenA {w : World} {base n : Nat} {e : TypeId} {v : Value} {xs : List Value} (h : w.ownsRow base e 1 v n xs) : ∃ ao cap, v = .slice ao n cap := by
  obtain ⟨_, h1⟩ := h
  rcases h1 with ⟨rfl, rfl⟩ | ⟨g, cap, cur, h1, _⟩
  · exact ⟨none, 0, rfl⟩
  · exact ⟨_, _, h1⟩
/-- Where each record ends. -/
def Marks (E : List Nat) (L : List (List UInt8)) (p : Nat) : Prop := E.length = L.length ∧ (∀ i, i < L.length → E[i]? = some (Fm.fin L i)) ∧ p = (Fm.puts L).length
theorem Marks.snoc {E : List Nat} {L : List (List UInt8)} {p q : Nat} {t : List UInt8} (h : Marks E L p) (hq : q = p + (Fm.put t).length) : Marks (E ++ [q]) (L ++ [t]) q := by
  obtain ⟨h1, h2, h3⟩ := h
  have hpq : q = (Fm.puts (L ++ [t])).length := by rw [Fm.puts_append, List.length_append, hq, h3]; simp [Fm.puts]
  refine ⟨by simp [h1], fun i hi => ?_, hpq⟩
  rw [List.length_append] at hi
  simp at hi
  by_cases hl : i < L.length
  · rw [List.getElem?_append_left (by omega), h2 i hl]
    unfold Fm.fin
    rw [List.take_append_of_le_length (by omega)]
  · have : i = L.length := by omega
    subst this
    rw [List.getElem?_append_right (by omega), h1, Nat.sub_self]
    unfold Fm.fin
    rw [List.take_of_length_le (by simp)]
    simp [hpq]
end Go.Proofs.Ytmjmlccdgdakdaa.F
namespace Go.Proofs.Ytmjmlccdgdakdaa.F
open Go.RowKit
attribute [local go_sem ↓] Go.wp_at_zero Go.wp_at_succ
theorem last_obj (w : World) (x : Obj) : (w.alloc x).heap[w.heap.size]? = some x := by
  show (w.heap.push x)[w.heap.size]? = some x
  simp
theorem two_second (w : World) (x y : Obj) : ((w.alloc x).alloc y).heap[w.heap.size + 1]? = some y := by
  rw [← alloc_size w x]; exact last_obj _ _
theorem two_first (w : World) (x y : Obj) : ((w.alloc x).alloc y).heap[w.heap.size]? = some x := by
  rw [((Below.refl (w.alloc x).heap.size (w.alloc x)).alloc (Nat.le_refl _) y).block _ (by rw [alloc_size]; omega)]; exact last_obj _ _
theorem Outs.fin0 {w W : World} {vL vE : Value} {L : List (List UInt8)} {E : List Nat} (h : Outs w W vL vE L E) (a b c : Value) :
    (((W.setCell ⟨w.heap.size, 0, none⟩ a).setCell ⟨w.heap.size, 1, none⟩ b).setCell ⟨w.heap.size, 2, none⟩ c).ownsRow w.heap.size 9 1 vL L.length (texts L) ∧
    (((W.setCell ⟨w.heap.size, 0, none⟩ a).setCell ⟨w.heap.size, 1, none⟩ b).setCell ⟨w.heap.size, 2, none⟩ c).ownsRow w.heap.size 3 1 vE E.length (ints E) ∧
    Below w.heap.size w (((W.setCell ⟨w.heap.size, 0, none⟩ a).setCell ⟨w.heap.size, 1, none⟩ b).setCell ⟨w.heap.size, 2, none⟩ c) := by
  have hl : ∀ g, vL.ownBlock = some g → g ≠ w.heap.size := fun g hg => by have := (h.ownL.lt g hg).1; omega
  have he : ∀ g, vE.ownBlock = some g → g ≠ w.heap.size := fun g hg => by have := (h.ownE.lt g hg).1; omega
  have h1 : W.ownsRow w.heap.size 9 1 vL L.length (texts L) := ⟨h.ownL.1, h.ownL.2.imp id fun ⟨g, cap, cur, h1, h2, h3⟩ => ⟨g, cap, cur, h1, by omega, h3⟩⟩
  have h2 : W.ownsRow w.heap.size 3 1 vE E.length (ints E) := ⟨h.ownE.1, h.ownE.2.imp id fun ⟨g, cap, cur, h1, h2, h3⟩ => ⟨g, cap, cur, h1, by omega, h3⟩⟩
  exact ⟨own_set (own_set (own_set h1 _ _ hl) _ _ hl) _ _ hl, own_set (own_set (own_set h2 _ _ he) _ _ he) _ _ he, ((h.bel.setCell (by simp) _).setCell (by simp) _).setCell (by simp) _⟩
theorem Outs.fin {w W : World} {vL vE : Value} {L : List (List UInt8)} {E : List Nat} (h : Outs w W vL vE L E) (x a b c : Value) :
    ((((W.setCell ⟨w.heap.size + 1, 2, none⟩ x).setCell ⟨w.heap.size, 0, none⟩ a).setCell ⟨w.heap.size, 1, none⟩ b).setCell ⟨w.heap.size, 2, none⟩ c).ownsRow w.heap.size 9 1 vL L.length (texts L) ∧
    ((((W.setCell ⟨w.heap.size + 1, 2, none⟩ x).setCell ⟨w.heap.size, 0, none⟩ a).setCell ⟨w.heap.size, 1, none⟩ b).setCell ⟨w.heap.size, 2, none⟩ c).ownsRow w.heap.size 3 1 vE E.length (ints E) ∧
    Below w.heap.size w ((((W.setCell ⟨w.heap.size + 1, 2, none⟩ x).setCell ⟨w.heap.size, 0, none⟩ a).setCell ⟨w.heap.size, 1, none⟩ b).setCell ⟨w.heap.size, 2, none⟩ c) := by
  have hl : ∀ g, vL.ownBlock = some g → g ≠ w.heap.size ∧ g ≠ w.heap.size + 1 := fun g hg => by have := (h.ownL.lt g hg).1; omega
  have he : ∀ g, vE.ownBlock = some g → g ≠ w.heap.size ∧ g ≠ w.heap.size + 1 := fun g hg => by have := (h.ownE.lt g hg).1; omega
  have h1 : W.ownsRow w.heap.size 9 1 vL L.length (texts L) := ⟨h.ownL.1, h.ownL.2.imp id fun ⟨g, cap, cur, h1, h2, h3⟩ => ⟨g, cap, cur, h1, by omega, h3⟩⟩
  have h2 : W.ownsRow w.heap.size 3 1 vE E.length (ints E) := ⟨h.ownE.1, h.ownE.2.imp id fun ⟨g, cap, cur, h1, h2, h3⟩ => ⟨g, cap, cur, h1, by omega, h3⟩⟩
  exact ⟨own_set (own_set (own_set (own_set h1 _ _ fun g hg => (hl g hg).2) _ _ fun g hg => (hl g hg).1) _ _ fun g hg => (hl g hg).1) _ _ fun g hg => (hl g hg).1,
    own_set (own_set (own_set (own_set h2 _ _ fun g hg => (he g hg).2) _ _ fun g hg => (he g hg).1) _ _ fun g hg => (he g hg).1) _ _ fun g hg => (he g hg).1,
    (((h.bel.setCell (by simp) _).setCell (by simp) _).setCell (by simp) _).setCell (by simp) _⟩
set_option maxRecDepth 100000 in
set_option maxHeartbeats 4000000 in
theorem rall_any (s : ByteArray) (w : World) (hs : s.size ≤ 1000000) :
    Calls Try.prog 37 #[.string s] w fun e w' => ∃ vL vE E, e = .returned (.agg #[vL, vE, .int .i64 ((Fm.all s.data.toList).2.2 : Int)]) ∧ E.length ≤ 1000000 ∧
      w'.ownsRow w.heap.size 9 1 vL (Fm.all s.data.toList).1.length (texts (Fm.all s.data.toList).1) ∧ w'.ownsRow w.heap.size 3 1 vE E.length (ints E) ∧ Marks E (Fm.all s.data.toList).1 (Fm.all s.data.toList).2.1 ∧ Below w.heap.size w w' := by
  obtain ⟨i9, hi9, hs0, hs1, hs2⟩ := info_parts Try.info9
  obtain ⟨i3, hi3, hz0, hz1, hz2⟩ := info_parts Try.info3
  have hsz := V.size_list s
  have HGET : Hid (_) := fun (p : Nat) W => V.rget_any s (p : Int) W (by unfold maxLen; omega)
  go_enter Try.func37, Try.ntmps37
  go_wp2_with fail
  go_loopw [4] (fun a wr => ∃ (vL vE : Value) (L : List (List UInt8)) (E : List Nat) (p : Nat), a = .int .i64 (p : Int) ∧ p ≤ s.size ∧ L.length ≤ p ∧ E.length ≤ p ∧ Marks E L p ∧ Hid (Outs w wr vL vE L E) ∧
      Hid (Fm.all s.data.toList = (L ++ (Fm.all (s.data.toList.drop p)).1, p + (Fm.all (s.data.toList.drop p)).2.1, (Fm.all (s.data.toList.drop p)).2.2))) (fun a _ => ((s.size : Int) - intOf a).toNat)
  case atStart =>
    refine ⟨.slice none 0 0, .slice none 0 0, [], [], 0, rfl, Nat.zero_le _, Nat.le_refl _, Nat.le_refl _, ⟨rfl, fun i hi => absurd hi (by simp), rfl⟩, ?_, (show Fm.all s.data.toList = ([] ++ (Fm.all (s.data.toList.drop 0)).1, 0 + (Fm.all (s.data.toList.drop 0)).2.1, (Fm.all (s.data.toList.drop 0)).2.2) from by simp)⟩
    exact (show Outs _ _ _ _ _ _ from ⟨((Below.refl w.heap.size w).alloc (Nat.le_refl _) _).alloc (by rw [alloc_size]; omega) _, two_first _ _ _, two_second _ _ _, World.ownsRow_nil _ _ _ _, World.ownsRow_nil _ _ _ _, fun g hg => by simp [Value.ownBlock] at hg, by rw [alloc_size, alloc_size]; omega⟩)
  case round =>
    obtain ⟨vL, vE, L, E, p, rfl, hp, hLp, hEp, hEnd, HO, HALL⟩ := hrel
    obtain ⟨aL, cL, rfl⟩ := own_lenA HO.out.ownL
    obtain ⟨aE, cE, rfl⟩ := own_lenA HO.out.ownE
    by_cases hlt : p < s.size
    · have hlt' : (p : Int) < s.size := by omega
      have HG : Hid (_) := fun W => HGET.out p W
      unfold V.numOf at HG
      have HREC : Hid (_) := Fm.rec_eq s.data.toList p (by rw [hsz]; exact hp)
      have hok := thenI_ok (l := s.data.toList) (p := p) (by rw [hsz]; exact hp)
      generalize Vn.get s.data.toList p = g at HG HREC hok
      obtain ⟨g0, g1, g2⟩ := g
      clear HGET
      have key : ∀ (r : Nat), r ≠ 0 → Fm.rec_ s.data.toList p = ([], 0, r) → Fm.all s.data.toList = (L, p, r) := fun r hr h => Fm.all_at_err HALL.out (by rw [hsz]; exact hlt) h hr
      by_cases h0 : g2 = 0
      · subst h0
        have hth : thenI (g0, g1, 0) = may g0 g1 := if_pos rfl
        by_cases h1 : g0 < 0 ∨ 4096 < g0
        · have hr : Fm.rec_ s.data.toList p = ([], 0, 4) := by
            rw [HREC.out, hth, show may g0 g1 = (0, 0, 4) from if_pos h1]
            simp
          have HV : Hid (_) := key 4 (by decide) hr
          clear hok key HREC HALL hr hsz hth
          have hd : (decide (g0 < 0) || decide (4096 < g0)) = true := by simpa using h1
          go_wp2_with fail
          refine Calls.mono (HG.out _) ?_
          rintro e w1 ⟨rfl, hb1⟩
          have HO1 : Hid (_) := (HO.out.go hb1).alloc (.cells #[.int .i64 g0, .int .i64 (g1 : Int), .int .i64 0] 65)
          obtain ⟨a0, a1, a2, a3, a4, a5, a6⟩ := blk3 HO1.out.res
          obtain ⟨b0, b1, b2, b3, b4, b5, b6⟩ := blk3 HO1.out.out
          clear hb1
          rcases h1 with h1 | h1
          · clear hd
            go_wp2_with fail
            obtain ⟨f1, f2, f3⟩ := HO1.out.fin (.int .i64 4) (.slice aL L.length cL) (.slice aE E.length cE) (.int .i64 4)
            refine bodyPost_ret (v := .agg #[.slice aL L.length cL, .slice aE E.length cE, .int .i64 4]) (by simp [results, Try.results37, go_sem, *]) rfl ⟨_, _, E, by rw [HV.out]; rfl, by omega, by rw [HV.out]; exact f1, f2, by rw [HV.out]; exact hEnd, f3⟩
          · have h1' : ¬ g0 < 0 := by omega
            clear hd
            go_wp2_with fail
            obtain ⟨f1, f2, f3⟩ := HO1.out.fin (.int .i64 4) (.slice aL L.length cL) (.slice aE E.length cE) (.int .i64 4)
            refine bodyPost_ret (v := .agg #[.slice aL L.length cL, .slice aE E.length cE, .int .i64 4]) (by simp [results, Try.results37, go_sem, *]) rfl ⟨_, _, E, by rw [HV.out]; rfl, by omega, by rw [HV.out]; exact f1, f2, by rw [HV.out]; exact hEnd, f3⟩
        · have hmay : may g0 g1 = (g0, g1, 0) := if_neg h1
          obtain ⟨n, rfl⟩ := Int.eq_ofNat_of_zero_le (show 0 ≤ g0 by omega)
          have hq : g1 ≤ s.size := by
            obtain ⟨n', q', e1, e2, e3⟩ := hok (by rw [hth, hmay])
            rw [hth, hmay] at e1
            have := congrArg (·.2.1) e1
            simp at this
            omega
          have hrec : Fm.rec_ s.data.toList p = Fm.from_ s.data.toList n g1 := by
            rw [HREC.out, hth, hmay]
            simp
          have h1a : ¬ ((n : Int) < 0) := by omega
          have h1b : ¬ (4096 < (n : Int)) := by omega
          clear hok hth hmay HREC h1
          by_cases h2 : s.size < g1 + n + 4
          · have hr : Fm.rec_ s.data.toList p = ([], 0, 3) := by
              rw [hrec]; unfold Fm.from_; rw [if_pos (by omega)]
            have HV : Hid (_) := key 3 (by decide) hr
            have h2' : (s.size : Int) - g1 < (n : Int) + 4 := by omega
            clear key HALL hr hsz hrec
            go_wp2_with fail
            refine Calls.mono (HG.out _) ?_
            rintro e w1 ⟨rfl, hb1⟩
            have HO1 : Hid (_) := (HO.out.go hb1).alloc (.cells #[.int .i64 (n : Int), .int .i64 (g1 : Int), .int .i64 0] 65)
            obtain ⟨a0, a1, a2, a3, a4, a5, a6⟩ := blk3 HO1.out.res
            obtain ⟨b0, b1, b2, b3, b4, b5, b6⟩ := blk3 HO1.out.out
            clear hb1
            go_wp2_with fail
            obtain ⟨f1, f2, f3⟩ := HO1.out.fin (.int .i64 3) (.slice aL L.length cL) (.slice aE E.length cE) (.int .i64 3)
            refine bodyPost_ret (v := .agg #[.slice aL L.length cL, .slice aE E.length cE, .int .i64 3]) (by simp [results, Try.results37, go_sem, *]) rfl ⟨_, _, E, by rw [HV.out]; rfl, by omega, by rw [HV.out]; exact f1, f2, by rw [HV.out]; exact hEnd, f3⟩
          · have h2' : ¬ ((s.size : Int) - g1 < (n : Int) + 4) := by omega
            have h2'' : (g1 : Int) + n + 4 ≤ s.size := by omega
            have hx : (s.extract g1 (g1 + n + 4)).data.toList = (s.data.toList.drop g1).take (n + 4) := by rw [Nat.add_assoc, V.extract_eq]
            have hX := fun W => C.rget_any (s.extract g1 (g1 + n + 4)) W (by simp [ByteArray.size_extract]; omega)
            rw [hx] at hX
            have hF : Fm.from_ s.data.toList n g1 = if (Cm.get ((s.data.toList.drop g1).take (n + 4))).2 = 0 then ((Cm.get ((s.data.toList.drop g1).take (n + 4))).1, g1 + n + 4, 0) else ([], 0, (Cm.get ((s.data.toList.drop g1).take (n + 4))).2) := by
              unfold Fm.from_; rw [if_neg (by omega)]
            rw [hF] at hrec
            have HX : Hid (_) := hX
            clear hX hF hx
            generalize Cm.get ((s.data.toList.drop g1).take (n + 4)) = x at hrec HX
            obtain ⟨x0, x1⟩ := x
            simp only [] at hrec HX
            by_cases h3 : x1 = 0
            · rw [if_pos h3] at hrec
              subst h3
              have hMK0 := Marks.snoc hEnd (Fm.rec_put hrec)
              obtain ⟨hnew, hq1, hq2⟩ := Fm.all_at_ok HALL.out (by omega) hrec
              rw [hsz] at hq2
              have HNEW : Hid (_) := hnew
              have HT : Hid (_) := texts_snoc L x0
              obtain ⟨q, hqe⟩ : ∃ q, g1 + n + 4 = q := ⟨_, rfl⟩
              rw [hqe] at hMK0
              have HMK : Hid (Marks (E ++ [q]) (L ++ [x0]) q) := hMK0
              clear hMK0
              rw [hqe] at HNEW hq1 hq2 HX
              have hqI : (g1 : Int) + n + 4 = (q : Int) := by omega
              have HI : Hid (_) := ints_snoc E q
              clear hnew hrec key HALL hsz
              go_wp2_with fail
              refine Calls.mono (HG.out _) ?_
              rintro e w1 ⟨rfl, hb1⟩
              have HO1 : Hid (_) := (HO.out.go hb1).alloc (.cells #[.int .i64 (n : Int), .int .i64 (g1 : Int), .int .i64 0] 65)
              obtain ⟨a0, a1, a2, a3, a4, a5, a6⟩ := blk3 HO1.out.res
              obtain ⟨b0, b1, b2, b3, b4, b5, b6⟩ := blk3 HO1.out.out
              clear hb1
              go_wp2_with fail
              refine Calls.mono (HX.out _) ?_
              rintro e w3 ⟨rfl, hb3⟩
              clear a0 a1 a2 a3 a4 a5 a6 b0 b1 b2 b3 b4 b5 b6
              have HO3 : Hid (_) := (HO1.out.go hb3).alloc (.cells #[.string ⟨x0.toArray⟩, .int .i64 0, .int .i64 0] 32)
              obtain ⟨b0, b1, b2, b3, b4, b5, b6⟩ := blk3 HO3.out.out
              obtain ⟨n0, n1, n2, n3, n4, n5, n6⟩ := blk3 (heap_below (heap_below (last_obj w1 _) hb3) ((Below.refl w3.heap.size w3).alloc (Nat.le_refl _) (.cells #[.string ⟨x0.toArray⟩, .int .i64 0, .int .i64 0] 32)))
              have HO4 : Hid (_) := HO3.out.alloc (.cells #[.string ⟨x0.toArray⟩] 9)
              have hsz4 := HO4.out.size
              clear hb3
              go_wp2_with (first
                | (at_builtin; refine wpList_append_own_at _ rfl _ _ 61 rfl (w.heap.size + 2) 9 i9 (.string ⟨#[]⟩) 1 16 Try.underlying61 hi9 hs0 hs1 hs2 rfl (by decide) _ _ _ rfl HO4.out.ownL ⟨w3.heap.size + 1, 0, none⟩ 1 1 [.string ⟨x0.toArray⟩] rfl rfl (one_cell2 _ _ _ _) (by intro u hu; simp at hu; subst hu; rfl) (by unfold maxLen; omega) (by omega) hsz4 ?_
                   intro v5 w5 hown5 hgrow5 _ hat5
                   have HO5 : Hid (_) := HO4.out.addL (t := x0) hgrow5 (by rw [← HT.out]; exact hown5) hat5
                   have ho5 := blk3 (HO4.out.outL hgrow5)
                   obtain ⟨aL5, cL5, rfl⟩ := own_lenA hown5
                   obtain ⟨c0, c1, c2, c3, c4, c5, c6⟩ := ho5
                   have hsz5 := (HO5.out.alloc (.cells #[.int .i64 (q : Int)] 3)).size
                   clear hown5 hgrow5 hat5)
                | (at_builtin; refine wpList_append_own_at _ rfl _ _ 81 rfl (w.heap.size + 2) 3 i3 (.int .i64 0) 1 8 Try.underlying81 hi3 hz0 hz1 hz2 rfl (by decide) _ _ _ rfl (HO5.out.alloc (.cells #[.int .i64 (q : Int)] 3)).ownE ⟨w5.heap.size, 0, none⟩ 1 1 [.int .i64 (q : Int)] rfl rfl (one_cell3 _ _ _ _ _) (by intro u hu; simp at hu; subst hu; rfl) (by unfold maxLen; omega) (by omega) hsz5 ?_
                   intro v6 w6 hown6 hgrow6 _ hat6
                   have HO7 : Hid (_) := (HO5.out.alloc (.cells #[.int .i64 (q : Int)] 3)).addE (t := q) hgrow6 (by rw [← HI.out]; exact hown6) hat6
                   have ho6 := blk3 ((HO5.out.alloc (.cells #[.int .i64 (q : Int)] 3)).outE hgrow6)
                   obtain ⟨aE6, cE6, rfl⟩ := own_lenA hown6
                   obtain ⟨d0, d1, d2, d3, d4, d5, d6⟩ := ho6
                   clear hown6 hgrow6 hat6))
              go_roundw
              case rel => exact ⟨_, _, L ++ [x0], E ++ [q], q, by go_num, hq2, by simp; omega, by simp; omega, HMK.out, HO7, HNEW⟩
              case measure => simp [intOf]; omega
            · have HV : Hid (_) := key x1 h3 (by rw [hrec, if_neg h3])
              have h3' : ¬ ((x1 : Int) = 0) := by omega
              clear key HALL hsz hrec h3
              obtain ⟨q, hqe⟩ : ∃ q, g1 + n + 4 = q := ⟨_, rfl⟩
              have hqI : (g1 : Int) + n + 4 = (q : Int) := by omega
              rw [hqe] at HX
              go_wp2_with fail
              refine Calls.mono (HG.out _) ?_
              rintro e w1 ⟨rfl, hb1⟩
              have HO1 : Hid (_) := (HO.out.go hb1).alloc (.cells #[.int .i64 (n : Int), .int .i64 (g1 : Int), .int .i64 0] 65)
              obtain ⟨a0, a1, a2, a3, a4, a5, a6⟩ := blk3 HO1.out.res
              obtain ⟨b0, b1, b2, b3, b4, b5, b6⟩ := blk3 HO1.out.out
              clear hb1
              go_wp2_with fail
              refine Calls.mono (HX.out _) ?_
              rintro e w3 ⟨rfl, hb3⟩
              clear a0 a1 a2 a3 a4 a5 a6 b0 b1 b2 b3 b4 b5 b6
              have HO3 : Hid (_) := (HO1.out.go hb3).alloc (.cells #[.string ⟨x0.toArray⟩, .int .i64 0, .int .i64 (x1 : Int)] 32)
              obtain ⟨a0, a1, a2, a3, a4, a5, a6⟩ := blk3 HO3.out.res
              obtain ⟨b0, b1, b2, b3, b4, b5, b6⟩ := blk3 HO3.out.out
              clear hb3
              go_wp2_with fail
              obtain ⟨f1, f2, f3⟩ := HO3.out.fin (.int .i64 (x1 : Int)) (.slice aL L.length cL) (.slice aE E.length cE) (.int .i64 (x1 : Int))
              refine bodyPost_ret (v := .agg #[.slice aL L.length cL, .slice aE E.length cE, .int .i64 (x1 : Int)]) (by simp [results, Try.results37, go_sem, *]) rfl ⟨_, _, E, by rw [HV.out], by omega, by rw [HV.out]; exact f1, f2, by rw [HV.out]; exact hEnd, f3⟩
      · have hr : Fm.rec_ s.data.toList p = ([], 0, g2) := by
          rw [HREC.out, show thenI (g0, g1, g2) = (0, 0, g2) from if_neg h0]
          simp [h0]
        have HV : Hid (_) := key g2 h0 hr
        have h0' : ¬ ((g2 : Int) = 0) := by omega
        clear hok key HREC HALL hr hsz
        go_wp2_with fail
        refine Calls.mono (HG.out _) ?_
        rintro e w1 ⟨rfl, hb1⟩
        have HO1 : Hid (_) := (HO.out.go hb1).alloc (.cells #[.int .i64 g0, .int .i64 (g1 : Int), .int .i64 (g2 : Int)] 65)
        obtain ⟨a0, a1, a2, a3, a4, a5, a6⟩ := blk3 HO1.out.res
        obtain ⟨b0, b1, b2, b3, b4, b5, b6⟩ := blk3 HO1.out.out
        clear hb1
        go_wp2_with fail
        obtain ⟨f1, f2, f3⟩ := HO1.out.fin (.int .i64 (g2 : Int)) (.slice aL L.length cL) (.slice aE E.length cE) (.int .i64 (g2 : Int))
        refine bodyPost_ret (v := .agg #[.slice aL L.length cL, .slice aE E.length cE, .int .i64 (g2 : Int)]) (by simp [results, Try.results37, go_sem, *]) rfl ⟨_, _, E, by rw [HV.out], by omega, by rw [HV.out]; exact f1, f2, by rw [HV.out]; exact hEnd, f3⟩
    · have hlt' : ¬ ((p : Int) < s.size) := by omega
      have HV : Hid (Fm.all s.data.toList = (L, p, 0)) := (show Fm.all s.data.toList = (L, p, 0) from by
        rw [HALL.out, List.drop_eq_nil_of_le (by rw [hsz]; omega), Fm.all_nil]; simp)
      clear HALL hsz HGET
      obtain ⟨a0, a1, a2, a3, a4, a5, a6⟩ := blk3 HO.out.res
      obtain ⟨b0, b1, b2, b3, b4, b5, b6⟩ := blk3 HO.out.out
      go_wp2_with fail
      obtain ⟨f1, f2, f3⟩ := HO.out.fin0 (.slice aL L.length cL) (.slice aE E.length cE) (.int .i64 0)
      refine bodyPost_ret (v := .agg #[.slice aL L.length cL, .slice aE E.length cE, .int .i64 0]) (by simp [results, Try.results37, go_sem, *]) rfl ?_
      refine ⟨.slice aL L.length cL, .slice aE E.length cE, by rw [HV.out]; rfl, E, by omega, by rw [HV.out]; exact f1, f2, by rw [HV.out]; exact hEnd, f3⟩
end Go.Proofs.Ytmjmlccdgdakdaa.F
