-- PROVED: 'Put' and 'All' of package frame.
import Derived.Test.YtmjmlccdgdakdaaFRecord
import Derived.BigRegion
namespace Go.Proofs.Ytmjmlccdgdakdaa.F
open Go.RowKit
theorem Try.info9 : (Try.prog.info? 9).map (fun i => (i.zero, i.size, i.bytes)) = some (some (.string ⟨#[]⟩), 1, 16) := by kernel_rfl
def texts (L : List (List UInt8)) : List Value := L.map fun t => .string ⟨t.toArray⟩
theorem texts_snoc (L : List (List UInt8)) (t : List UInt8) : texts L ++ [.string ⟨t.toArray⟩] = texts (L ++ [t]) := by simp [texts]
/-- What Put answers (3.1). -/
def putE (t : List UInt8) : List UInt8 × Nat := if 4096 < t.length then ([], 6) else (Fm.put t, 0)
theorem cat_eq (a b : List UInt8) : (⟨a.toArray⟩ : ByteArray) ++ ⟨b.toArray⟩ = ⟨(a ++ b).toArray⟩ := by
  apply ByteArray.ext
  simp [ByteArray.data_append]
theorem mk_size (a : List UInt8) : (⟨a.toArray⟩ : ByteArray).size = a.length := by simp [ByteArray.size]
set_option maxRecDepth 100000 in
set_option maxHeartbeats 400000 in
theorem put_any (s : ByteArray) (w : World) :
    Calls Try.prog 43 #[.string s] w fun e w' => e = .returned (.tuple #[.string ⟨(putE s.data.toList).1.toArray⟩, .int .i64 ((putE s.data.toList).2 : Int)]) ∧ Below w.heap.size w w' := by
  have hsz := V.size_list s
  by_cases h : 4096 < s.size
  · have HV : Hid (putE s.data.toList = ([], 6)) := (show putE s.data.toList = ([], 6) from by unfold putE; rw [if_pos (by omega)])
    clear hsz
    go_enter Try.func43, Try.ntmps43
    go_wp2_with fail
    go_ret2
    exact ⟨by rw [HV.out]; rfl, Below.refl _ _⟩
  · have HV : Hid (putE s.data.toList = (Fm.put s.data.toList, 0)) := (show putE s.data.toList = (Fm.put s.data.toList, 0) from by unfold putE; rw [if_neg (by omega)])
    have HA : Hid (_) := fun W => V.put_any (s.size : Int) W (by omega) (by omega)
    have HB : Hid (_) := fun W => C.put_any s W (by omega)
    have HC : Hid (_) := cat_eq (Vn.put (s.size : Int)) (Cm.put s.data.toList)
    have h2 : (⟨(Vn.put (s.size : Int)).toArray⟩ : ByteArray).size ≤ 10 := by rw [mk_size]; exact (Vn.put_len _).2
    have h3 : (⟨(Cm.put s.data.toList).toArray⟩ : ByteArray).size ≤ 4100 := by rw [mk_size, Cm.put_length]; omega
    have HP : Hid (Fm.put s.data.toList = Vn.put (s.size : Int) ++ Cm.put s.data.toList) := (show Fm.put s.data.toList = Vn.put (s.size : Int) ++ Cm.put s.data.toList from by unfold Fm.put; rw [hsz])
    clear hsz
    generalize (⟨(Vn.put (s.size : Int)).toArray⟩ : ByteArray) = A at HA HC h2
    generalize (⟨(Cm.put s.data.toList).toArray⟩ : ByteArray) = B at HB HC h3
    go_enter Try.func43, Try.ntmps43
    go_wp2_with fail
    refine Calls.mono (HA.out _) ?_
    rintro e w1 ⟨rfl, hb1⟩
    go_wp2_with fail
    refine Calls.mono (HB.out _) ?_
    rintro e w2 ⟨rfl, hb2⟩
    go_wp2_with fail
    go_ret2
    exact ⟨by rw [HV.out, HC.out, HP.out]; rfl, hb1.trans (hb2.mono hb1.size)⟩
def intOf : Value → Int | .int _ q => q | _ => 0
theorem own_below {w w1 : World} {base size n : Nat} {e : TypeId} {v : Value} {xs : List Value} (h : w.ownsRow base e size v n xs) (hb : Below w.heap.size w w1) : w1.ownsRow base e size v n xs := by
  obtain ⟨h0, h1⟩ := h
  refine ⟨h0, ?_⟩
  rcases h1 with h1 | ⟨g, cap, cur, h1, h2, h3, h4⟩
  · exact .inl h1
  · refine .inr ⟨g, cap, cur, h1, h2, ?_, h4⟩
    have hg : g < w.heap.size := by
      rcases Nat.lt_or_ge g w.heap.size with hg | hg
      · exact hg
      · rw [Array.getElem?_eq_none hg] at h3; cases h3
    rw [hb.block g hg]; exact h3
theorem one_cell2 (w : World) (o : Obj) (x : Value) (t : TypeId) : ∀ j u, [x][j]? = some u → ((w.alloc o).alloc (.cells #[x] t)).cell? ((⟨w.heap.size + 1, 0, none⟩ : Addr).add j) = some u := by
  have := V.one_cell (w.alloc o) x t
  rw [alloc_size] at this
  exact this
theorem later_cell {wr w1 w2 : World} {a b c : Value} {t t2 : TypeId} {x : Value} {v : Value} {base : Nat} (hg : ((w1.alloc (.cells #[a, b, c] t)).alloc (.cells #[x] t2)).grownBy w2 v.ownBlock) (hl : ∀ k, v.ownBlock = some k → base ≤ k ∧ k < wr.heap.size) (hs : wr.heap.size ≤ w1.heap.size) :
    w2.cell? ⟨w1.heap.size, 1, none⟩ = some b := by
  have h1 := World.cell?_of_block (a := ⟨w1.heap.size, 1, none⟩) (hg.block w1.heap.size (by simp; omega) (fun h => by have := (hl _ h.symm).2; omega))
  rw [h1, ((Below.refl _ _).alloc (Nat.le_refl _) _).cell (by simp)]
  simp
set_option maxRecDepth 100000 in
set_option maxHeartbeats 1000000 in
theorem all_any (s : ByteArray) (w : World) (hs : s.size ≤ 1000000) :
    Calls Try.prog 34 #[.string s] w fun e w' => ∃ v, e = .returned (.tuple #[v, .int .i64 ((Fm.all s.data.toList).2.1 : Int), .int .i64 ((Fm.all s.data.toList).2.2 : Int)]) ∧
      w'.ownsRow w.heap.size 9 1 v (Fm.all s.data.toList).1.length (texts (Fm.all s.data.toList).1) ∧ Below w.heap.size w w' := by
  obtain ⟨i0, hi, hz0, hz1, hz2⟩ := info_parts Try.info9
  have hsz := V.size_list s
  have HREC : Hid (_) := fun p W hp => record_any s p W (by omega) hp
  go_enter Try.func34, Try.ntmps34
  go_wp2_with fail
  go_loopw [2, 3] (fun v u wr => ∃ (L : List (List UInt8)) (p : Nat), u = .int .i64 (p : Int) ∧ p ≤ s.size ∧ L.length ≤ p ∧ wr.ownsRow w.heap.size 9 1 v L.length (texts L) ∧ Below w.heap.size w wr ∧
      Hid (Fm.all s.data.toList = (L ++ (Fm.all (s.data.toList.drop p)).1, p + (Fm.all (s.data.toList.drop p)).2.1, (Fm.all (s.data.toList.drop p)).2.2))) (fun _ u _ => ((s.size : Int) - intOf u).toNat)
  case atStart => exact ⟨[], 0, rfl, by omega, by simp, World.ownsRow_nil _ _ _ _, Below.refl _ _, (show Fm.all s.data.toList = ([] ++ (Fm.all (s.data.toList.drop 0)).1, 0 + (Fm.all (s.data.toList.drop 0)).2.1, (Fm.all (s.data.toList.drop 0)).2.2) from by simp)⟩
  case round =>
    obtain ⟨L, p, rfl, hp, hL, hown, hbel, HALL⟩ := hrel
    by_cases hlt : p < s.size
    · have hR := fun W => HREC.out p W hp
      have hdl : (s.data.toList.drop p).length = s.size - p := by rw [List.length_drop, hsz]
      have hne : s.data.toList.drop p ≠ [] := fun h => by rw [h] at hdl; simp at hdl; omega
      by_cases h0 : (Fm.one (s.data.toList.drop p)).2.2 = 0
      · have hr : Fm.rec_ s.data.toList p = ((Fm.one (s.data.toList.drop p)).1, p + (Fm.one (s.data.toList.drop p)).2.1, 0) := if_pos h0
        have hstep := Fm.all_step h0
        have hok := Fm.one_ok h0
        rw [hr] at hR
        generalize Fm.one (s.data.toList.drop p) = r at hR hstep hok
        obtain ⟨r0, r1, r2⟩ := r
        simp only [] at hR hstep hok
        have HNX : Hid (Fm.all s.data.toList = ((L ++ [r0]) ++ (Fm.all (s.data.toList.drop (p + r1))).1, (p + r1) + (Fm.all (s.data.toList.drop (p + r1))).2.1, (Fm.all (s.data.toList.drop (p + r1))).2.2)) :=
          (show Fm.all s.data.toList = ((L ++ [r0]) ++ (Fm.all (s.data.toList.drop (p + r1))).1, (p + r1) + (Fm.all (s.data.toList.drop (p + r1))).2.1, (Fm.all (s.data.toList.drop (p + r1))).2.2) from by
            rw [HALL.out, hstep, List.drop_drop]; simp; omega)
        have HR : Hid (_) := hR
        have hlt' : (p : Int) < s.size := by omega
        have hq : p + r1 ≤ s.size := by omega
        have hq5 : 5 ≤ r1 := by omega
        generalize hQ : p + r1 = Q at HR HNX hq
        have hpQ : (p : Int) < Q := by omega
        have hLQ : L.length + 1 ≤ Q := by omega
        have HT : Hid (_) := texts_snoc L r0
        clear hR hr hstep HALL h0 hsz HREC hdl hne hlt hok hQ hq5
        unfold textOf at HR
        have hsz1 := hbel.size
        go_wp2_with fail
        refine Calls.mono (HR.out _) ?_
        rintro e w1 ⟨rfl, hb1⟩
        have hown1 := own_below hown hb1
        have hsz2 := hb1.size
        have hbA := hbel.trans (hb1.mono hsz1)
        have hol := hown.lt
        clear hown hbel hb1
        go_wp2_with (at_builtin; refine wpList_append_own _ rfl _ _ 61 rfl w.heap.size 9 i0 (.string ⟨#[]⟩) 1 16 Try.underlying61 hi hz0 hz1 hz2 rfl (by decide) _ _ _ rfl ((hown1.alloc _).alloc _) ⟨w1.heap.size + 1, 0, none⟩ 1 1 [.string ⟨r0.toArray⟩] rfl rfl (one_cell2 _ _ _ _) (by intro u hu; simp at hu; subst hu; rfl) (by unfold maxLen; omega) (by omega) (by simp; omega) ?_; intro v2 w2 hown2 hgrow2 _; rw [HT.out] at hown2; have hnx := later_cell hgrow2 hol hsz2; have hb2 := ((hbA.alloc (by omega) _).alloc (by simp; omega) _).grown hgrow2 (by simp; omega) (V.own_row hown1); clear hgrow2 hown1 hbA hol)
        go_roundw
        case rel => exact ⟨L ++ [r0], Q, by go_num, hq, by simp; omega, by simpa using hown2, hb2, HNX⟩
        case measure => simp [intOf]; omega
      · have hr : Fm.rec_ s.data.toList p = ([], 0, (Fm.one (s.data.toList.drop p)).2.2) := if_neg h0
        have herr := Fm.all_err hne h0
        have HV : Hid (Fm.all s.data.toList = (L, p, (Fm.one (s.data.toList.drop p)).2.2)) := (show Fm.all s.data.toList = (L, p, (Fm.one (s.data.toList.drop p)).2.2) from by rw [HALL.out, herr]; simp)
        rw [hr] at hR
        generalize (Fm.one (s.data.toList.drop p)).2.2 = r at hR HV h0
        have HR : Hid (_) := hR
        have h0' : ¬ ((r : Int) = 0) := by omega
        have hlt' : (p : Int) < s.size := by omega
        clear hR hr herr HALL h0 hsz HREC hdl hne hlt
        unfold textOf at HR
        go_wp2_with fail
        refine Calls.mono (HR.out _) ?_
        rintro e w1 ⟨rfl, hb1⟩
        go_wp2_with fail
        go_region
        go_wp2_with fail
        go_ret3
        exact ⟨_, by rw [HV.out]; rfl, by rw [HV.out]; exact ((own_below hown hb1).alloc _).drew, ((hbel.trans (hb1.mono hbel.size)).alloc (Nat.le_trans hbel.size hb1.size) _).drew⟩
    · have hnlt : ¬ ((p : Int) < s.size) := by omega
      have hpe : p = s.size := by omega
      have HV : Hid (Fm.all s.data.toList = (L, p, 0)) := (show Fm.all s.data.toList = (L, p, 0) from by
        rw [HALL.out, List.drop_eq_nil_of_le (by rw [hsz]; omega), Fm.all_nil]; simp)
      clear HALL hsz HREC hlt hpe
      go_wp2_with fail
      go_ret3
      exact ⟨_, by rw [HV.out]; rfl, by rw [HV.out]; exact hown, hbel⟩
end Go.Proofs.Ytmjmlccdgdakdaa.F
