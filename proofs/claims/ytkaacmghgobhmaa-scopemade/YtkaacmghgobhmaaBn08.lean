/- Texts: QE QF QG. -/
import Derived.Test.YtkaacmghgobhmaaBn07
section
namespace Go.Proofs.Ytkaacmghgobhmaa.Rd
open Go.RowKit
open L (tkA own_block own_below intOf info_of size_list wpList_append_run Lies lies_alloc)
set_option linter.unusedVariables false
/-- Where the loop of one row's signs stands. -/
structure BiL (src : ByteArray) (F : Nat → Prop) (base B dep : Nat) (row : List (List UInt8)) (sub : Rp.Q Nat) (nv : Value) (w W : World) (b f k : Nat) (s1 : Rp.Rt) (r : Nat) (s' : Rp.Rt) : Prop where
  rs : ∃ nv1, RS src F base B dep s1 nv1 W ∧ Chg B nv nv1 w W
  rows : RowsAt F W b
  run : Rp.binLoop row sub f k s1 = (r, s') ∧ s1.toks.length ≤ f
  ix : s1.bad = false → k < s1.nodes.length
theorem sig_or : Rp.sigNode [124, 124] = { k := 17 } := rfl
theorem sig_and : Rp.sigNode [38, 38] = { k := 16 } := rfl
theorem sig_other {t : List UInt8} (h1 : ¬ t = [124, 124]) (h2 : ¬ t = [38, 38]) : Rp.sigNode t = { k := 15, t := t } := by unfold Rp.sigNode; rw [if_neg h1, if_neg h2]
section
variable {src : ByteArray} {base B dep : Nat} {s s' : Rp.Rt} {nv : Value} {w : World}
set_option maxRecDepth 100000 in
set_option maxHeartbeats 8000000 in
theorem c_bin {L : Rp.Lr} (hL : ∀ F, LvC src F base B dep L) (hP : LvP L) : ∀ (rest : List (List (List UInt8))) (i : Nat), Rp.rrows.drop i = rest → i ≤ 6 → ∀ {F : Nat → Prop} {s s' : Rp.Rt} {r : Nat} {nv : Value} {w : World}, Ru (Rp.bin L rest) s r s' → RS src F base B dep s nv w →
    Calls Try.prog 69 #[.pointer (some ⟨B, 0, none⟩), .int .i64 (i : Int)] w (Tells src F base B dep nv w s' (.int .i64 (r : Int)))
  | [], i, hi, hi6, F, s, s', r, nv, w, E, h => by
    have hi' : i = 6 := by
      have := congrArg List.length hi
      rw [List.length_drop] at this
      have h6 : Rp.rrows.length = 6 := rfl
      simp at this; omega
    subst hi'
    have HR : Hid (_) := rows_any w
    have R2 : Ru L.u s r s' := ⟨E.eq, E.small⟩
    have H : Hid (_) := h
    clear E h hi hi6
    go_enter Try.func69, Try.ntmps69
    go_wp2_with fail
    refine Calls.mono HR.out ?_
    rintro e w1 ⟨b, rfl, hb1, -⟩
    go_wp2_with fail
    refine Calls.mono ((hL _).u R2 (H.out.below hb1)) ?_
    rintro e w2 ⟨rfl, nv2, hr2, hc2⟩
    have hc1 := Chg.below (B := B) nv hb1
    go_wp2_with fail
    go_ret
    exact ⟨rfl, nv2, hr2, hc1.trans hc2⟩
  | row :: rest, i, hi, hi6, F, s, s', r, nv, w, E, h => by
    have hil : i < 6 := by
      rcases Nat.lt_or_ge i 6 with h | h
      · exact h
      · have : Rp.rrows.drop i = [] := List.drop_eq_nil_iff.2 h
        rw [this] at hi; cases hi
    have hrow : Rp.rrows[i]'hil = row := by
      have := List.getElem_cons_drop (show i < Rp.rrows.length from hil)
      rw [hi] at this; exact (List.cons.inj this).1
    have hrest : Rp.rrows.drop (i + 1) = rest := by
      rw [← List.tail_drop, hi]; rfl
    have IH : Hid (∀ (F : Nat → Prop) {s s' : Rp.Rt} {r : Nat} {nv : Value} {w : World}, Ru (Rp.bin L rest) s r s' → RS src F base B dep s nv w → Calls Try.prog 69 #[.pointer (some ⟨B, 0, none⟩), .int .i64 ((i : Int) + 1)] w (Tells src F base B dep nv w s' (.int .i64 (r : Int)))) := fun F {s s' r nv w} E h => by
      rw [show ((i : Int) + 1) = ((i + 1 : Nat) : Int) by omega]
      exact c_bin hL hP rest (i + 1) hrest (by omega) E h
    have hno : (i : Int) + 1 ≤ 6 := by omega
    have hm6 : ((i : Int) == 6) = false := by rw [beq_eq_false_iff_ne]; omega
    have hilt : (i : Int) < 6 := by omega
    have hi0 : (0 : Int) ≤ i := by omega
    have e := E.eq
    have hsm := E.small
    unfold Rp.bin at e
    rcases e1 : Rp.bin L rest s with ⟨x, s1⟩
    rw [e1] at e
    simp only at e
    have n1 : s1.nodes.length ≤ 1000000000 := gb (Rp.kp_binLoop Rp.pre_len row (Rp.kp_bin Rp.pre_len hP.gr rest) _ _) e hsm
    have R1 : Ru (Rp.bin L rest) s x s1 := ⟨e1, n1⟩
    have hix : s1.bad = false → x < s1.nodes.length := fun hb => by
      have := Rp.ix_bin hP.ix hP.gr hP.bd rest s
      rw [e1] at this; exact this hb
    have HR : Hid (_) := rows_any w
    have HRUN : Hid (Rp.binLoop row (Rp.bin L rest) s1.toks.length x s1 = (r, s')) := e
    have HSm : Hid (s'.nodes.length ≤ 1000000000) := hsm
    have HIX : Hid (_) := hix
    have H : Hid (_) := h
    have HROW : Hid (Rp.rrows[i]'hil = row) := hrow
    clear E h hi hi6 e hsm e1 n1 hix hrow hrest
    go_enter Try.func69, Try.ntmps69
    go_wp2_with fail
    refine Calls.mono HR.out ?_
    rintro e w1 ⟨b, rfl, hb1, hrw⟩
    have hr1 : RS src (fun k => F k ∨ (w.heap.size ≤ k ∧ k < w1.heap.size)) base B dep s nv w1 := H.out.grow hb1.size (fun k hk _ => hb1.block k hk) (fun k hk => by
      rcases hk with hk | hk
      · exact ⟨.inl hk, Nat.lt_of_lt_of_le (H.out.far k hk).1 hb1.size⟩
      · exact ⟨.inr hk.1, hk.2⟩)
    have hrw1 : RowsAt (fun k => F k ∨ (w.heap.size ≤ k ∧ k < w1.heap.size)) w1 b := ⟨.inr hrw.1, fun j hj => by
      obtain ⟨g, h1, h2, h3⟩ := hrw.2 j hj
      exact ⟨g, .inr h1, h2, h3⟩⟩
    have hF' : ∀ k, F k → (fun k => F k ∨ (w.heap.size ≤ k ∧ k < w1.heap.size)) k := fun k hk => .inl hk
    have hc1 := Chg.below (B := B) nv hb1
    generalize (fun k => F k ∨ (w.heap.size ≤ k ∧ k < w1.heap.size)) = F' at *
    have HRW1 : Hid (_) := hrw1
    have HR1 : Hid (_) := hr1
    have HC1 : Hid (_) := hc1
    have HFF : Hid (∀ k, F k → F' k) := hF'
    clear hr1 hrw1 hrw hb1 hc1 hF' HR
    go_wp2_with fail
    refine Calls.mono (IH.out F' R1 HR1.out) ?_
    rintro e w2 ⟨rfl, nv2, hr2, hc2⟩
    have HST : Hid (BiL src F' base B dep row (Rp.bin L rest) nv w w2 b s1.toks.length x s1 r s') := (show BiL _ _ _ _ _ _ _ _ _ _ _ _ _ _ _ _ from ⟨⟨nv2, hr2, HC1.out.trans hc2⟩, (show RowsAt F' w1 b from HRW1.out).go HR1.out hc2, ⟨HRUN.out, Nat.le_refl _⟩, HIX.out⟩)
    clear hr2 hc2 HRW1 HR1 HC1 HRUN HIX R1
    go_wp2_with fail
    go_loopg [6] (s1.toks.length) (fun f v W => ∃ (k : Nat) (t1 : Rp.Rt), v = .int .i64 (k : Int) ∧ Hid (BiL src F' base B dep row (Rp.bin L rest) nv w W b f k t1 r s'))
    case atStart => exact ⟨x, s1, rfl, HST⟩
    case round =>
      clear HST
      obtain ⟨k, t1, rfl, HI⟩ := hrel
      obtain ⟨⟨nv3, hr3, hc3⟩, hrw3, ⟨hrun, hf⟩, hix⟩ := HI.out
      have hg := hr3.gd
      obtain ⟨E, y, -, -, -, -, c0, c1, c2, c3, c4, c5, c6, c7, c8, c9, cf, hlt⟩ := hr3.cells
      obtain ⟨f, rfl⟩ : ∃ f', gk = f' + 1 := ⟨gk - 1, by have := hg.one; omega⟩
      obtain ⟨g, hFg, hcell, hlies⟩ := hrw3.2 i hil
      rw [HROW.out] at hcell hlies
      have hrl : row.length ≤ 4 := by
        rw [← HROW.out]
        have : ∀ R ∈ Rp.rrows, R.length ≤ 4 := by decide
        exact this _ (List.getElem_mem _)
      have hbl := (hr3.far b hrw3.1).1
      have HIN : Hid (∀ W, Below wr.heap.size wr W → Calls Try.prog 47 #[.slice (some ⟨g, 0, none⟩) row.length row.length, .string ⟨(Rp.nx t1).t.toArray⟩] W fun e w' => e = .returned (.bool (row.contains (Rp.nx t1).t)) ∧ w' = W) := fun W hW => Go.Proofs.Ytkaacmghgobhmaa.L.in_any g row.length row.length row ⟨(Rp.nx t1).t.toArray⟩ W (hlies.below hW) rfl (by omega) (Nat.le_refl _)
      by_cases hgo : (!t1.bad && decide ((Rp.nx t1).k = 5) && decide ((Rp.nx t1).t ∈ row)) = true
      · have hrun2 : Rp.binLoop row (Rp.bin L rest) f (Rp.put { Rp.sigNode (Rp.nx t1).t with kids := [k, (Rp.bin L rest (Rp.move t1)).1], a := ((Rp.bin L rest (Rp.move t1)).2.nodes.getD k {}).a } (Rp.bin L rest (Rp.move t1)).2).1 (Rp.put { Rp.sigNode (Rp.nx t1).t with kids := [k, (Rp.bin L rest (Rp.move t1)).1], a := ((Rp.bin L rest (Rp.move t1)).2.nodes.getD k {}).a } (Rp.bin L rest (Rp.move t1)).2).2 = (r, s') := by
          have h2 := hrun
          unfold Rp.binLoop at h2
          rw [if_pos hgo] at h2
          exact h2
        simp only [Bool.and_eq_true, Bool.not_eq_true', decide_eq_true_eq] at hgo
        obtain ⟨⟨hb0, hk5⟩, hmem⟩ := hgo
        rcases e2 : Rp.bin L rest (Rp.move t1) with ⟨y2, t3⟩
        rw [e2] at hrun2
        simp only at hrun2
        generalize hnd : ({ Rp.sigNode (Rp.nx t1).t with kids := [k, y2], a := (t3.nodes.getD k {}).a } : Ps.Nd) = nd at hrun2
        have n4 : (Rp.put nd t3).2.nodes.length ≤ 1000000000 := gb (Rp.kp_binLoop Rp.pre_len row (Rp.kp_bin Rp.pre_len hP.gr rest) _ _) hrun2 HSm.out
        have RP : Ru (Rp.put nd) t3 t3.nodes.length (Rp.put nd t3).2 := ⟨rfl, n4⟩
        have n3 := RP.back (Rp.pre_len.put _)
        have R3 : Ru (Rp.bin L rest) (Rp.move t1) y2 t3 := ⟨e2, n3⟩
        have n2 := R3.back (Rp.kp_bin Rp.pre_len hP.gr rest)
        have hon := Rp.on_move (r := t1) (by omega) (by omega) hg
        have hmb : (Rp.move t1).bad = t1.bad := by unfold Rp.move; split <;> rfl
        have hmn : (Rp.move t1).nodes = t1.nodes := by unfold Rp.move; split <;> rfl
        have hlt2 : (Rp.move t1).toks.length < t1.toks.length := by
          rcases hon.2 with hh | hh
          · rw [hmb, hb0] at hh; cases hh
          · exact hh
        have hle := ((Rp.kp_bin Rp.pre_dn hP.dn rest (Rp.move t1)).1 hon.1).2
        rw [e2] at hle
        simp only at hle
        have hkn : k < t3.nodes.length := by
          have h1 := hix hb0
          have h2 := Rp.kp_bin Rp.pre_len hP.gr rest (Rp.move t1)
          rw [e2, hmn] at h2
          exact Nat.lt_of_lt_of_le h1 h2
        have HK5 : Hid ((Rp.nx t1).k = 5) := hk5
        have hcont : row.contains (Rp.nx t1).t = true := List.contains_iff_mem.2 hmem
        rw [hcont] at HIN
        rw [hk5] at c1
        rw [hb0] at c9
        have HRW3 : Hid (_) := hrw3
        have HR3 : Hid (_) := hr3
        have HC3 : Hid (_) := hc3
        have HKN : Hid (_) := hkn
        have HEND : Hid (∀ nv5 W, RS src F' base B dep (Rp.put nd t3).2 nv5 W → Chg B nv nv5 w W → RowsAt F' W b → BiL src F' base B dep row (Rp.bin L rest) nv w W b f t3.nodes.length (Rp.put nd t3).2 r s') := fun nv5 W h1 h2 h3 => ⟨⟨nv5, h1, h2⟩, h3, ⟨hrun2, by show t3.toks.length ≤ f; omega⟩, fun _ => Rp.put_ix' _ _⟩
        have HND : Hid (_ = nd) := hnd
        clear hrun hf hix hg hr3 hc3 hrw3 HI hrun2 hb0 hk5 hmem e2 hnd n4 n3 n2 hon hmb hmn hlt2 hle hkn hcont hlies
        generalize (Rp.nx t1).t = tt at *
        generalize (Rp.put nd t3).2 = t4 at *
        go_upto_region 5 with fail
        go_quiet ((go_at_call 47; refine Calls.quiet_of_same (HIN.out _ (Go.Proofs.Ytkaacmghgobhmaa.L.below_drewN _ _ _))))
        have hbd := Go.Proofs.Ytkaacmghgobhmaa.L.below_drewN wr.heap.size wr nq
        have hr5 := HR3.out.below hbd
        have hc5 := HC3.out.trans (Chg.below nv3 hbd)
        have hrw5 := (show RowsAt F' wr b from HRW3.out).go HR3.out (Chg.below nv3 hbd)
        have c2' := (hbd.cell (p := ⟨B, 2, none⟩) hlt).trans c2
        have hlt5 := Nat.lt_of_lt_of_le hlt hbd.size
        generalize wr.drewN nq = w5 at *
        have HM : Hid (_) := move_any hr5 (by have := HK5.out; omega) (by have := HK5.out; omega)
        have HC5 : Hid (_) := hc5
        have HRW5 : Hid (RowsAt F' w5 b) := hrw5
        have HR5 : Hid (_) := hr5
        clear hbd hr5 hc5 hrw5 c0 c1 c2 c3 c4 c5 c6 c7 c8 c9 cf hlt hcell hbl HIN HR3 HC3 HRW3
        go_wp2_with fail
        refine Calls.mono HM.out ?_
        rintro e w6 ⟨rfl, nv6, hr6, hc6⟩
        have HRW6 : Hid (RowsAt F' w6 b) := (show RowsAt F' w5 b from HRW5.out).go HR5.out hc6
        have HC6 : Hid (_) := HC5.out.trans hc6
        have HR6 : Hid (_) := hr6
        clear hr6 hc6 HM HRW5 HR5 HC5 c2' hlt5
        go_wp2_with fail
        refine Calls.mono (IH.out F' R3 HR6.out) ?_
        rintro e w7 ⟨rfl, nv7, hr7, hc7⟩
        have HRW7 : Hid (RowsAt F' w7 b) := (show RowsAt F' w6 b from HRW6.out).go HR6.out hc7
        have HC7 : Hid (_) := HC6.out.trans hc7
        have HR7 : Hid (_) := hr7
        obtain ⟨gn, ncap, hnv, hncap, hgn, hpl⟩ := hr7.place HKN.out
        obtain ⟨-, -, -, -, -, -, -, -, -, -, -, -, -, d7, -, -, -, dlt⟩ := hr7.cells
        have hx1 : (k : Int) < t3.nodes.length := by have := HKN.out; omega
        have hx0 : (0 : Int) ≤ k := by omega
        have HNV : Hid (nv7 = _) := hnv
        rw [hnv] at d7
        clear hr7 hc7 hnv HRW6 HC6 HR6
        generalize (t3.nodes.getD k {}).a = ka at *
        generalize hnl : t3.nodes.length = nl at *
        have hbw : ∀ W2, Below (w7.alloc (.cells #[.int .i64 (k : Int), .int .i64 (y2 : Int)] 3)).heap.size (w7.alloc (.cells #[.int .i64 (k : Int), .int .i64 (y2 : Int)] 3)) W2 → Hid (Below (w7.alloc (.cells #[.int .i64 (k : Int), .int .i64 (y2 : Int)] 3)).heap.size (w7.alloc (.cells #[.int .i64 (k : Int), .int .i64 (y2 : Int)] 3)) W2) := fun W2 h => h
        have hkv : ∀ j (h : j < [k, y2].length), (#[Value.int .i64 (k : Int), .int .i64 (y2 : Int)] : Array Value)[j]? = some (.int .i64 (([k, y2][j] : Nat) : Int)) := fun j hj => by
          have : j = 0 ∨ j = 1 := by simp at hj; omega
          rcases this with rfl | rfl <;> rfl
        have HKV : Hid (_) := hkv
        clear hbw hkv
        by_cases h1 : tt = [124, 124]
        · subst h1
          have RP' : Ru (Rp.put { k := 17, n := 0, t := [], kids := [k, y2], a := ka }) t3 nl t4 := by
            have := HND.out
            rw [sig_or] at this
            rw [← this] at RP; exact RP
          clear HND RP
          go_wp2_with fail
          refine Calls.mono (c_putB (k := 17) (n := 0) (t := []) (K := [k, y2]) (a := ka) RP' HR7.out _ 2 rfl HKV.out (by repeat (first | with_reducible exact Below.refl _ _ | (with_reducible refine Below.setCell ?_ (by first | exact Nat.le_refl _ | omega | simp) _) | (with_reducible refine Below.alloc ?_ (by first | exact Nat.le_refl _ | omega | simp) _)))) ?_
          rintro e w8 ⟨rfl, nv8, hr8, hc8⟩
          have HEN : Hid (_) := HEND.out _ _ hr8 (HC7.out.trans hc8) ((show RowsAt F' w7 b from HRW7.out).go HR7.out hc8)
          clear hr8 hc8
          go_wp2_with fail
          go_roundg f
          case rel => exact ⟨nl, t4, rfl, HEN.out⟩
          case measure => omega
        have e1 : (tt == [124, 124]) = false := by simpa using h1
        by_cases h2 : tt = [38, 38]
        · subst h2
          have RP' : Ru (Rp.put { k := 16, n := 0, t := [], kids := [k, y2], a := ka }) t3 nl t4 := by
            have := HND.out
            rw [sig_and] at this
            rw [← this] at RP; exact RP
          clear HND RP
          go_wp2_with fail
          refine Calls.mono (c_putB (k := 16) (n := 0) (t := []) (K := [k, y2]) (a := ka) RP' HR7.out _ 2 rfl HKV.out (by repeat (first | with_reducible exact Below.refl _ _ | (with_reducible refine Below.setCell ?_ (by first | exact Nat.le_refl _ | omega | simp) _) | (with_reducible refine Below.alloc ?_ (by first | exact Nat.le_refl _ | omega | simp) _)))) ?_
          rintro e w8 ⟨rfl, nv8, hr8, hc8⟩
          have HEN : Hid (_) := HEND.out _ _ hr8 (HC7.out.trans hc8) ((show RowsAt F' w7 b from HRW7.out).go HR7.out hc8)
          clear hr8 hc8
          go_wp2_with fail
          go_roundg f
          case rel => exact ⟨nl, t4, rfl, HEN.out⟩
          case measure => omega
        have e2 : (tt == [38, 38]) = false := by simpa using h2
        have RP' : Ru (Rp.put { k := 15, n := 0, t := tt, kids := [k, y2], a := ka }) t3 nl t4 := by
          have := HND.out
          rw [sig_other h1 h2] at this
          rw [← this] at RP; exact RP
        clear HND RP h1 h2
        go_wp2_with fail
        refine Calls.mono (c_putB (k := 15) (n := 0) (t := tt) (K := [k, y2]) (a := ka) RP' HR7.out _ 2 rfl HKV.out (by repeat (first | with_reducible exact Below.refl _ _ | (with_reducible refine Below.setCell ?_ (by first | exact Nat.le_refl _ | omega | simp) _) | (with_reducible refine Below.alloc ?_ (by first | exact Nat.le_refl _ | omega | simp) _)))) ?_
        rintro e w8 ⟨rfl, nv8, hr8, hc8⟩
        have HEN : Hid (_) := HEND.out _ _ hr8 (HC7.out.trans hc8) ((show RowsAt F' w7 b from HRW7.out).go HR7.out hc8)
        clear hr8 hc8
        go_wp2_with fail
        go_roundg f
        case rel => exact ⟨nl, t4, rfl, HEN.out⟩
        case measure => omega
      · have hr : k = r ∧ t1 = s' := by
          unfold Rp.binLoop at hrun
          rw [if_neg hgo] at hrun
          cases hrun; exact ⟨rfl, rfl⟩
        obtain ⟨rfl, rfl⟩ := hr
        have hgo' : (!t1.bad && decide ((Rp.nx t1).k = 5) && decide ((Rp.nx t1).t ∈ row)) = false := by simpa using hgo
        have HOUT : Hid (∀ n, Leaves src F base B dep nv w t1 (wr.drewN n)) := fun n => ⟨nv3, (hr3.below (Go.Proofs.Ytkaacmghgobhmaa.L.below_drewN _ wr n)).less HFF.out, hc3.trans (Chg.below nv3 (Go.Proofs.Ytkaacmghgobhmaa.L.below_drewN _ wr n))⟩
        clear hrun hf hix hg hr3 hc3 hrw3 HI hgo hlies
        by_cases hb0 : t1.bad = true
        · rw [hb0] at c9
          clear hgo' hb0
          generalize Rp.nx t1 = T1 at *
          go_upto_region 5 with fail
          go_quiet (fail)
          go_wp2_with fail
          go_ret
          exact ⟨rfl, HOUT.out _⟩
        have hb1 : t1.bad = false := by simpa using hb0
        rw [hb1] at c9 hgo'
        by_cases hk5 : (Rp.nx t1).k = 5
        · have hcont : row.contains (Rp.nx t1).t = false := by
            rw [hk5] at hgo'
            cases hc : row.contains (Rp.nx t1).t
            · rfl
            · rw [List.contains_iff_mem] at hc
              rw [decide_eq_true hc] at hgo'; simp at hgo'
          rw [hcont] at HIN
          rw [hk5] at c1
          clear hgo' hb0 hb1 hk5 hcont
          generalize Rp.nx t1 = T1 at *
          go_upto_region 5 with fail
          go_quiet ((go_at_call 47; refine Calls.quiet_of_same (HIN.out _ (Go.Proofs.Ytkaacmghgobhmaa.L.below_drewN _ _ _))))
          go_wp2_with fail
          go_ret
          exact ⟨rfl, HOUT.out _⟩
        have e5 : (((Rp.nx t1).k : Int) == 5) = false := by rw [beq_eq_false_iff_ne]; omega
        clear hgo' hb0 hb1 hk5 HIN
        generalize Rp.nx t1 = T1 at *
        go_upto_region 5 with fail
        go_quiet (fail)
        go_wp2_with fail
        go_ret
        exact ⟨rfl, HOUT.out _⟩
end
end Go.Proofs.Ytkaacmghgobhmaa.Rd
end
section
namespace Go.Proofs.Ytkaacmghgobhmaa.Rd
open Go.RowKit
open L (tkA own_block own_below intOf info_of size_list wpList_append_run)
set_option linter.unusedVariables false
section
variable {src : ByteArray} {F : Nat → Prop} {base B dep : Nat} {s s' : Rp.Rt} {nv : Value} {w : World}
theorem c_bin0 {L : Rp.Lr} {r : Nat} (hL : ∀ F, LvC src F base B dep L) (hP : LvP L) (E : Ru (Rp.bin L Rp.rrows) s r s') (h : RS src F base B dep s nv w) :
    Calls Try.prog 69 #[.pointer (some ⟨B, 0, none⟩), .int .i64 0] w (Tells src F base B dep nv w s' (.int .i64 (r : Int))) := c_bin hL hP Rp.rrows 0 rfl (by omega) E h
theorem must_bad {m : List UInt8} {r : Rp.Rt} (h : (Rp.must m r).bad = false) : r.bad = false := by
  cases e : r.bad
  · rfl
  · have := Rp.kp_must Rp.pre_bad m r e; rw [h] at this; cases this
set_option maxRecDepth 100000 in
set_option maxHeartbeats 4000000 in
theorem c_cond {L : Rp.Lr} {r : Nat} (hL : ∀ F, LvC src F base B dep L) (hP : LvP L) (E : Ru (Rp.cond L) s r s') (h : RS src F base B dep s nv w) :
    Calls Try.prog 68 #[.pointer (some ⟨B, 0, none⟩)] w (Tells src F base B dep nv w s' (.int .i64 (r : Int))) := by
  have e := E.eq
  have hsm := E.small
  have hix := Rp.ix_bin hP.ix hP.gr hP.bd Rp.rrows s
  unfold Rp.cond at e
  rcases e1 : Rp.bin L Rp.rrows s with ⟨k, s1⟩
  rw [e1] at e hix
  simp only at e hix
  have H : Hid (_) := h
  by_cases hb : s1.bad = true
  · rw [if_pos hb] at e
    obtain ⟨rfl, rfl⟩ := Prod.mk.inj e
    have R1 : Ru (Rp.bin L Rp.rrows) s k s1 := ⟨e1, hsm⟩
    have HB : Hid (s1.bad = true) := hb
    clear e e1 E h hix hb
    go_enter Try.func68, Try.ntmps68
    go_wp2_with fail
    refine Calls.mono (c_bin0 hL hP R1 H.out) ?_
    rintro e w1 ⟨rfl, nv1, hr1, hc1⟩
    obtain ⟨-, -, -, -, -, -, c0, c1, c2, c3, c4, c5, c6, c7, c8, c9, cf, hlt⟩ := hr1.cells
    rw [HB.out] at c9
    have HR1 : Hid (_) := hr1
    have HC1 : Hid (_) := hc1
    clear hr1 hc1
    go_wp2_with fail
    go_ret
    exact ⟨rfl, nv1, HR1.out, HC1.out⟩
  rw [if_neg hb] at e
  have hb' : s1.bad = false := by simpa using hb
  cases e2 : Rp.has [63] s1 with
  | mk b s2 =>
  rw [e2] at e
  cases b
  · simp only at e
    obtain ⟨rfl, rfl⟩ := Prod.mk.inj e
    have n1 : s1.nodes.length ≤ 1000000000 := gb (Rp.kp_has Rp.pre_len _) e2 hsm
    have R1 : Ru (Rp.bin L Rp.rrows) s k s1 := ⟨e1, n1⟩
    have R2 := ru_has _ s1 n1 e2
    have HB : Hid (s1.bad = false) := hb'
    clear e e1 e2 E h hix hb hb' n1
    go_enter Try.func68, Try.ntmps68
    go_wp2_with fail
    refine Calls.mono (c_bin0 hL hP R1 H.out) ?_
    rintro e w1 ⟨rfl, nv1, hr1, hc1⟩
    obtain ⟨-, -, -, -, -, -, c0, c1, c2, c3, c4, c5, c6, c7, c8, c9, cf, hlt⟩ := hr1.cells
    rw [HB.out] at c9
    have HR1 : Hid (_) := hr1
    have HC1 : Hid (_) := hc1
    clear hr1 hc1
    go_wp2_with fail
    refine Calls.mono (c_has R2 HR1.out) ?_
    rintro e w2 ⟨rfl, nv2, hr2, hc2⟩
    go_wp2_with fail
    go_ret
    exact ⟨rfl, nv2, hr2, HC1.out.trans hc2⟩
  simp only at e
  rcases e3 : L.e s2 with ⟨a, s3⟩
  rw [e3] at e
  simp only at e
  rcases e4 : Rp.must [58] s3 with ⟨tk4, nd4, bd4⟩
  generalize hs4 : (⟨tk4, nd4, bd4⟩ : Rp.Rt) = s4 at e4
  rw [e4] at e
  by_cases hb4 : s4.bad = true
  · rw [if_pos hb4] at e
    obtain ⟨rfl, rfl⟩ := Prod.mk.inj e
    have R4 : Ru (up (Rp.must [58])) s3 () s4 := ⟨by unfold up; rw [e4], hsm⟩
    have n3 := R4.back (kp_up (Rp.kp_must Rp.pre_len _))
    have R3 : Ru L.e s2 a s3 := ⟨e3, n3⟩
    have n2 := R3.back hP.gr.e
    have n1 : s1.nodes.length ≤ 1000000000 := gb (Rp.kp_has Rp.pre_len _) e2 n2
    have R1 : Ru (Rp.bin L Rp.rrows) s k s1 := ⟨e1, n1⟩
    have R2 := ru_has _ s1 n1 e2
    have HB : Hid (s1.bad = false ∧ s4.bad = true) := (show _ ∧ _ from ⟨hb', hb4⟩)
    clear e e1 e2 e3 e4 E h hix hb hb' n1 n2 n3 hb4 hs4
    go_enter Try.func68, Try.ntmps68
    go_wp2_with fail
    refine Calls.mono (c_bin0 hL hP R1 H.out) ?_
    rintro e w1 ⟨rfl, nv1, hr1, hc1⟩
    obtain ⟨-, -, -, -, -, -, c0, c1, c2, c3, c4, c5, c6, c7, c8, c9, cf, hlt⟩ := hr1.cells
    rw [HB.out.1] at c9
    have HR1 : Hid (_) := hr1
    have HC1 : Hid (_) := hc1
    clear hr1 hc1
    go_wp2_with fail
    refine Calls.mono (c_has R2 HR1.out) ?_
    rintro e w2 ⟨rfl, nv2, hr2, hc2⟩
    clear c0 c1 c2 c3 c4 c5 c7 c9 cf hlt
    go_wp2_with fail
    refine Calls.mono ((hL _).e R3 hr2) ?_
    rintro e w3 ⟨rfl, nv3, hr3, hc3⟩
    go_wp2_with fail
    refine Calls.mono (c_must R4 hr3) ?_
    rintro e w4 ⟨rfl, nv4, hr4, hc4⟩
    obtain ⟨-, -, -, -, -, -, c0, c1, c2, c3, c4, c5, c6, c7, c8, c9, cf, hlt⟩ := hr4.cells
    rw [HB.out.2] at c9
    have HR4 : Hid (_) := hr4
    have HC4 : Hid (_) := ((HC1.out.trans hc2).trans hc3).trans hc4
    clear hr2 hc2 hr3 hc3 hr4 hc4 HR1 HC1
    go_wp2_with fail
    go_ret
    exact ⟨rfl, nv4, HR4.out, HC4.out⟩
  rw [if_neg hb4] at e
  have hb4' : s4.bad = false := by simpa using hb4
  rcases e5 : L.e s4 with ⟨b5, s5⟩
  rw [e5] at e
  simp only at e
  have R6 : Ru (Rp.put { k := 18, kids := [k, a, b5], a := (s5.nodes.getD k {}).a }) s5 r s' := ⟨e, hsm⟩
  have n5 := R6.back (Rp.pre_len.put _)
  have R5 : Ru L.e s4 b5 s5 := ⟨e5, n5⟩
  have n4 := R5.back hP.gr.e
  have R4 : Ru (up (Rp.must [58])) s3 () s4 := ⟨by unfold up; rw [e4], n4⟩
  have n3 := R4.back (kp_up (Rp.kp_must Rp.pre_len _))
  have R3 : Ru L.e s2 a s3 := ⟨e3, n3⟩
  have n2 := R3.back hP.gr.e
  have n1 : s1.nodes.length ≤ 1000000000 := gb (Rp.kp_has Rp.pre_len _) e2 n2
  have R1 : Ru (Rp.bin L Rp.rrows) s k s1 := ⟨e1, n1⟩
  have R2 := ru_has _ s1 n1 e2
  have hk5 : k < s5.nodes.length := by
    have h1 := hix hb'
    have h2 := hP.gr.e s2
    have h3 := Rp.kp_must Rp.pre_len [58] s3
    have h4 := hP.gr.e s4
    have h2 : s1.nodes.length ≤ (L.e s2).2.nodes.length := by rw [← (Rp.has_keep e2).1]; exact h2
    have h4 : s4.nodes.length ≤ (L.e s4).2.nodes.length := h4
    rw [e3] at h2
    rw [e4] at h3
    rw [e5] at h4
    exact Nat.lt_of_lt_of_le (Nat.lt_of_lt_of_le (Nat.lt_of_lt_of_le h1 h2) h3) h4
  have HB : Hid (s1.bad = false ∧ s4.bad = false) := (show _ ∧ _ from ⟨hb', hb4'⟩)
  have HK5 : Hid (k < s5.nodes.length) := hk5
  clear e e1 e2 e3 e4 e5 E h hix hb hb' n1 n2 n3 hb4 hs4 n4 n5 hk5 hb4'
  go_enter Try.func68, Try.ntmps68
  go_wp2_with fail
  refine Calls.mono (c_bin0 hL hP R1 H.out) ?_
  rintro e w1 ⟨rfl, nv1, hr1, hc1⟩
  obtain ⟨-, -, -, -, -, -, c0, c1, c2, c3, c4, c5, c6, c7, c8, c9, cf, hlt⟩ := hr1.cells
  rw [HB.out.1] at c9
  have HR1 : Hid (_) := hr1
  have HC1 : Hid (_) := hc1
  clear hr1 hc1
  go_wp2_with fail
  refine Calls.mono (c_has R2 HR1.out) ?_
  rintro e w2 ⟨rfl, nv2, hr2, hc2⟩
  clear c0 c1 c2 c3 c4 c5 c7 c9 cf hlt
  go_wp2_with fail
  refine Calls.mono ((hL _).e R3 hr2) ?_
  rintro e w3 ⟨rfl, nv3, hr3, hc3⟩
  go_wp2_with fail
  refine Calls.mono (c_must R4 hr3) ?_
  rintro e w4 ⟨rfl, nv4, hr4, hc4⟩
  obtain ⟨-, -, -, -, -, -, c0, c1, c2, c3, c4, c5, c6, c7, c8, c9, cf, hlt⟩ := hr4.cells
  rw [HB.out.2] at c9
  have HR4 : Hid (_) := hr4
  have HC4 : Hid (_) := ((HC1.out.trans hc2).trans hc3).trans hc4
  clear hr2 hc2 hr3 hc3 hr4 hc4 HR1 HC1
  go_wp2_with fail
  refine Calls.mono ((hL _).e R5 HR4.out) ?_
  rintro e w5 ⟨rfl, nv5, hr5, hc5⟩
  have HC5 : Hid (_) := HC4.out.trans hc5
  have HR5 : Hid (_) := hr5
  clear c0 c1 c2 c3 c4 c5 c7 c9 cf hlt
  obtain ⟨gn, ncap, hnv, hncap, hgn, hpl⟩ := hr5.place HK5.out
  obtain ⟨-, -, -, -, -, -, -, -, -, -, -, -, -, d7, -, -, -, dlt⟩ := hr5.cells
  have hx1 : (k : Int) < s5.nodes.length := by have := HK5.out; omega
  have hx0 : (0 : Int) ≤ k := by omega
  rw [hnv] at d7
  clear hr5 hc5 hnv HR4 HC4
  generalize (s5.nodes.getD k {}).a = ka at *
  generalize hnl : s5.nodes.length = nl at *
  go_wp2_with fail
  refine Calls.mono (c_putB (k := 18) (n := 0) (t := []) (K := [k, a, b5]) (a := ka) R6 HR5.out #[.int .i64 (k : Int), .int .i64 (a : Int), .int .i64 (b5 : Int)] 3 rfl (fun j hj => by
    have : j = 0 ∨ j = 1 ∨ j = 2 := by simp at hj; omega
    rcases this with rfl | rfl | rfl <;> rfl) (Below.refl _ _)) ?_
  rintro e w6 ⟨rfl, nv6, hr6, hc6⟩
  go_wp2_with fail
  go_ret
  exact ⟨rfl, nv6, hr6, HC5.out.trans hc6⟩
end
end Go.Proofs.Ytkaacmghgobhmaa.Rd
end
section
namespace Go.Proofs.Ytkaacmghgobhmaa.Rd
open Go.RowKit
open L (tkA own_block own_below intOf info_of size_list wpList_append_run)
set_option linter.unusedVariables false
theorem target_is {k : Nat} (h : Ps.isTarget k = true) : k = 3 ∨ k = 11 ∨ k = 12 := by
  unfold Ps.isTarget at h
  simp only [Bool.or_eq_true, beq_iff_eq] at h
  omega
theorem target_no {k : Nat} (h : ¬ Ps.isTarget k = true) : k ≠ 3 ∧ k ≠ 11 ∧ k ≠ 12 := by
  unfold Ps.isTarget at h
  simp only [Bool.or_eq_true, beq_iff_eq] at h
  omega
section
variable {src : ByteArray} {F : Nat → Prop} {base B dep : Nat} {s s' : Rp.Rt} {nv : Value} {w : World}
theorem RS.cl (h : RS src F base B dep s nv w) : w.cell? ⟨B, 0, none⟩ = some (.string src) ∧ w.cell? ⟨B, 1, none⟩ = some (.int .i64 ((Rp.nx s).k : Int)) ∧ w.cell? ⟨B, 2, none⟩ = some (.string ⟨(Rp.nx s).t.toArray⟩) ∧ w.cell? ⟨B, 3, none⟩ = some (.int .i64 ((Rp.nx s).n : Int)) ∧ w.cell? ⟨B, 4, none⟩ = some (.int .i64 ((Rp.nx s).a : Int)) ∧ w.cell? ⟨B, 5, none⟩ = some (.bool (Rp.nx s).ln) ∧ w.cell? ⟨B, 7, none⟩ = some nv ∧ w.cell? ⟨B, 9, none⟩ = some (.bool s.bad) ∧ (∀ i, w.frozen? ⟨B, i, none⟩ = false) ∧ B < w.heap.size := by
  obtain ⟨E, x, h0, h1, h2, h3, c0, c1, c2, c3, c4, c5, c6, c7, c8, c9, cf, hlt⟩ := h.cells
  exact ⟨c0, c1, c2, c3, c4, c5, c7, c9, cf, hlt⟩
set_option maxRecDepth 100000 in
set_option maxHeartbeats 4000000 in
theorem c_assign {L : Rp.Lr} {r : Nat} (hL : ∀ F, LvC src F base B dep L) (hP : LvP L) (E : Ru (Rp.assign L) s r s') (h : RS src F base B dep s nv w) :
    Calls Try.prog 67 #[.pointer (some ⟨B, 0, none⟩)] w (Tells src F base B dep nv w s' (.int .i64 (r : Int))) := by
  have e := E.eq
  have hsm := E.small
  have hn0 := E.back (Rp.kp_assign Rp.pre_len hP.gr)
  obtain ⟨c0, c1, c2, c3, c4, c5, c7, c9, cf, hlt⟩ := h.cl
  unfold Rp.assign at e
  simp only at e
  cases e1 : Rp.has [121, 105, 101, 108, 100] s with
  | mk b s1 =>
  rw [e1] at e
  have R1 := ru_has _ s hn0 e1
  have H : Hid (_) := h
  clear h E
  cases b
  · simp only at e
    have hix := Rp.ix_cond hP.ix hP.gr hP.bd s1
    rcases e2 : Rp.cond L s1 with ⟨k, s2⟩
    rw [e2] at e hix
    simp only at e hix
    by_cases hb : s2.bad = true
    · rw [if_pos hb] at e
      obtain ⟨rfl, rfl⟩ := Prod.mk.inj e
      have R2 : Ru (Rp.cond L) s1 k s2 := ⟨e2, hsm⟩
      have HB : Hid (s2.bad = true) := hb
      clear e e1 e2 hix hb hn0
      generalize Rp.nx s = T at *
      go_enter Try.func67, Try.ntmps67
      go_wp2_with fail
      refine Calls.mono (c_has R1 H.out) ?_
      rintro e w1 ⟨rfl, nv1, hr1, hc1⟩
      go_wp2_with fail
      refine Calls.mono (c_cond hL hP R2 hr1) ?_
      rintro e w2 ⟨rfl, nv2, hr2, hc2⟩
      clear c0 c1 c2 c3 c4 c5 c7 c9 cf hlt
      obtain ⟨c0, c1, c2, c3, c4, c5, c7, c9, cf, hlt⟩ := hr2.cl
      rw [HB.out] at c9
      have HR2 : Hid (_) := hr2
      have HC2 : Hid (_) := hc1.trans hc2
      clear hr1 hc1 hr2 hc2
      go_wp2_with fail
      go_ret
      exact ⟨rfl, nv2, HR2.out, HC2.out⟩
    rw [if_neg hb] at e
    have hb' : s2.bad = false := by simpa using hb
    have hk2 := hix hb'
    have n2 : s2.nodes.length ≤ 1000000000 := by
      by_cases ht : Ps.isTarget (s2.nodes.getD k {}).k = true
      · rw [if_pos ht] at e
        cases e3 : Rp.has [61] s2 with
        | mk b3 s3 =>
        rw [e3] at e
        cases b3
        · simp only at e; obtain ⟨rfl, rfl⟩ := Prod.mk.inj e; exact gb (Rp.kp_has Rp.pre_len _) e3 hsm
        · simp only at e
          have h1 := Rp.kp_has Rp.pre_len [61] s2
          have h2 := hP.gr.e s3
          have h3 := Rp.pre_len.put { k := 19, kids := [k, (L.e s3).1], a := ((L.e s3).2.nodes.getD k {}).a } (L.e s3).2
          rw [e3] at h1
          rw [e] at h3
          exact Nat.le_trans h1 (Nat.le_trans h2 (Nat.le_trans h3 hsm))
      · rw [if_neg ht] at e; obtain ⟨rfl, rfl⟩ := Prod.mk.inj e; exact hsm
    have R2 : Ru (Rp.cond L) s1 k s2 := ⟨e2, n2⟩
    have HB : Hid (s2.bad = false ∧ k < s2.nodes.length) := (show _ ∧ _ from ⟨hb', hk2⟩)
    have HE : Hid (_) := e
    have HN2 : Hid (s2.nodes.length ≤ 1000000000) := n2
    clear e e1 e2 hix hb hn0 hb' hk2 n2
    generalize Rp.nx s = T at *
    go_enter Try.func67, Try.ntmps67
    go_wp2_with fail
    refine Calls.mono (c_has R1 H.out) ?_
    rintro e w1 ⟨rfl, nv1, hr1, hc1⟩
    go_wp2_with fail
    refine Calls.mono (c_cond hL hP R2 hr1) ?_
    rintro e w2 ⟨rfl, nv2, hr2, hc2⟩
    clear c0 c1 c2 c3 c4 c5 c7 c9 cf hlt
    obtain ⟨c0, c1, c2, c3, c4, c5, c7, c9, cf, hlt⟩ := hr2.cl
    rw [HB.out.1] at c9
    obtain ⟨gn, ncap, hnv, hncap, hgn, hkd⟩ := hr2.kind HB.out.2
    have hx1 : (k : Int) < s2.nodes.length := by have := HB.out.2; omega
    have hx0 : (0 : Int) ≤ k := by omega
    have HR2 : Hid (_) := hr2
    have HC2 : Hid (_) := hc1.trans hc2
    rw [hnv] at c7
    have e := HE.out
    clear hr1 hc1 hr2 hc2 HE R1 R2
    by_cases ht : Ps.isTarget (s2.nodes.getD k {}).k = true
    · rw [if_pos ht] at e
      cases e3 : Rp.has [61] s2 with
      | mk b3 s3 =>
      rw [e3] at e
      have R3 := ru_has _ s2 HN2.out e3
      have htt := target_is ht
      generalize hkk : (s2.nodes.getD k {}).k = kd at *
      clear ht hkk
      cases b3
      · simp only at e
        obtain ⟨rfl, rfl⟩ := Prod.mk.inj e
        clear e e3
        generalize hnl : s2.nodes.length = nl at *
        rcases htt with rfl | rfl | rfl
        all_goals
          go_wp2_with fail
          refine Calls.mono (c_has R3 HR2.out) ?_
          rintro e w3 ⟨rfl, nv3, hr3, hc3⟩
          clear c0 c1 c2 c3 c4 c5 c7 c9 cf hlt hkd hgn
          go_wp2_with fail
          go_ret
          exact ⟨rfl, nv3, hr3, HC2.out.trans hc3⟩
      · simp only at e
        rcases e4 : L.e s3 with ⟨y, s4⟩
        rw [e4] at e
        simp only at e
        have R5 : Ru (Rp.put { k := 19, kids := [k, y], a := (s4.nodes.getD k {}).a }) s4 r s' := ⟨e, hsm⟩
        have n4 := R5.back (Rp.pre_len.put _)
        have R4 : Ru L.e s3 y s4 := ⟨e4, n4⟩
        have hk4 : k < s4.nodes.length := by
          have h1 := HB.out.2
          have h2 : s2.nodes.length ≤ (L.e s3).2.nodes.length := by rw [← (Rp.has_keep e3).1]; exact hP.gr.e s3
          rw [e4] at h2
          exact Nat.lt_of_lt_of_le h1 h2
        have HK4 : Hid (_) := hk4
        clear e e3 e4 n4 hk4
        generalize hnl : s2.nodes.length = nl at *
        rcases htt with rfl | rfl | rfl
        all_goals
          go_wp2_with fail
          refine Calls.mono (c_has R3 HR2.out) ?_
          rintro e w3 ⟨rfl, nv3, hr3, hc3⟩
          clear c0 c1 c2 c3 c4 c5 c7 c9 cf hlt hkd hgn
          go_wp2_with fail
          refine Calls.mono ((hL _).e R4 hr3) ?_
          rintro e w4 ⟨rfl, nv4, hr4, hc4⟩
          obtain ⟨gn4, ncap4, hnv4, hncap4, hgn4, hpl⟩ := hr4.place HK4.out
          obtain ⟨c0, c1, c2, c3, c4, c5, c7, c9, cf, hlt⟩ := hr4.cl
          have hy1 : (k : Int) < s4.nodes.length := by have := HK4.out; omega
          rw [hnv4] at c7
          have HR4 : Hid (_) := hr4
          have HC4 : Hid (_) := (HC2.out.trans hc3).trans hc4
          clear hr3 hc3 hr4 hc4
          generalize (s4.nodes.getD k {}).a = ka at *
          generalize hnl4 : s4.nodes.length = nl4 at *
          go_wp2_with fail
          refine Calls.mono (c_putB (k := 19) (n := 0) (t := []) (K := [k, y]) (a := ka) R5 HR4.out #[.int .i64 (k : Int), .int .i64 (y : Int)] 2 rfl (fun j hj => by
            have : j = 0 ∨ j = 1 := by simp at hj; omega
            rcases this with rfl | rfl <;> rfl) (Below.refl _ _)) ?_
          rintro e w6 ⟨rfl, nv6, hr6, hc6⟩
          go_wp2_with fail
          go_ret
          exact ⟨rfl, nv6, hr6, HC4.out.trans hc6⟩
    · rw [if_neg ht] at e
      obtain ⟨rfl, rfl⟩ := Prod.mk.inj e
      obtain ⟨t3, t11, t12⟩ := target_no ht
      generalize hkk : (s2.nodes.getD k {}).k = kd at *
      have q3 : ((kd : Int) == 3) = false := by rw [beq_eq_false_iff_ne]; omega
      have q11 : ((kd : Int) == 11) = false := by rw [beq_eq_false_iff_ne]; omega
      have q12 : ((kd : Int) == 12) = false := by rw [beq_eq_false_iff_ne]; omega
      clear ht hkk e t3 t11 t12
      generalize hnl : s2.nodes.length = nl at *
      go_wp2_with fail
      go_ret
      exact ⟨rfl, nv2, HR2.out, HC2.out⟩
  · simp only at e
    rcases e2 : L.e s1 with ⟨y, s2⟩
    rw [e2] at e
    simp only at e
    have R3 : Ru (Rp.put { k := 20, kids := [y], a := (Rp.nx s).a }) s2 r s' := ⟨e, hsm⟩
    have n2 := R3.back (Rp.pre_len.put _)
    have R2 : Ru L.e s1 y s2 := ⟨e2, n2⟩
    clear e e1 e2 hn0 n2
    generalize Rp.nx s = T at *
    go_enter Try.func67, Try.ntmps67
    go_wp2_with fail
    refine Calls.mono (c_has R1 H.out) ?_
    rintro e w1 ⟨rfl, nv1, hr1, hc1⟩
    go_wp2_with fail
    refine Calls.mono ((hL _).e R2 hr1) ?_
    rintro e w2 ⟨rfl, nv2, hr2, hc2⟩
    clear c0 c1 c2 c3 c4 c5 c7 c9 cf hlt
    go_wp2_with fail
    refine Calls.mono (c_putB (k := 20) (n := 0) (t := []) (K := [y]) (a := T.a) R3 hr2 #[.int .i64 (y : Int)] 1 rfl (fun j hj => by
      have : j = 0 := by simpa using hj
      subst this; rfl) (Below.refl _ _)) ?_
    rintro e w3 ⟨rfl, nv3, hr3, hc3⟩
    go_wp2_with fail
    go_ret
    exact ⟨rfl, nv3, hr3, (hc1.trans hc2).trans hc3⟩
set_option maxRecDepth 100000 in
set_option maxHeartbeats 4000000 in
/-- u, one deeper. -/
theorem u_part {L : Rp.Lr} {r : Nat} (hd : dep < 40) (hL : ∀ F, LvC src F base B (dep + 1) L) (hP : LvP L) (E : Ru (Rp.deeper (Rp.unary L)) s r s') (h : RS src F base B dep s nv w) :
    Calls Try.prog 71 #[.pointer (some ⟨B, 0, none⟩)] w (Tells src F base B dep nv w s' (.int .i64 (r : Int))) := by
  have e := E.eq
  have hsm := E.small
  obtain ⟨c0, c1, c2, c3, c4, c5, c7, c9, cf, hlt⟩ := h.cl
  unfold Rp.deeper at e
  cases hb : s.bad
  · have HI : Hid (_) := c_in h hb hd
    rw [hb] at e c9
    simp only [Bool.false_eq_true, if_false] at e
    unfold Rp.unary at e
    have HT : Hid (∀ (nv1 : Value) (W : World), RS src F base B (dep + 1) s nv1 W → ∀ m, Calls Try.prog 40 #[.pointer (some ⟨B, 0, none⟩), .string ⟨m.toArray⟩] W fun e w' => e = .returned (.bool (Rp.isS m s)) ∧ w' = W) := fun nv1 W h m => is_any h m
    cases hc : (Rp.isS [33] s || Rp.isS [45] s || Rp.isS [116, 121, 112, 101, 111, 102] s)
    · rw [hc] at e
      simp only [Bool.false_eq_true, if_false] at e
      simp only [Bool.or_eq_false_iff] at hc
      obtain ⟨⟨i1, i2⟩, i3⟩ := hc
      have R2 : Ru L.p s r s' := ⟨e, hsm⟩
      have HBB : Hid (s.bad = false) := hb
      have HI1 : Hid (∀ (nv1 : Value) (W : World), RS src F base B (dep + 1) s nv1 W → Calls Try.prog 40 #[.pointer (some ⟨B, 0, none⟩), .string ⟨#[33]⟩] W fun e w' => e = .returned (.bool false) ∧ w' = W) := fun nv1 W h => by have := is_any h [33]; rw [i1] at this; exact this
      have HI2 : Hid (∀ (nv1 : Value) (W : World), RS src F base B (dep + 1) s nv1 W → Calls Try.prog 40 #[.pointer (some ⟨B, 0, none⟩), .string ⟨#[45]⟩] W fun e w' => e = .returned (.bool false) ∧ w' = W) := fun nv1 W h => by have := is_any h [45]; rw [i2] at this; exact this
      have HI3 : Hid (∀ (nv1 : Value) (W : World), RS src F base B (dep + 1) s nv1 W → Calls Try.prog 40 #[.pointer (some ⟨B, 0, none⟩), .string ⟨#[116, 121, 112, 101, 111, 102]⟩] W fun e w' => e = .returned (.bool false) ∧ w' = W) := fun nv1 W h => by have := is_any h [116, 121, 112, 101, 111, 102]; rw [i3] at this; exact this
      clear e hb h E HT i1 i2 i3
      go_enter Try.func71, Try.ntmps71
      go_wp2_with fail
      refine Calls.mono HI.out ?_
      rintro e w1 ⟨rfl, hr1, hc1⟩
      obtain ⟨d0, d1, d2, d3, d4, d5, d7, d9, df, dlt⟩ := hr1.cl
      have HR1 : Hid (_) := hr1
      have HC1 : Hid (_) := hc1
      clear hr1 hc1 c0 c1 c2 c3 c4 c5 c7 c9 cf hlt
      generalize Rp.nx s = T at *
      go_wp2_with fail
      refine Calls.mono (HI1.out _ _ HR1.out) ?_
      rintro e w2 ⟨rfl, rfl⟩
      go_wp2_with fail
      refine Calls.mono (HI2.out _ _ HR1.out) ?_
      rintro e w3 ⟨rfl, rfl⟩
      go_wp2_with fail
      refine Calls.mono (HI3.out _ _ HR1.out) ?_
      rintro e w4 ⟨rfl, rfl⟩
      go_wp2_with fail
      refine Calls.mono ((hL _).p HBB.out R2 HR1.out) ?_
      rintro e w5 ⟨rfl, nv5, hr5, hc5⟩
      clear d0 d1 d2 d3 d4 d5 d7 d9 df dlt
      go_wp2_with fail
      refine Calls.mono (c_out hr5) ?_
      rintro e w6 ⟨rfl, hr6, hc6⟩
      go_wp2_with fail
      go_ret
      exact ⟨rfl, nv5, hr6, (HC1.out.trans hc5).trans hc6⟩
    · rw [hc] at e
      simp only [if_true] at e
      have hk : (Rp.nx s).k ≠ 0 ∧ (Rp.nx s).k ≠ 6 := by
        cases e1 : Rp.isS [33] s
        · cases e2 : Rp.isS [45] s
          · rw [e1, e2] at hc; exact isS_k hc
          · exact isS_k e2
        · exact isS_k e1
      rcases e2 : L.u (Rp.move s) with ⟨k, s2⟩
      rw [e2] at e
      simp only at e
      have R3 : Ru (Rp.put { k := 14, t := (Rp.nx s).t, kids := [k], a := (Rp.nx s).a }) s2 r s' := ⟨e, hsm⟩
      have n2 := R3.back (Rp.pre_len.put _)
      have R2 : Ru L.u (Rp.move s) k s2 := ⟨e2, n2⟩
      have HMV : Hid (∀ (nv1 : Value) (W : World), RS src F base B (dep + 1) s nv1 W → Calls Try.prog 64 #[.pointer (some ⟨B, 0, none⟩)] W (Tells src F base B (dep + 1) nv1 W (Rp.move s) (.tuple #[]))) := fun nv1 W h => move_any h hk.1 hk.2
      generalize Rp.move s = sm at *
      have i1 : Rp.isS [33] s = true ∨ (Rp.isS [33] s = false ∧ Rp.isS [45] s = true) ∨ (Rp.isS [33] s = false ∧ Rp.isS [45] s = false ∧ Rp.isS [116, 121, 112, 101, 111, 102] s = true) := by
        cases e1 : Rp.isS [33] s
        · cases e2 : Rp.isS [45] s
          · rw [e1, e2] at hc; exact .inr (.inr ⟨rfl, rfl, hc⟩)
          · exact .inr (.inl ⟨rfl, rfl⟩)
        · exact .inl rfl
      have HT1 : Hid (∀ b, Rp.isS [33] s = b → ∀ (nv1 : Value) (W : World), RS src F base B (dep + 1) s nv1 W → Calls Try.prog 40 #[.pointer (some ⟨B, 0, none⟩), .string ⟨#[33]⟩] W fun e w' => e = .returned (.bool b) ∧ w' = W) := fun b hb nv1 W h => by have := is_any h [33]; rw [hb] at this; exact this
      have HT2 : Hid (∀ b, Rp.isS [45] s = b → ∀ (nv1 : Value) (W : World), RS src F base B (dep + 1) s nv1 W → Calls Try.prog 40 #[.pointer (some ⟨B, 0, none⟩), .string ⟨#[45]⟩] W fun e w' => e = .returned (.bool b) ∧ w' = W) := fun b hb nv1 W h => by have := is_any h [45]; rw [hb] at this; exact this
      have HT3 : Hid (∀ b, Rp.isS [116, 121, 112, 101, 111, 102] s = b → ∀ (nv1 : Value) (W : World), RS src F base B (dep + 1) s nv1 W → Calls Try.prog 40 #[.pointer (some ⟨B, 0, none⟩), .string ⟨#[116, 121, 112, 101, 111, 102]⟩] W fun e w' => e = .returned (.bool b) ∧ w' = W) := fun b hb nv1 W h => by have := is_any h [116, 121, 112, 101, 111, 102]; rw [hb] at this; exact this
      have HWW : Hid (_) := i1
      clear e hb h E HT hc e2 n2 hk i1
      go_enter Try.func71, Try.ntmps71
      go_wp2_with fail
      refine Calls.mono HI.out ?_
      rintro e w1 ⟨rfl, hr1, hc1⟩
      obtain ⟨d0, d1, d2, d3, d4, d5, d7, d9, df, dlt⟩ := hr1.cl
      have HR1 : Hid (_) := hr1
      have HC1 : Hid (_) := hc1
      clear hr1 hc1 c0 c1 c2 c3 c4 c5 c7 c9 cf hlt
      have hww := HWW.out
      clear HWW
      rcases hww with i1 | ⟨i1, i2⟩ | ⟨i1, i2, i3⟩
      · have J1 : Hid (_) := HT1.out _ i1
        clear i1 HT1 HT2 HT3
        generalize Rp.nx s = T at *
        go_wp2_with fail
        refine Calls.mono (J1.out _ _ HR1.out) ?_
        rintro e w2 ⟨rfl, rfl⟩
        go_wp2_with fail
        refine Calls.mono (HMV.out _ _ HR1.out) ?_
        rintro e w5 ⟨rfl, nv5, hr5, hc5⟩
        clear d0 d1 d2 d3 d4 d5 d7 d9 df dlt
        go_wp2_with fail
        refine Calls.mono ((hL _).u R2 hr5) ?_
        rintro e w6 ⟨rfl, nv6, hr6, hc6⟩
        go_wp2_with fail
        refine Calls.mono (c_putB (k := 14) (n := 0) (t := T.t) (K := [k]) (a := T.a) R3 hr6 #[.int .i64 (k : Int)] 1 rfl (fun j hj => by
          have : j = 0 := by simpa using hj
          subst this; rfl) (Below.refl _ _)) ?_
        rintro e w7 ⟨rfl, nv7, hr7, hc7⟩
        go_wp2_with fail
        refine Calls.mono (c_out hr7) ?_
        rintro e w8 ⟨rfl, hr8, hc8⟩
        go_wp2_with fail
        go_ret
        exact ⟨rfl, nv7, hr8, (((HC1.out.trans hc5).trans hc6).trans hc7).trans hc8⟩
      · have J1 : Hid (_) := HT1.out _ i1
        have J2 : Hid (_) := HT2.out _ i2
        clear i1 i2 HT1 HT2 HT3
        generalize Rp.nx s = T at *
        go_wp2_with fail
        refine Calls.mono (J1.out _ _ HR1.out) ?_
        rintro e w2 ⟨rfl, rfl⟩
        go_wp2_with fail
        refine Calls.mono (J2.out _ _ HR1.out) ?_
        rintro e w3 ⟨rfl, rfl⟩
        go_wp2_with fail
        refine Calls.mono (HMV.out _ _ HR1.out) ?_
        rintro e w5 ⟨rfl, nv5, hr5, hc5⟩
        clear d0 d1 d2 d3 d4 d5 d7 d9 df dlt
        go_wp2_with fail
        refine Calls.mono ((hL _).u R2 hr5) ?_
        rintro e w6 ⟨rfl, nv6, hr6, hc6⟩
        go_wp2_with fail
        refine Calls.mono (c_putB (k := 14) (n := 0) (t := T.t) (K := [k]) (a := T.a) R3 hr6 #[.int .i64 (k : Int)] 1 rfl (fun j hj => by
          have : j = 0 := by simpa using hj
          subst this; rfl) (Below.refl _ _)) ?_
        rintro e w7 ⟨rfl, nv7, hr7, hc7⟩
        go_wp2_with fail
        refine Calls.mono (c_out hr7) ?_
        rintro e w8 ⟨rfl, hr8, hc8⟩
        go_wp2_with fail
        go_ret
        exact ⟨rfl, nv7, hr8, (((HC1.out.trans hc5).trans hc6).trans hc7).trans hc8⟩
      · have J1 : Hid (_) := HT1.out _ i1
        have J2 : Hid (_) := HT2.out _ i2
        have J3 : Hid (_) := HT3.out _ i3
        clear i1 i2 i3 HT1 HT2 HT3
        generalize Rp.nx s = T at *
        go_wp2_with fail
        refine Calls.mono (J1.out _ _ HR1.out) ?_
        rintro e w2 ⟨rfl, rfl⟩
        go_wp2_with fail
        refine Calls.mono (J2.out _ _ HR1.out) ?_
        rintro e w3 ⟨rfl, rfl⟩
        go_wp2_with fail
        refine Calls.mono (J3.out _ _ HR1.out) ?_
        rintro e w4 ⟨rfl, rfl⟩
        go_wp2_with fail
        refine Calls.mono (HMV.out _ _ HR1.out) ?_
        rintro e w5 ⟨rfl, nv5, hr5, hc5⟩
        clear d0 d1 d2 d3 d4 d5 d7 d9 df dlt
        go_wp2_with fail
        refine Calls.mono ((hL _).u R2 hr5) ?_
        rintro e w6 ⟨rfl, nv6, hr6, hc6⟩
        go_wp2_with fail
        refine Calls.mono (c_putB (k := 14) (n := 0) (t := T.t) (K := [k]) (a := T.a) R3 hr6 #[.int .i64 (k : Int)] 1 rfl (fun j hj => by
          have : j = 0 := by simpa using hj
          subst this; rfl) (Below.refl _ _)) ?_
        rintro e w7 ⟨rfl, nv7, hr7, hc7⟩
        go_wp2_with fail
        refine Calls.mono (c_out hr7) ?_
        rintro e w8 ⟨rfl, hr8, hc8⟩
        go_wp2_with fail
        go_ret
        exact ⟨rfl, nv7, hr8, (((HC1.out.trans hc5).trans hc6).trans hc7).trans hc8⟩
  · have HS : Hid (_) := h.spoil
    have hsp := spoil_bad hb
    rw [hb] at e c9
    obtain ⟨rfl, rfl⟩ : r = 0 ∧ s' = s := by simp at e; exact ⟨e.1.symm, e.2.symm⟩
    rw [hsp] at HS
    clear e hb E h hsp
    go_enter Try.func71, Try.ntmps71
    go_wp2_with fail
    go_ret
    exact ⟨rfl, nv, HS.out.1, HS.out.2⟩
set_option maxRecDepth 100000 in
set_option maxHeartbeats 4000000 in
theorem u_full (hd : dep = 40) (h : RS src F base B dep s nv w) : Calls Try.prog 71 #[.pointer (some ⟨B, 0, none⟩)] w (Tells src F base B dep nv w (Rp.spoil s) (.int .i64 0)) := by
  obtain ⟨c0, c1, c2, c3, c4, c5, c7, c9, cf, hlt⟩ := h.cl
  have HS : Hid (_) := h.spoil
  cases hb : s.bad
  · have HI : Hid (_) := c_inFull h hb hd
    rw [hb] at c9
    clear hb h HS
    go_enter Try.func71, Try.ntmps71
    go_wp2_with fail
    refine Calls.mono HI.out ?_
    rintro e w1 ⟨rfl, hr1, hc1⟩
    obtain ⟨d0, d1, d2, d3, d4, d5, d7, d9, df, dlt⟩ := hr1.cl
    have HS2 : Hid (_) := hr1.spoil
    have HC1 : Hid (_) := hc1
    clear hr1 hc1
    go_wp2_with fail
    go_ret
    exact ⟨rfl, nv, HS2.out.1, HC1.out.trans HS2.out.2⟩
  · rw [hb] at c9
    clear hb h
    go_enter Try.func71, Try.ntmps71
    go_wp2_with fail
    go_ret
    exact ⟨rfl, nv, HS.out.1, HS.out.2⟩
end
end Go.Proofs.Ytkaacmghgobhmaa.Rd
end
