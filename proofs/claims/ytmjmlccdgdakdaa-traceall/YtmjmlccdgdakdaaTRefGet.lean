-- PROVED: the reference's 'GetRecord' (4.1).
import Derived.Test.YtmjmlccdgdakdaaTRefEnc
import Derived.Test.YtmjmlccdgdakdaaVRefGetText
import Derived.Test.YtmjmlccdgdakdaaTGet
namespace Go.Proofs.Ytmjmlccdgdakdaa.T
open Go.RowKit
/-- A block of three cells that stands. -/
def Tri (b : Nat) (x y z : Value) (W : World) : Prop :=
  W.cell? ⟨b, 0, none⟩ = some x ∧ W.cell? ⟨b, 1, none⟩ = some y ∧ W.cell? ⟨b, 2, none⟩ = some z ∧ Hid (b < W.heap.size)
theorem Tri.go {b : Nat} {x y z : Value} {W W' : World} (h : Tri b x y z W) (hb : Below W.heap.size W W') : Tri b x y z W' := by
  obtain ⟨h1, h2, h3, h4⟩ := h
  exact ⟨(hb.cell (p := ⟨b, 0, none⟩) h4.out).trans h1, (hb.cell (p := ⟨b, 1, none⟩) h4.out).trans h2, (hb.cell (p := ⟨b, 2, none⟩) h4.out).trans h3, Nat.lt_of_lt_of_le h4.out hb.size⟩
theorem Tri.new (W : World) (x y z : Value) (t : TypeId) : Tri W.heap.size x y z (W.alloc (.cells #[x, y, z] t)) := by
  refine ⟨?_, ?_, ?_, (show W.heap.size < _ from by simp)⟩ <;> simp
/-- The result's five cells. -/
def Five (w : World) (W : World) : Prop :=
  W.cell? ⟨w.heap.size, 0, none⟩ = some (.int .i64 0) ∧ W.cell? ⟨w.heap.size, 1, none⟩ = some (.int .i64 0) ∧ W.cell? ⟨w.heap.size, 2, none⟩ = some (.int .i64 0) ∧ W.cell? ⟨w.heap.size, 3, none⟩ = some (.string ⟨#[]⟩) ∧ W.cell? ⟨w.heap.size, 4, none⟩ = some (.int .i64 0) ∧
  W.frozen? ⟨w.heap.size, 0, none⟩ = false ∧ W.frozen? ⟨w.heap.size, 1, none⟩ = false ∧ W.frozen? ⟨w.heap.size, 2, none⟩ = false ∧ W.frozen? ⟨w.heap.size, 3, none⟩ = false ∧ W.frozen? ⟨w.heap.size, 4, none⟩ = false ∧
  Hid (Below w.heap.size w W) ∧ Hid (w.heap.size < W.heap.size)
theorem Five.go {w W W' : World} (h : Five w W) (hb : Below W.heap.size W W') : Five w W' := by
  obtain ⟨h0, h1, h2, h3, h4, g0, g1, g2, g3, g4, h8, h9⟩ := h
  exact ⟨(hb.cell (p := ⟨w.heap.size, 0, none⟩) h9.out).trans h0, (hb.cell (p := ⟨w.heap.size, 1, none⟩) h9.out).trans h1, (hb.cell (p := ⟨w.heap.size, 2, none⟩) h9.out).trans h2, (hb.cell (p := ⟨w.heap.size, 3, none⟩) h9.out).trans h3, (hb.cell (p := ⟨w.heap.size, 4, none⟩) h9.out).trans h4,
    (hb.frozen (p := ⟨w.heap.size, 0, none⟩) h9.out).trans g0, (hb.frozen (p := ⟨w.heap.size, 1, none⟩) h9.out).trans g1, (hb.frozen (p := ⟨w.heap.size, 2, none⟩) h9.out).trans g2, (hb.frozen (p := ⟨w.heap.size, 3, none⟩) h9.out).trans g3, (hb.frozen (p := ⟨w.heap.size, 4, none⟩) h9.out).trans g4, C.below_chain h8.out hb, Nat.lt_of_lt_of_le h9.out hb.size⟩
theorem Five.new (w : World) (t : TypeId) : Five w (w.alloc (.cells #[.int .i64 0, .int .i64 0, .int .i64 0, .string ⟨#[]⟩, .int .i64 0] t)) := by
  refine ⟨?_, ?_, ?_, ?_, ?_, ?_, ?_, ?_, ?_, ?_, (Below.refl _ _).alloc (Nat.le_refl _) _, (show w.heap.size < _ from by simp)⟩ <;> simp
set_option maxRecDepth 100000 in
set_option maxHeartbeats 2000000 in
/-- GetRecord, by what the parts are. -/
theorem rget_core (s : ByteArray) (a0 b0 c0 : Int) (a1 a2 b1 b2 c1 c2 d1 d2 : Nat) (T P : ByteArray) (w : World)
    (hA : ∀ W, Calls Try.prog 29 #[.string s, .int .i64 0] W fun e w' => e = .returned (.agg #[.int .i64 a0, .int .i64 (a1 : Int), .int .i64 (a2 : Int)]) ∧ Below W.heap.size W w')
    (hB : ∀ W, Calls Try.prog 29 #[.string s, .int .i64 (a1 : Int)] W fun e w' => e = .returned (.agg #[.int .i64 b0, .int .i64 (b1 : Int), .int .i64 (b2 : Int)]) ∧ Below W.heap.size W w')
    (hC : ∀ W, Calls Try.prog 29 #[.string s, .int .i64 (b1 : Int)] W fun e w' => e = .returned (.agg #[.int .i64 c0, .int .i64 (c1 : Int), .int .i64 (c2 : Int)]) ∧ Below W.heap.size W w')
    (hD : ∀ W, Calls Try.prog 30 #[.string s, .int .i64 (c1 : Int)] W fun e w' => e = .returned (.agg #[.string T, .int .i64 (d1 : Int), .int .i64 (d2 : Int)]) ∧ Below W.heap.size W w')
    (hU : ∀ W, ∃ x : Int, Calls Try.prog 10 #[.agg #[.int .i64 a0, .int .i64 b0, .int .i64 c0, .string T]] W fun e w' => e = .returned (.agg #[.string P, .int .i64 0, .int .i64 x]) ∧ Below W.heap.size W w')
    (he : a2 ≤ 4 ∧ b2 ≤ 4 ∧ c2 ≤ 4 ∧ d2 ≤ 4)
    (b : Bool) (hb : a2 + b2 + c2 + d2 = 0 ∧ (P.toList == s.toList) = true ∧ b = true ∨ a2 + b2 + c2 + d2 = 0 ∧ (P.toList == s.toList) = false ∧ b = false ∨ a2 + b2 + c2 + d2 ≠ 0 ∧ b = false) :
    Calls Try.prog 15 #[.string s] w fun e w' => e = .returned (if b then .agg #[.int .i64 a0, .int .i64 b0, .int .i64 c0, .string T, .int .i64 0] else .agg #[.int .i64 0, .int .i64 0, .int .i64 0, .string ⟨#[]⟩, .int .i64 4]) ∧ Below w.heap.size w w' := by
  have hfld := run_fieldT
  have HA : Hid (_) := hA
  have HB : Hid (_) := hB
  have HC : Hid (_) := hC
  have HD : Hid (_) := hD
  have HU : Hid (_) := hU
  clear hA hB hC hD hU
  have HF0 : Hid (Five w (w.alloc (.cells #[.int .i64 0, .int .i64 0, .int .i64 0, .string ⟨#[]⟩, .int .i64 0] 39))) := Five.new w 39
  go_enter Try.func15, Try.ntmps15
  go_wp2_with fail
  refine Calls.mono (HA.out _) ?_
  rintro e w1 ⟨rfl, hb1⟩
  have HF1 : Hid (Five w (w1.alloc (.cells #[.int .i64 a0, .int .i64 (a1 : Int), .int .i64 (a2 : Int)] 65))) := (HF0.out.go hb1).go ((Below.refl _ _).alloc (Nat.le_refl _) _)
  have HT1 : Hid (Tri w1.heap.size (.int .i64 a0) (.int .i64 (a1 : Int)) (.int .i64 (a2 : Int)) (w1.alloc (.cells #[.int .i64 a0, .int .i64 (a1 : Int), .int .i64 (a2 : Int)] 65))) := Tri.new _ _ _ _ _
  clear hb1 HF0
  go_wp2_with fail
  generalize w1.alloc (.cells #[.int .i64 a0, .int .i64 (a1 : Int), .int .i64 (a2 : Int)] 65) = w1a at HF1 HT1 ⊢
  generalize w1.heap.size = ba at HT1 ⊢
  refine Calls.mono (HB.out _) ?_
  rintro e w2 ⟨rfl, hb2⟩
  have HF2 : Hid (Five w (w2.alloc (.cells #[.int .i64 b0, .int .i64 (b1 : Int), .int .i64 (b2 : Int)] 65))) := (HF1.out.go hb2).go ((Below.refl _ _).alloc (Nat.le_refl _) _)
  have HS1 : Hid (Tri ba (.int .i64 a0) (.int .i64 (a1 : Int)) (.int .i64 (a2 : Int)) (w2.alloc (.cells #[.int .i64 b0, .int .i64 (b1 : Int), .int .i64 (b2 : Int)] 65))) := (HT1.out.go hb2).go ((Below.refl _ _).alloc (Nat.le_refl _) _)
  have HT2 : Hid (Tri w2.heap.size (.int .i64 b0) (.int .i64 (b1 : Int)) (.int .i64 (b2 : Int)) (w2.alloc (.cells #[.int .i64 b0, .int .i64 (b1 : Int), .int .i64 (b2 : Int)] 65))) := Tri.new _ _ _ _ _
  clear hb2 HF1 HT1
  go_wp2_with fail
  generalize w2.alloc (.cells #[.int .i64 b0, .int .i64 (b1 : Int), .int .i64 (b2 : Int)] 65) = w2a at HF2 HS1 HT2 ⊢
  generalize w2.heap.size = bb at HT2 ⊢
  refine Calls.mono (HC.out _) ?_
  rintro e w3 ⟨rfl, hb3⟩
  have HF3 : Hid (Five w (w3.alloc (.cells #[.int .i64 c0, .int .i64 (c1 : Int), .int .i64 (c2 : Int)] 65))) := (HF2.out.go hb3).go ((Below.refl _ _).alloc (Nat.le_refl _) _)
  have HS2 : Hid (Tri ba (.int .i64 a0) (.int .i64 (a1 : Int)) (.int .i64 (a2 : Int)) (w3.alloc (.cells #[.int .i64 c0, .int .i64 (c1 : Int), .int .i64 (c2 : Int)] 65))) := (HS1.out.go hb3).go ((Below.refl _ _).alloc (Nat.le_refl _) _)
  have HU2 : Hid (Tri bb (.int .i64 b0) (.int .i64 (b1 : Int)) (.int .i64 (b2 : Int)) (w3.alloc (.cells #[.int .i64 c0, .int .i64 (c1 : Int), .int .i64 (c2 : Int)] 65))) := (HT2.out.go hb3).go ((Below.refl _ _).alloc (Nat.le_refl _) _)
  have HT3 : Hid (Tri w3.heap.size (.int .i64 c0) (.int .i64 (c1 : Int)) (.int .i64 (c2 : Int)) (w3.alloc (.cells #[.int .i64 c0, .int .i64 (c1 : Int), .int .i64 (c2 : Int)] 65))) := Tri.new _ _ _ _ _
  clear hb3 HF2 HS1 HT2
  go_wp2_with fail
  generalize w3.alloc (.cells #[.int .i64 c0, .int .i64 (c1 : Int), .int .i64 (c2 : Int)] 65) = w3a at HF3 HS2 HU2 HT3 ⊢
  generalize w3.heap.size = bc at HT3 ⊢
  refine Calls.mono (HD.out _) ?_
  rintro e w4 ⟨rfl, hb4⟩
  have hF4 := HF3.out.go hb4
  obtain ⟨s0, s1, s2, ls⟩ := HS2.out.go hb4
  obtain ⟨u0, u1, u2, lu⟩ := HU2.out.go hb4
  obtain ⟨t0', t1', t2', lt⟩ := HT3.out.go hb4
  have ls1 := ls.out
  have lu1 := lu.out
  have lt1 := lt.out
  have ls2 : ba < w4.heap.size + 1 := by omega
  have lu2 : bb < w4.heap.size + 1 := by omega
  have lt2 : bc < w4.heap.size + 1 := by omega
  have lx2 : w4.heap.size < w4.heap.size + 1 := by omega
  have HF4 : Hid (Five w w4) := hF4
  clear hF4 ls lu lt hb4 HF3 HS2 HU2 HT3
  obtain ⟨e1, e2, e3, e4⟩ := he
  have y1 : (a2 : Int) ≤ 4 := by omega
  have y2 : (b2 : Int) ≤ 4 := by omega
  have y3 : (c2 : Int) ≤ 4 := by omega
  have y4 : (d2 : Int) ≤ 4 := by omega
  rcases hb with ⟨hz, hc, rfl⟩ | ⟨hz, hc, rfl⟩ | ⟨hz, rfl⟩
  · obtain rfl : a2 = 0 := by omega
    obtain rfl : b2 = 0 := by omega
    obtain rfl : c2 = 0 := by omega
    obtain rfl : d2 = 0 := by omega
    go_wp2_with fail
    obtain ⟨xx, hcall⟩ := HU.out ((w4.alloc (.cells #[.string T, .int .i64 (d1 : Int), .int .i64 0] 32)).alloc (.cells #[.int .i64 a0, .int .i64 b0, .int .i64 c0, .string T] 27))
    refine Calls.mono hcall ?_
    rintro e w5 ⟨rfl, hb5⟩
    obtain ⟨⟨r0, r1, r2, r3⟩, _⟩ := cell4 (w := w4.alloc (.cells #[.string T, .int .i64 (d1 : Int), .int .i64 0] 32)) (b := w4.heap.size + 1) (by simp) (by simpa using hb5)
    obtain ⟨f0, f1, f2, f3, f4, g0, g1, g2, g3, g4, hbl, hlw⟩ := (HF4.out.go (((Below.refl w4.heap.size w4).alloc (Nat.le_refl _) _).alloc (by simp) _)).go hb5
    have hnb : w.heap.size ≠ w4.heap.size + 1 := by have := HF4.out.2.2.2.2.2.2.2.2.2.2.2.out; omega
    clear hb5 hcall HU HF4 s0 s1 s2 u0 u1 u2 t0' t1' t2' ls1 lu1 lt1 ls2 lu2 lt2 lx2
    go_wp2_with fail
    refine bodyPost_ret (v := .agg #[.int .i64 a0, .int .i64 b0, .int .i64 c0, .string T, .int .i64 0]) (by simp [results, Try.results15, go_sem, f0, f1, f2, f3, f4]) rfl ⟨rfl, ?_⟩
    repeat (first | exact hbl.out | refine Below.setCell ?_ (by exact Nat.le_refl _) _)
  · obtain rfl : a2 = 0 := by omega
    obtain rfl : b2 = 0 := by omega
    obtain rfl : c2 = 0 := by omega
    obtain rfl : d2 = 0 := by omega
    go_wp2_with fail
    obtain ⟨xx, hcall⟩ := HU.out ((w4.alloc (.cells #[.string T, .int .i64 (d1 : Int), .int .i64 0] 32)).alloc (.cells #[.int .i64 a0, .int .i64 b0, .int .i64 c0, .string T] 27))
    refine Calls.mono hcall ?_
    rintro e w5 ⟨rfl, hb5⟩
    obtain ⟨⟨r0, r1, r2, r3⟩, _⟩ := cell4 (w := w4.alloc (.cells #[.string T, .int .i64 (d1 : Int), .int .i64 0] 32)) (b := w4.heap.size + 1) (by simp) (by simpa using hb5)
    obtain ⟨f0, f1, f2, f3, f4, g0, g1, g2, g3, g4, hbl, hlw⟩ := (HF4.out.go (((Below.refl w4.heap.size w4).alloc (Nat.le_refl _) _).alloc (by simp) _)).go hb5
    have hnb : w.heap.size ≠ w4.heap.size + 1 := by have := HF4.out.2.2.2.2.2.2.2.2.2.2.2.out; omega
    clear hb5 hcall HU HF4 s0 s1 s2 u0 u1 u2 t0' t1' t2' ls1 lu1 lt1 ls2 lu2 lt2 lx2
    go_wp2_with fail
    refine bodyPost_ret (v := .agg #[.int .i64 0, .int .i64 0, .int .i64 0, .string ⟨#[]⟩, .int .i64 4]) (by simp [results, Try.results15, go_sem, f0, f1, f2, f3, f4]) rfl ⟨rfl, ?_⟩
    repeat (first | exact hbl.out | refine Below.setCell ?_ (by exact Nat.le_refl _) _)
  · have hzI : ((a2 : Int) + b2 + c2 + d2 == 0) = false := by rw [beq_eq_false_iff_ne]; omega
    have hzJ : ((a2 : Int) + b2 + c2 + d2 != 0) = true := by rw [bne_iff_ne]; omega
    have hzK : ¬ ((a2 : Int) + b2 + c2 + d2 = 0) := by omega
    obtain ⟨f0, f1, f2, f3, f4, g0, g1, g2, g3, g4, hbl, hlw⟩ := HF4.out
    have hlw1 := hlw.out
    have hlw2 : w.heap.size < w4.heap.size + 1 := by omega
    have hne1 : w.heap.size ≠ w4.heap.size := by omega
    have hne2 : w.heap.size ≠ w4.heap.size + 1 := by omega
    clear HF4 HU
    go_wp2_with fail
    refine bodyPost_ret (v := .agg #[.int .i64 0, .int .i64 0, .int .i64 0, .string ⟨#[]⟩, .int .i64 4]) (by simp [results, Try.results15, go_sem, f0, f1, f2, f3, f4, hlw1, hlw2]) rfl ⟨rfl, ?_⟩
    refine Below.alloc (Below.alloc ?hh ?sz1 _) ?sz2 _
    case hh => repeat (first | exact hbl.out | refine Below.setCell ?_ (by exact Nat.le_refl _) _)
    case sz1 => simp only [C.setCell_size]; exact hbl.out.size
    case sz2 => simp only [World.size_alloc, C.setCell_size]; have := hbl.out.size; omega
theorem no_empty : (Tm.pA []).2.2 ≠ 0 := by decide
theorem rget_yes (s : ByteArray) (w : World) (hs : s.size ≤ 1000000) (h : Tm.is s.data.toList = true) :
    Calls Try.prog 15 #[.string s] w fun e w' => e = .returned (.agg #[.int .i64 (Tm.got s.data.toList).step, .int .i64 (Tm.got s.data.toList).kind, .int .i64 (Tm.got s.data.toList).n, .string ⟨(Tm.got s.data.toList).s.toArray⟩, .int .i64 0]) ∧ Below w.heap.size w w' := by
  obtain ⟨ho, hp, hf, hg⟩ := Tm.is_ok h
  have herr := Tm.is_errs h
  have hU := fun W => rput_ok (Tm.got s.data.toList) W hf ho
  rw [hp, hg] at hU
  rw [hg]
  have bA := (Vn.get_bd s.data.toList 0).2.2.2
  have bB := (Vn.get_bd s.data.toList ((Tm.pA s.data.toList).2.1 : Int)).2.2.2
  have bC := (Vn.get_bd s.data.toList ((Tm.pB s.data.toList).2.1 : Int)).2.2.2
  have bD := (Vn.getText_bd s.data.toList ((Tm.pC s.data.toList).2.1 : Int)).2.1
  exact rget_core s _ _ _ _ _ _ _ _ _ _ _ _ ⟨s.data.toList.toArray⟩ w (fun W => V.rget_any s 0 W (by unfold maxLen; omega)) (fun W => V.rget_any s _ W (by unfold maxLen; omega)) (fun W => V.rget_any s _ W (by unfold maxLen; omega)) (fun W => V.rgetText_any s _ W hs) (fun W => ⟨0, hU W⟩) ⟨bA, bB, bC, bD⟩ true (.inl ⟨herr, C.cmp_yes rfl, rfl⟩)
theorem rget_no (s : ByteArray) (w : World) (hs : s.size ≤ 1000000) (h : Tm.is s.data.toList = false) :
    Calls Try.prog 15 #[.string s] w fun e w' => e = .returned (.agg #[.int .i64 0, .int .i64 0, .int .i64 0, .string ⟨#[]⟩, .int .i64 4]) ∧ Below w.heap.size w w' := by
  have bA := (Vn.get_bd s.data.toList 0).2.2.2
  have bB := (Vn.get_bd s.data.toList ((Tm.pA s.data.toList).2.1 : Int)).2.2.2
  have bC := (Vn.get_bd s.data.toList ((Tm.pB s.data.toList).2.1 : Int)).2.2.2
  have bD := (Vn.getText_bd s.data.toList ((Tm.pC s.data.toList).2.1 : Int))
  cases ho : Tm.ok (Tm.parts s.data.toList) with
  | true =>
    have hU := fun W => rput_ok (Tm.parts s.data.toList) W (Tm.parts_fits _) ho
    refine rget_core s _ _ _ _ _ _ _ _ _ _ _ _ ⟨(Tm.put (Tm.parts s.data.toList)).toArray⟩ w (fun W => V.rget_any s 0 W (by unfold maxLen; omega)) (fun W => V.rget_any s _ W (by unfold maxLen; omega)) (fun W => V.rget_any s _ W (by unfold maxLen; omega)) (fun W => V.rgetText_any s _ W hs) (fun W => ⟨0, hU W⟩) ⟨bA, bB, bC, bD.2.1⟩ false ?_
    by_cases he : (Tm.pA s.data.toList).2.2 + (Tm.pB s.data.toList).2.2 + (Tm.pC s.data.toList).2.2 + (Tm.pD s.data.toList).2.2 = 0
    · refine .inr (.inl ⟨he, C.cmp_no ?_, rfl⟩)
      intro hp
      unfold Tm.is at h
      rw [ho] at h
      simp at h
      exact h hp
    · exact .inr (.inr ⟨he, rfl⟩)
  | false =>
    have hU := fun W => rput_no (Tm.parts s.data.toList) W (by have := bD.1; unfold maxLen; unfold Tm.parts Tm.pD; simp only []; omega) ho
    refine rget_core s _ _ _ _ _ _ _ _ _ _ _ _ ⟨#[]⟩ w (fun W => V.rget_any s 0 W (by unfold maxLen; omega)) (fun W => V.rget_any s _ W (by unfold maxLen; omega)) (fun W => V.rget_any s _ W (by unfold maxLen; omega)) (fun W => V.rgetText_any s _ W hs) (fun W => ⟨1, hU W⟩) ⟨bA, bB, bC, bD.2.1⟩ false ?_
    by_cases he : (Tm.pA s.data.toList).2.2 + (Tm.pB s.data.toList).2.2 + (Tm.pC s.data.toList).2.2 + (Tm.pD s.data.toList).2.2 = 0
    · refine .inr (.inl ⟨he, C.cmp_no ?_, rfl⟩)
      intro hp
      have hn := no_empty
      rw [show ([] : List UInt8) = s.data.toList from hp] at hn
      omega
    · exact .inr (.inr ⟨he, rfl⟩)
end Go.Proofs.Ytmjmlccdgdakdaa.T
