-- PROVED: the reference's 'PutRecord' (4.1).
import Derived.Test.YtmjmlccdgdakdaaTRefMay
import Derived.Test.YtmjmlccdgdakdaaTPut
import Derived.Test.YtmjmlccdgdakdaaVRefText
import Derived.Test.YtmjmlccdgdakdaaCRow
namespace Go.Proofs.Ytmjmlccdgdakdaa.T
open Go.RowKit
/-- The record's block, and the result's. -/
def Box (w : World) (bx br : Nat) (st k n : Int) (s : ByteArray) (W : World) : Prop :=
  W.cell? ⟨bx, 0, none⟩ = some (.int .i64 st) ∧ W.cell? ⟨bx, 1, none⟩ = some (.int .i64 k) ∧ W.cell? ⟨bx, 2, none⟩ = some (.int .i64 n) ∧ W.cell? ⟨bx, 3, none⟩ = some (.string s) ∧
  W.cell? ⟨br, 0, none⟩ = some (.string ⟨#[]⟩) ∧ W.cell? ⟨br, 1, none⟩ = some (.int .i64 0) ∧ W.cell? ⟨br, 2, none⟩ = some (.int .i64 0) ∧
  W.frozen? ⟨br, 0, none⟩ = false ∧ W.frozen? ⟨br, 1, none⟩ = false ∧ W.frozen? ⟨br, 2, none⟩ = false ∧
  Hid (Below w.heap.size w W) ∧ Hid (bx < W.heap.size) ∧ Hid (br < W.heap.size)
theorem Box.go {w : World} {bx br : Nat} {st k n : Int} {s : ByteArray} {W W' : World} (h : Box w bx br st k n s W) (hb : Below W.heap.size W W') : Box w bx br st k n s W' := by
  obtain ⟨h1, h2, h3, h4, h5, h6, h7, g5, g6, g7, h8, h9, h10⟩ := h
  exact ⟨(hb.cell (p := ⟨bx, 0, none⟩) h9.out).trans h1, (hb.cell (p := ⟨bx, 1, none⟩) h9.out).trans h2, (hb.cell (p := ⟨bx, 2, none⟩) h9.out).trans h3, (hb.cell (p := ⟨bx, 3, none⟩) h9.out).trans h4,
    (hb.cell (p := ⟨br, 0, none⟩) h10.out).trans h5, (hb.cell (p := ⟨br, 1, none⟩) h10.out).trans h6, (hb.cell (p := ⟨br, 2, none⟩) h10.out).trans h7,
    (hb.frozen (p := ⟨br, 0, none⟩) h10.out).trans g5, (hb.frozen (p := ⟨br, 1, none⟩) h10.out).trans g6, (hb.frozen (p := ⟨br, 2, none⟩) h10.out).trans g7,
    C.below_chain h8.out hb, Nat.lt_of_lt_of_le h9.out hb.size, Nat.lt_of_lt_of_le h10.out hb.size⟩
theorem Box.drew {w : World} {bx br : Nat} {st k n : Int} {s : ByteArray} {W : World} (h : Box w bx br st k n s W) : Box w bx br st k n s W.drew := h.go (Below.refl _ _).drew
theorem Box.new (w : World) (st k n : Int) (s : ByteArray) (t u : TypeId) : Box w w.heap.size (w.heap.size + 1) st k n s ((w.alloc (.cells #[.int .i64 st, .int .i64 k, .int .i64 n, .string s] t)).alloc (.cells #[.string ⟨#[]⟩, .int .i64 0, .int .i64 0] u)) := by
  refine ⟨?_, ?_, ?_, ?_, ?_, ?_, ?_, ?_, ?_, ?_, ((Below.refl _ _).alloc (Nat.le_refl _) _).alloc (by simp) _, (show w.heap.size < _ from by simp; omega), (show w.heap.size + 1 < _ from by simp)⟩ <;> simp
set_option maxRecDepth 100000 in
set_option maxHeartbeats 1000000 in
theorem rput_no (r : Tm.Rec) (w : World) (hs : r.s.length ≤ maxLen) (ho : Tm.ok r = false) :
    Calls Try.prog 10 #[recV r] w fun e w' => e = .returned (.agg #[.string ⟨#[]⟩, .int .i64 0, .int .i64 1]) ∧ Below w.heap.size w w' := by
  obtain ⟨st, k, n, sl⟩ := r
  unfold recV
  simp only [] at hs ho ⊢
  have hm : ∀ W, Calls Try.prog 12 #[.agg #[.int .i64 k, .int .i64 n, .string ⟨sl.toArray⟩]] W fun e w' => e = .returned (.bool (Tm.may k n sl)) ∧ Below W.heap.size W w' :=
    fun W => rmay_any k n ⟨sl.toArray⟩ W (by rw [← V.size_list]; exact hs)
  unfold Tm.ok at ho
  simp only [] at ho
  generalize Tm.may k n sl = m at hm ho
  generalize (⟨sl.toArray⟩ : ByteArray) = s at hm ⊢
  clear hs
  have HX : Hid (_) := Box.new w st k n s 27 32
  by_cases h0 : st < 0
  · clear hm ho
    go_enter Try.func10, Try.ntmps10
    go_wp2_with fail
    refine bodyPost_ret (v := .agg #[.string ⟨#[]⟩, .int .i64 0, .int .i64 1]) (by simp [results, Try.results10, go_sem]) rfl ⟨rfl, ?_⟩
    repeat (first | exact ((Below.refl _ _).alloc (Nat.le_refl _) _).alloc (by simp) _ | refine Below.setCell ?_ (by simp) _)
  · have hm0 : m = false := by
      rw [Bool.and_eq_false_iff] at ho
      rcases ho with ho | ho
      · simp at ho; omega
      · exact ho
    subst hm0
    have HM : Hid (_) := hm
    clear hm ho
    go_enter Try.func10, Try.ntmps10
    go_wp2_with fail
    refine Calls.mono (HM.out _) ?_
    rintro e w1 ⟨rfl, hb⟩
    have hB := Box.go HX.out hb
    obtain ⟨_, _, _, _, a0, a1, a2, f0, f1, f2, hbel, _, _⟩ := hB
    clear hb HX
    go_wp2_with fail
    refine bodyPost_ret (v := .agg #[.string ⟨#[]⟩, .int .i64 0, .int .i64 1]) (by simp [results, Try.results10, go_sem, a0, a1, a2]) rfl ⟨rfl, ?_⟩
    repeat (first | exact hbel.out | refine Below.setCell ?_ (by simp) _)
/-- What a cell holds, whatever it is. -/
def c0 (b : Nat) (W : World) : Value := (W.cell? ⟨b, 0, none⟩).getD undef
/-- The record's block, and the result's, whose first cell may have been set. -/
def Box2 (w : World) (bx br : Nat) (st k n : Int) (s : ByteArray) (W : World) : Prop :=
  W.cell? ⟨bx, 0, none⟩ = some (.int .i64 st) ∧ W.cell? ⟨bx, 1, none⟩ = some (.int .i64 k) ∧ W.cell? ⟨bx, 2, none⟩ = some (.int .i64 n) ∧ W.cell? ⟨bx, 3, none⟩ = some (.string s) ∧
  W.cell? ⟨br, 0, none⟩ = some (c0 br W) ∧ W.cell? ⟨br, 1, none⟩ = some (.int .i64 0) ∧ W.cell? ⟨br, 2, none⟩ = some (.int .i64 0) ∧
  W.frozen? ⟨br, 0, none⟩ = false ∧ W.frozen? ⟨br, 1, none⟩ = false ∧ W.frozen? ⟨br, 2, none⟩ = false ∧
  Hid (Below w.heap.size w W) ∧ Hid (bx < W.heap.size) ∧ Hid (br < W.heap.size)
theorem Box.two {w : World} {bx br : Nat} {st k n : Int} {s : ByteArray} {W : World} (h : Box w bx br st k n s W) : Box2 w bx br st k n s W := by
  obtain ⟨h1, h2, h3, h4, h5, r⟩ := h
  exact ⟨h1, h2, h3, h4, by unfold c0; rw [h5]; rfl, r⟩
theorem Box2.go {w : World} {bx br : Nat} {st k n : Int} {s : ByteArray} {W W' : World} (h : Box2 w bx br st k n s W) (hb : Below W.heap.size W W') : Box2 w bx br st k n s W' := by
  obtain ⟨h1, h2, h3, h4, h5, h6, h7, g5, g6, g7, h8, h9, h10⟩ := h
  have e5 := (hb.cell (p := ⟨br, 0, none⟩) h10.out).trans h5
  exact ⟨(hb.cell (p := ⟨bx, 0, none⟩) h9.out).trans h1, (hb.cell (p := ⟨bx, 1, none⟩) h9.out).trans h2, (hb.cell (p := ⟨bx, 2, none⟩) h9.out).trans h3, (hb.cell (p := ⟨bx, 3, none⟩) h9.out).trans h4,
    by rw [e5]; unfold c0; rw [e5]; rfl, (hb.cell (p := ⟨br, 1, none⟩) h10.out).trans h6, (hb.cell (p := ⟨br, 2, none⟩) h10.out).trans h7,
    (hb.frozen (p := ⟨br, 0, none⟩) h10.out).trans g5, (hb.frozen (p := ⟨br, 1, none⟩) h10.out).trans g6, (hb.frozen (p := ⟨br, 2, none⟩) h10.out).trans g7,
    C.below_chain h8.out hb, Nat.lt_of_lt_of_le h9.out hb.size, Nat.lt_of_lt_of_le h10.out hb.size⟩
theorem Box2.drew {w : World} {bx br : Nat} {st k n : Int} {s : ByteArray} {W : World} (h : Box2 w bx br st k n s W) : Box2 w bx br st k n s W.drew := h.go (Below.refl _ _).drew
theorem Box2.set {w : World} {bx br : Nat} {st k n : Int} {s : ByteArray} {W : World} (h : Box2 w bx br st k n s W) (hne : bx ≠ br) (hbr : w.heap.size ≤ br) (v : Value) : Box2 w bx br st k n s (((W.setCell ⟨br, 0, none⟩ v).setCell ⟨br, 1, none⟩ (.int .i64 0)).setCell ⟨br, 2, none⟩ (.int .i64 0)) := by
  obtain ⟨h1, h2, h3, h4, h5, h6, h7, g5, g6, g7, h8, h9, h10⟩ := h
  refine ⟨?_, ?_, ?_, ?_, ?_, ?_, ?_, ?_, ?_, ?_, ((h8.out.setCell hbr _).setCell hbr _).setCell hbr _, (show bx < _ from by simpa [C.setCell_size] using h9.out), (show br < _ from by simpa [C.setCell_size] using h10.out)⟩
  · simp [go_sem, h1]
  · simp [go_sem, h2]
  · simp [go_sem, h3]
  · simp [go_sem, h4]
  · unfold c0; simp [go_sem, h5]
  · simp [go_sem, h6]
  · simp [go_sem, h7]
  · simp [go_sem, g5]
  · simp [go_sem, g6]
  · simp [go_sem, g7]
set_option maxRecDepth 100000 in
set_option maxHeartbeats 2000000 in
theorem rput_ok (r : Tm.Rec) (w : World) (hf : Tm.fits r) (ho : Tm.ok r = true) :
    Calls Try.prog 10 #[recV r] w fun e w' => e = .returned (.agg #[.string ⟨(Tm.put r).toArray⟩, .int .i64 0, .int .i64 0]) ∧ Below w.heap.size w w' := by
  have hbd := Tm.ok_bd ho
  have hl4 := (Vn.put_len (r.s.length : Int)).2
  have hl5 := Vn.text_len r.s
  have HV : Hid (_) := (show (⟨(Tm.put r).toArray⟩ : ByteArray) = putB r.step ++ putB r.kind ++ putB r.n ++ ⟨(Vn.text r.s).toArray⟩ from by
    unfold putB; rw [F.cat_eq, F.cat_eq, F.cat_eq]; rfl)
  obtain ⟨f1, f2, f3, f4, f5, f6⟩ := hf
  have hm : ∀ W, Calls Try.prog 12 #[.agg #[.int .i64 r.kind, .int .i64 r.n, .string ⟨r.s.toArray⟩]] W fun e w' => e = .returned (.bool (Tm.may r.kind r.n r.s)) ∧ Below W.heap.size W w' :=
    fun W => rmay_any r.kind r.n ⟨r.s.toArray⟩ W (by rw [← V.size_list]; unfold maxLen; simp; omega)
  have ht : ∀ W, Calls Try.prog 25 #[.string ⟨r.s.toArray⟩] W fun e w' => e = .returned (.string ⟨(Vn.text r.s).toArray⟩) ∧ Below W.heap.size W w' :=
    fun W => V.rtext_any ⟨r.s.toArray⟩ W (by rw [← V.size_list]; simp; omega)
  have HP : Hid (_) := (show ∀ m, (m = r.step ∨ m = r.kind ∨ m = r.n) → ∀ W, Calls Try.prog 24 #[.int .i64 m] W fun e w' => e = .returned (.string (putB m)) ∧ Below W.heap.size W w' from
    fun m hm W => V.rput_any m W (by rcases hm with rfl | rfl | rfl <;> assumption) (by rcases hm with rfl | rfl | rfl <;> assumption))
  have hmt : Tm.may r.kind r.n r.s = true := by
    unfold Tm.ok at ho
    rw [Bool.and_eq_true] at ho
    exact ho.2
  rw [hmt] at hm
  unfold recV
  have hs0 : ¬ r.step < 0 := by omega
  have z4 : (⟨(Vn.text r.s).toArray⟩ : ByteArray).size ≤ 2000 := by rw [← V.size_list]; simp only []; omega
  clear hl4 hl5 hbd f1 f2 f3 f4 f5 f6 ho hmt
  generalize (⟨(Tm.put r).toArray⟩ : ByteArray) = res at HV ⊢
  generalize (⟨(Vn.text r.s).toArray⟩ : ByteArray) = P4 at *
  generalize (⟨r.s.toArray⟩ : ByteArray) = s at *
  generalize r.step = st at *
  generalize r.kind = k at *
  generalize r.n = n at *
  clear r
  have HM : Hid (_) := hm
  have HT : Hid (_) := ht
  clear hm ht
  have HX : Hid (Box w w.heap.size (w.heap.size + 1) st k n s ((w.alloc (.cells #[.int .i64 st, .int .i64 k, .int .i64 n, .string s] 27)).alloc (.cells #[.string ⟨#[]⟩, .int .i64 0, .int .i64 0] 32))) := Box.new w st k n s 27 32
  go_enter Try.func10, Try.ntmps10
  go_wp2_with fail
  refine Calls.mono (HM.out _) ?_
  rintro e w6 ⟨rfl, hb⟩
  have hW6 := Box.two (Box.go HX.out hb)
  clear hb HX HM
  have hne : w.heap.size ≠ w.heap.size + 1 := by omega
  have hbr : w.heap.size ≤ w.heap.size + 1 := by omega
  generalize hbz : w.heap.size + 1 = bz at hW6 hne hbr ⊢
  generalize hbx : w.heap.size = bx at hW6 hne ⊢
  rw [hbx] at hbr
  have HBR : Hid (w.heap.size ≤ bz) := (show w.heap.size ≤ bz from by rw [hbx]; exact hbr)
  clear hbz hbx hbr
  go_wp2_with fail
  have n1 : ¬ 9223372036854775807 < (putB st).size + (putB k).size := by have := putB_size st; have := putB_size k; omega
  have n2 : ¬ 9223372036854775807 < (putB st).size + (putB k).size + (putB n).size := by have := putB_size st; have := putB_size k; have := putB_size n; omega
  have n3 : ¬ 9223372036854775807 < (putB st).size + (putB k).size + (putB n).size + P4.size := by have := putB_size st; have := putB_size k; have := putB_size n; omega
  have C26 : Hid (∀ W m, (m = st ∨ m = k ∨ m = n) → Box2 w bx bz st k n s W → Calls Try.prog 24 #[.int .i64 m] W fun e w' => e = .returned (.string (putB m)) ∧ Box2 w bx bz st k n s w') := fun W m hm hW => (HP.out m hm W).mono fun _ _ ⟨he, hb⟩ => ⟨he, hW.go hb⟩
  have C27 : Hid (∀ W, Box2 w bx bz st k n s W → Calls Try.prog 25 #[.string s] W fun e w' => e = .returned (.string P4) ∧ Box2 w bx bz st k n s w') := fun W hW => (HT.out W).mono fun _ _ ⟨he, hb⟩ => ⟨he, hW.go hb⟩
  clear HP HT
  go_region_held3 (fun W => W.cell? ⟨bx, 0, none⟩ = some (.int .i64 st) ∧ W.cell? ⟨bx, 1, none⟩ = some (.int .i64 k) ∧ W.cell? ⟨bx, 2, none⟩ = some (.int .i64 n) ∧ W.cell? ⟨bx, 3, none⟩ = some (.string s) ∧
    W.cell? ⟨bz, 0, none⟩ = some (c0 bz W) ∧ W.cell? ⟨bz, 1, none⟩ = some (.int .i64 0) ∧ W.cell? ⟨bz, 2, none⟩ = some (.int .i64 0) ∧
    W.frozen? ⟨bz, 0, none⟩ = false ∧ W.frozen? ⟨bz, 1, none⟩ = false ∧ W.frozen? ⟨bz, 2, none⟩ = false ∧
    Hid (Below w.heap.size w W) ∧ Hid (bx < W.heap.size) ∧ Hid (bz < W.heap.size)) (first | assumption | exact Box2.drew (by assumption) | exact Box2.set (by assumption) hne HBR.out _) (first | (go_at_call 24; refine Calls.mono (C26.out _ _ (by simp) (by assumption)) ?_; rintro e w7 ⟨rfl, hW7⟩) | (go_at_call 25; refine Calls.mono (C27.out _ (by assumption)) ?_; rintro e w7 ⟨rfl, hW7⟩))
  have hfin : Hid (Below w.heap.size w w7) := hW7.2.2.2.2.2.2.2.2.2.2.1
  obtain ⟨_, _, _, _, q0, q1, q2, _⟩ := id hW7
  go_wp2_with fail
  refine bodyPost_ret (v := .agg #[.string (putB st ++ putB k ++ putB n ++ P4), .int .i64 0, .int .i64 0]) (by simp [results, Try.results10, go_sem, q0, q1, q2]) rfl ⟨by rw [HV.out], ?_⟩
  exact ((hfin.out.setCell HBR.out _).setCell HBR.out _).setCell HBR.out _
end Go.Proofs.Ytmjmlccdgdakdaa.T
