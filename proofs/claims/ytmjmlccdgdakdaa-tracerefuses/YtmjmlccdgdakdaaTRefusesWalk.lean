-- PROVED: the walk of 'TraceRefuses'.
import Derived.Test.YtmjmlccdgdakdaaTRefPut
import Derived.Test.YtmjmlccdgdakdaaTAwake
import Derived.Test.YtmjmlccdgdakdaaFRefPutF
namespace Go.Proofs.Ytmjmlccdgdakdaa.T
open Go.RowKit
def r5 : Tm.Rec := ⟨5, 1, 0, []⟩
def r4 : Tm.Rec := ⟨4, 1, 0, []⟩
theorem r5_ok : Tm.ok r5 = true := by decide
theorem r4_ok : Tm.ok r4 = true := by decide
theorem r5_fits : Tm.fits r5 := by unfold Tm.fits r5; simp
theorem r4_fits : Tm.fits r4 := by unfold Tm.fits r4; simp
theorem fall_no : Tm.good 0 [r5, r4] = false := by decide
theorem fall_decode : Tm.decode (Fm.put (Tm.put r5) ++ Fm.put (Tm.put r4)) = ([r5], (Fm.put (Tm.put r5)).length, 4) := by
  have h5 := Tm.ok_len r5_ok
  have h4 := Tm.ok_len r4_ok
  have ha := Fm.all_whole [Tm.put r5, Tm.put r4] (by intro t ht; simp at ht; rcases ht with rfl | rfl <;> omega)
  have e : Fm.puts [Tm.put r5, Tm.put r4] = Fm.put (Tm.put r5) ++ Fm.put (Tm.put r4) := by simp [Fm.puts]
  rw [e] at ha
  have p5 := Tm.is_put r5_fits r5_ok
  have p4 := Tm.is_put r4_fits r4_ok
  have hd : Tm.dec 0 [Tm.put r5, Tm.put r4] = ([r5], false) := by
    have n5 : Tm.next 0 (Tm.put r5) = true := by unfold Tm.next; rw [p5.1, p5.2]; decide
    have n4 : Tm.next r5.step (Tm.put r4) = false := by unfold Tm.next; rw [p4.1, p4.2]; decide
    simp only [Tm.dec]
    rw [n5, p5.2, n4]
    rfl
  unfold Tm.decode
  rw [ha]
  simp only []
  rw [hd]
  simp [Fm.puts]
theorem Recs.pair (w : World) (r q : Tm.Rec) (t : TypeId) : Recs (w.alloc (.cells #[.int .i64 r.step, .int .i64 r.kind, .int .i64 r.n, .string ⟨r.s.toArray⟩, .int .i64 q.step, .int .i64 q.kind, .int .i64 q.n, .string ⟨q.s.toArray⟩] t)) (some ⟨w.heap.size, 0, none⟩) [r, q] := by
  refine .inr ⟨w.heap.size, 0, rfl, by simp, fun j hj => ?_⟩
  match j, hj with
  | 0, _ => refine ⟨?_, ?_, ?_, ?_⟩ <;> simp
  | 1, _ => refine ⟨?_, ?_, ?_, ?_⟩ <;> simp
/-- Eight inputs that may not be. -/
theorem bad_cases (S : ByteArray) (hS : S.size = 1025) (q : Nat) (hq : q < 8) : ∃ (k n : Int) (s : ByteArray), s.size ≤ 2000 ∧ Tm.may k n s.data.toList = false ∧
    ((q = 0 ∧ k = 0 ∧ n = 0 ∧ s = ⟨#[]⟩) ∨ (q = 1 ∧ k = 6 ∧ n = 0 ∧ s = ⟨#[]⟩) ∨ (q = 2 ∧ k = 1 ∧ n = 2147483648 ∧ s = ⟨#[]⟩) ∨ (q = 3 ∧ k = 2 ∧ n = -2147483649 ∧ s = ⟨#[]⟩) ∨ (q = 4 ∧ k = 3 ∧ n = 1 ∧ s = ⟨#[]⟩) ∨ (q = 5 ∧ k = 4 ∧ n = 0 ∧ s = S) ∨ (q = 6 ∧ k = 5 ∧ n = -1 ∧ s = ⟨#[]⟩) ∨ (q = 7 ∧ k = 1 ∧ n = 0 ∧ s = ⟨#[120]⟩)) := by
  match q, hq with
  | 0, _ => exact ⟨0, 0, ⟨#[]⟩, by decide, by decide, by simp⟩
  | 1, _ => exact ⟨6, 0, ⟨#[]⟩, by decide, by decide, by simp⟩
  | 2, _ => exact ⟨1, 2147483648, ⟨#[]⟩, by decide, by decide, by simp⟩
  | 3, _ => exact ⟨2, -2147483649, ⟨#[]⟩, by decide, by decide, by simp⟩
  | 4, _ => exact ⟨3, 1, ⟨#[]⟩, by decide, by decide, by simp⟩
  | 5, _ => exact ⟨4, 0, S, by omega, by unfold Tm.may; rw [V.size_list, hS]; decide, by simp⟩
  | 6, _ => exact ⟨5, -1, ⟨#[]⟩, by decide, by decide, by simp⟩
  | 7, _ => exact ⟨1, 0, ⟨#[120]⟩, by decide, by decide, by simp⟩
theorem long_text : ∃ (mc : Array Value) (S : ByteArray), S.size = 1025 ∧ (∀ W : World, (Instr.makeSlice 50 (.int .i64 1025) (.int .i64 1025)).run Try.prog W = .ok (.slice (some ⟨W.heap.size, 0, none⟩) 1025 1025) (W.alloc (.cells mc 5))) ∧
    ∀ W : World, (convert 50 9 (.slice (some ⟨W.heap.size, 0, none⟩) 1025 1025)).run Try.prog (W.alloc (.cells mc 5)) = .ok (.string S) (W.alloc (.cells mc 5)) := by
  refine ⟨madeCells #[.int .u8 0] 1025, ⟨(List.replicate 1025 0).toArray⟩, by rw [mk_size, List.length_replicate], fun W => C.run_make_bytes W 1025 (by omega), fun W => ?_⟩
  have := (C.Mine.make W 1025).conv 1025
  rw [List.length_replicate] at this
  exact this
theorem run_fieldS (u : ByteArray) (a b : Int) (W : World) : (Instr.field 32 (.agg #[.string u, .int .i64 a, .int .i64 b]) 0).run Try.prog W = .ok (.string u) W := by
  simp [Instr.field, go_sem, asAgg]
/-- The input's three cells. -/
def InAt (b : Nat) (k n : Int) (s : ByteArray) (W : World) : Prop :=
  W.cell? ⟨b, 0, none⟩ = some (.int .i64 k) ∧ W.cell? ⟨b, 1, none⟩ = some (.int .i64 n) ∧ W.cell? ⟨b, 2, none⟩ = some (.string s) ∧ Hid (b < W.heap.size)
theorem InAt.go {b : Nat} {k n : Int} {s : ByteArray} {W W' : World} (h : InAt b k n s W) (hb : Below W.heap.size W W') : InAt b k n s W' := by
  obtain ⟨h1, h2, h3, h4⟩ := h
  exact ⟨(hb.cell (p := ⟨b, 0, none⟩) h4.out).trans h1, (hb.cell (p := ⟨b, 1, none⟩) h4.out).trans h2, (hb.cell (p := ⟨b, 2, none⟩) h4.out).trans h3, Nat.lt_of_lt_of_le h4.out hb.size⟩
theorem input_kept {W w1 : World} {k n : Int} {s : ByteArray} {t : TypeId} (hb : Below (W.alloc (.cells #[.int .i64 k, .int .i64 n, .string s] t)).heap.size (W.alloc (.cells #[.int .i64 k, .int .i64 n, .string s] t)) w1) : InAt W.heap.size k n s w1 :=
  InAt.go ⟨by simp, by simp, by simp, (show W.heap.size < _ from by simp)⟩ hb
set_option maxRecDepth 100000 in
set_option maxHeartbeats 4000000 in
theorem trefuses_walk (x : Nat) (n0 : Int) (w : World) (hx : x < 256) (h1 : -9223372036854775808 ≤ n0) (h2 : n0 ≤ 9223372036854775807) :
    Calls Try.prog 5 #[.int .u8 (x : Int), .int .i64 n0] w fun e w' => e = .returned (.bool true) ∧ Below w.heap.size w w' := by
  have hfld := run_fieldS
  obtain ⟨mc, S, hS, hmk, hcv⟩ := long_text
  obtain ⟨q, hq⟩ : ∃ q, x % 8 = q := ⟨_, rfl⟩
  have hq8 : q < 8 := by omega
  have hqI : (x : Int) % 8 = (q : Int) := by omega
  have hq8' : (q : Int) < 8 := by omega
  obtain ⟨k, n, s, hs, hm, hcase⟩ := bad_cases S hS q hq8
  have HM : Hid (_) := fun W => may_any k n s W (by unfold maxLen; omega)
  have hno : Tm.ok ⟨0, k, n, s.data.toList⟩ = false := by unfold Tm.ok; simp only []; rw [hm]; rfl
  rw [hm] at HM
  have HP1 : Hid (_) := fun W => put_no ⟨0, k, n, s.data.toList⟩ W (by simp only []; rw [V.size_list]; unfold maxLen; omega) hno
  have HP2 : Hid (_) := fun W => put_no ⟨min n0 (-1), 1, 0, []⟩ W (by simp [maxLen]) (by unfold Tm.ok; simp; omega)
  have HEN : Hid (_) := fun W => enc_any [r5, r4] (some ⟨W.heap.size, 0, none⟩) 2 (W.alloc (.cells #[.int .i64 5, .int .i64 1, .int .i64 0, .string ⟨#[]⟩, .int .i64 4, .int .i64 1, .int .i64 0, .string ⟨#[]⟩] 27)) (by simp) (by intro r hr; simp at hr; rcases hr with rfl | rfl; exact r5_fits; exact r4_fits) (by intro r hr; simp at hr; rcases hr with rfl | rfl <;> decide) (Recs.pair W r5 r4 27)
  rw [enc_no fall_no] at HEN
  have HR5 : Hid (_) := fun W => rput_ok r5 W r5_fits r5_ok
  have HR4 : Hid (_) := fun W => rput_ok r4 W r4_fits r4_ok
  have e5 : F.putE (Tm.put r5) = (Fm.put (Tm.put r5), 0) := by unfold F.putE; rw [if_neg (by have := Tm.ok_len r5_ok; omega)]
  have e4 : F.putE (Tm.put r4) = (Fm.put (Tm.put r4), 0) := by unfold F.putE; rw [if_neg (by have := Tm.ok_len r4_ok; omega)]
  have HF5 : Hid (_) := fun W => F.rput_any ⟨(Tm.put r5).toArray⟩ W
  have HF4 : Hid (_) := fun W => F.rput_any ⟨(Tm.put r4).toArray⟩ W
  rw [show (⟨(Tm.put r5).toArray⟩ : ByteArray).data.toList = Tm.put r5 from rfl, e5] at HF5
  rw [show (⟨(Tm.put r4).toArray⟩ : ByteArray).data.toList = Tm.put r4 from rfl, e4] at HF4
  have b5 := (Fm.put_bounds (Tm.put r5)).2
  have b4 := (Fm.put_bounds (Tm.put r4)).2
  have o5 := Tm.ok_len r5_ok
  have o4 := Tm.ok_len r4_ok
  have s5 := mk_size (Fm.put (Tm.put r5))
  have s4 := mk_size (Fm.put (Tm.put r4))
  have hcat : (⟨(Fm.put (Tm.put r5)).toArray⟩ ++ ⟨(Fm.put (Tm.put r4)).toArray⟩ : ByteArray) = ⟨(Fm.put (Tm.put r5) ++ Fm.put (Tm.put r4)).toArray⟩ := F.cat_eq _ _
  have HD : Hid (_) := fun W => dec_any (⟨(Fm.put (Tm.put r5)).toArray⟩ ++ ⟨(Fm.put (Tm.put r4)).toArray⟩) W (by rw [ByteArray.size_append, s5, s4]; omega)
  rw [show (⟨(Fm.put (Tm.put r5)).toArray⟩ ++ ⟨(Fm.put (Tm.put r4)).toArray⟩ : ByteArray).data.toList = Fm.put (Tm.put r5) ++ Fm.put (Tm.put r4) from by rw [hcat], fall_decode, ← s5] at HD
  unfold recV at HP1 HP2 HR5 HR4
  have z5 : (⟨(Fm.put (Tm.put r5)).toArray⟩ : ByteArray).size ≤ 2000 := by omega
  have z4 : (⟨(Fm.put (Tm.put r4)).toArray⟩ : ByteArray).size ≤ 2000 := by omega
  rw [show (⟨s.data.toList.toArray⟩ : ByteArray) = s from rfl] at HP1
  clear b5 b4 o5 o4 s5 s4 e5 e4 hcat hno hm hq hS hs
  simp only [] at HP1 HP2 HEN HF5 HF4
  generalize (⟨(Fm.put (Tm.put r5)).toArray⟩ : ByteArray) = T5 at *
  generalize (⟨(Fm.put (Tm.put r4)).toArray⟩ : ByteArray) = T4 at *
  generalize (⟨(Tm.put r5).toArray⟩ : ByteArray) = U5 at *
  generalize (⟨(Tm.put r4).toArray⟩ : ByteArray) = U4 at *
  rw [show r5.step = 5 from rfl, show r5.kind = 1 from rfl, show r5.n = 0 from rfl, show (⟨r5.s.toArray⟩ : ByteArray) = ⟨#[]⟩ from rfl] at HR5
  rw [show r4.step = 4 from rfl, show r4.kind = 1 from rfl, show r4.n = 0 from rfl, show (⟨r4.s.toArray⟩ : ByteArray) = ⟨#[]⟩ from rfl] at HR4
  have hmin : ∀ W : World, (Builtin.min_ #[3, 3] 3 #[.int .i64 n0, .int .i64 (-1)]).run Try.prog W = .ok (.int .i64 (min n0 (-1))) W := by
    intro W
    simp only [Builtin.min_, Builtin.min2, List.foldlM]
    simp
    split <;> omega
  generalize min n0 (-1) = mn at *
  clear hq8 hq8'
  rcases hcase with ⟨rfl, rfl, rfl, rfl⟩ | ⟨rfl, rfl, rfl, rfl⟩ | ⟨rfl, rfl, rfl, rfl⟩ | ⟨rfl, rfl, rfl, rfl⟩ | ⟨rfl, rfl, rfl, rfl⟩ | ⟨rfl, rfl, rfl, rfl⟩ | ⟨rfl, rfl, rfl, rfl⟩ | ⟨rfl, rfl, rfl, rfl⟩
  all_goals
    go_enter Try.func5, Try.ntmps5
    go_wp2_with fail
    refine Calls.mono (HP1.out _) ?_
    rintro e w1 ⟨rfl, hb1⟩
    have hA := input_kept hb1
    have HB1 : Hid (Below w.heap.size w w1) := C.below_chain ((((Below.refl w.heap.size w).alloc (Nat.le_refl _) _).alloc (by simp) _).alloc (by simp; omega) _) hb1
    simp only [World.size_alloc] at hA
    clear hb1
    generalize w.heap.size + 1 + 1 = bi at hA ⊢
    go_wp2_with fail
    refine Calls.mono (HP2.out _) ?_
    rintro e w2 ⟨rfl, hb2⟩
    have hA2 := InAt.go hA hb2
    have HB2 : Hid (Below w.heap.size w w2) := C.below_chain HB1.out hb2
    clear hb2 hA HB1
    go_wp2_with fail
    refine Calls.mono (HEN.out _) ?_
    rintro e w3 ⟨rfl, hb3⟩
    have hb3' := C.below_chain ((Below.refl w2.heap.size w2).alloc (Nat.le_refl _) _) hb3
    have hA3 := InAt.go hA2 hb3'
    have HB3 : Hid (Below w.heap.size w w3) := C.below_chain HB2.out hb3'
    clear hb3 hb3' hA2 HB2
    go_wp2_with fail
    refine Calls.mono (HR5.out _) ?_
    rintro e w4 ⟨rfl, hb4⟩
    have hA4 := InAt.go hA3 hb4
    have HB4 : Hid (Below w.heap.size w w4) := C.below_chain HB3.out hb4
    clear hb4 hA3 HB3
    go_wp2_with fail
    refine Calls.mono (HF5.out _) ?_
    rintro e w5 ⟨rfl, hb5⟩
    have hA5 := InAt.go hA4 hb5
    have HB5 : Hid (Below w.heap.size w w5) := C.below_chain HB4.out hb5
    clear hb5 hA4 HB4
    go_wp2_with fail
    refine Calls.mono (HR4.out _) ?_
    rintro e w6 ⟨rfl, hb6⟩
    have hA6 := InAt.go hA5 hb6
    have HB6 : Hid (Below w.heap.size w w6) := C.below_chain HB5.out hb6
    clear hb6 hA5 HB5
    go_wp2_with fail
    refine Calls.mono (HF4.out _) ?_
    rintro e w7 ⟨rfl, hb7⟩
    have hA7 := InAt.go hA6 hb7
    have HB7 : Hid (Below w.heap.size w w7) := C.below_chain HB6.out hb7
    clear hb7 hA6 HB6
    go_wp2_with fail
    refine Calls.mono (HD.out _) ?_
    rintro e w8 ⟨v8, rfl, ho8, hb8⟩
    obtain ⟨a8, c8, rfl⟩ := own_form ho8
    obtain ⟨i0, i1, i2, _⟩ := InAt.go hA7 hb8
    have HB8 : Hid (Below w.heap.size w w8) := C.below_chain HB7.out hb8
    clear ho8 hb8 hA7 HB7
    go_wp2_with fail
    refine Calls.mono (HM.out _) ?_
    rintro e w9 ⟨rfl, hb9⟩
    go_wp2_with (first | (go_at_call 13; refine Calls.mono (V.err_any _ _) ?_; rintro e w19 ⟨rfl, rfl⟩) | (go_at_call 8; refine (awake_any _).mono ?_; rintro e w20 ⟨rfl, hb20⟩))
    go_ret
    exact ⟨rfl, C.below_chain (C.below_chain HB8.out hb9) hb20⟩
end Go.Proofs.Ytmjmlccdgdakdaa.T
