-- PROVED: HeapMarks, walked.
import Derived.Test.YtmipgpkeegggpaaHAwake
namespace Go.Proofs.Ytmipgpkeegggpaa.P
open Go.RowKit
set_option linter.unusedVariables false
/-- A cell without lists that a statement has put down. -/
def At (w : World) (q : Nat) (x a : Int) : Prop := ∃ aK kK aV kV, w.heap[q]? = some (.cells #[.int .i64 x, .int .i64 a, .int .i64 0, .slice aK 0 kK, .slice aV 0 kV] 30 (0, 0))
theorem At.keep {S : List TypeId} {base : Nat} {w w' : World} {q : Nat} {x a : Int} (h : At w q x a) (k : Keep S base w w') (hS : 30 ∉ S) : At w' q x a := by
  obtain ⟨aK, kK, aV, kV, h⟩ := h
  exact ⟨aK, kK, aV, kV, (k.same q _ _ _ h hS).trans h⟩
theorem At.below {w w' : World} {q : Nat} {x a : Int} (h : At w q x a) (k : Below w.heap.size w w') : At w' q x a := by
  obtain ⟨aK, kK, aV, kV, h⟩ := h
  exact ⟨aK, kK, aV, kV, (k.block _ (heap_lt h)).trans h⟩
theorem At.cell {w : World} {q : Nat} {x a : Int} (h : At w q x a) : w.cell? ⟨q, 0, none⟩ = some (.int .i64 x) ∧ q < w.heap.size := by
  obtain ⟨aK, kK, aV, kV, h⟩ := h
  exact ⟨(blk5 h).1, heap_lt h⟩
/-- What is loaded, and put down. -/
theorem put_at {base : Nat} {w w1 : World} (hB : base ≤ w.heap.size) (h : Below w.heap.size w w1) (x a : Int) (aK aV : Option Addr) (kK kV : Nat) :
    Below w.heap.size w (w1.alloc (.cells #[.int .i64 x, .int .i64 a, .int .i64 0, .slice aK 0 kK, .slice aV 0 kV] 30)) ∧ At (w1.alloc (.cells #[.int .i64 x, .int .i64 a, .int .i64 0, .slice aK 0 kK, .slice aV 0 kV] 30)) w1.heap.size x a :=
  ⟨h.alloc h.size _, aK, kK, aV, kV, heap_alloc_new _ _⟩
set_option maxRecDepth 100000 in
set_option maxHeartbeats 4000000 in
theorem hmarks_walk (n m : Int) (w : World) (hn : 0 ≤ n ∧ n ≤ 255) (hm : 0 ≤ m ∧ m ≤ 255) :
    Calls Try.prog 6 #[.int .u8 n, .int .u8 m] w fun e w' => e = .returned (.bool true) ∧ Below w.heap.size w w' := by
  clear hm
  obtain ⟨hn0, hn1⟩ := hn
  have hm0 : 0 ≤ n % 40 := by omega
  obtain ⟨k0, hm⟩ := Int.eq_ofNat_of_zero_le hm0
  have hm1 : k0 < 40 := by omega
  have HM : Hid (n % 40 = (k0 : Int)) := hm
  clear hm hm0
  go_enter Try.func6, Try.ntmps6
  go_wp2_with fail
  refine Calls.mono (hnew (sys_nil w) (by simp)) ?_
  rintro e w1 ⟨H, A, rfl, b, HS1, HF1, HH1, HQ, HB1⟩
  clear HQ
  go_wp2_with fail
  rw [HM.out]
  obtain ⟨k, hk0, hk1, hk2⟩ : ∃ k : Nat, 1 + (k0 : Int) = (k : Int) ∧ 1 ≤ k ∧ k ≤ 40 := ⟨1 + k0, by push_cast; rfl, by omega, by omega⟩
  rw [hk0]
  clear hk0 HM hm1 hn0 hn1
  go_loopw [7] (fun i wr => ∃ (j : Nat) (b : Bk), i = .int .i64 (j : Int) ∧ j ≤ k ∧ Hid (Sys w.heap.size wr [b]) ∧ Hid (Row (fun j => pc 1 j) A w.heap.size j b) ∧ Hid (Hp wr H A) ∧ Hid (Below w.heap.size w wr)) (fun i _ => k - (intOf i).toNat)
  case atStart => exact ⟨0, b, rfl, by omega, HS1, Row.new HF1.out, HH1, HB1⟩
  case round =>
    clear HS1 HF1 HB1 HH1
    obtain ⟨j, b, rfl, hk, HS, HR, HH, HB⟩ := hrel
    by_cases hlt : j < k
    · have hlt' : (j : Int) < (k : Int) := by omega
      have HA : Hid (_) := halloc_p HS.out (i := 0) rfl HR.out.at_ HH.out HR.out.opn (by rw [HR.out.len]; omega) rfl 1 (j : Int)
      go_wp2_with fail
      refine Calls.mono HA.out ?_
      rintro e w3 ⟨rfl, a2, HS3, HD3, HK3⟩
      go_wp2_with fail
      go_roundw
      case rel => exact ⟨j + 1, a2, by go_num, by omega, HS3, HR.out.add HD3.out rfl, HH.out.keep HK3.out (by simp [Four]), HB.out.trans HK3.out.bel⟩
      case measure => simp [intOf]; omega
    · have hk2 : j = k := by omega
      subst hk2
      have hlt' : ¬ ((j : Int) < (j : Int)) := by omega
      have HMk : Hid (_) := hmark HS.out (by simp) (i := 0) (b := b) rfl HR.out.at_ HH.out HR.out.opn
      go_wp2_with fail
      refine Calls.mono HMk.out ?_
      rintro e w3 ⟨HM, A', v, rfl, HQ3, hs3, hh3, hk3⟩
      obtain ⟨M, hM0, hM1, hM2, hM3, hM5, hM6⟩ : ∃ M : Bk, Sys w.heap.size w3 [b, M] ∧ M.at_ = A' ∧ M.fam = b.fam ∧ M.len = j ∧ M.slots = b.slots ∧ M.opn = true := ⟨_, hs3.out, rfl, rfl, HR.out.len, rfl, HR.out.opn⟩
      have HS3 : Hid (Sys w.heap.size w3 [b, M]) := hM0
      have HB3 : Hid (Below w.heap.size w w3) := HB.out.trans hk3.out.bel
      have HRM : Hid (Row (fun j => pc 1 j) A' w.heap.size j M) := ⟨hM1, hM6, hM2.trans HR.out.fam, hM3, fun i hi => by rw [hM5]; exact HR.out.cell i hi⟩
      have HH3 : Hid (Hp w3 H A) := HH.out.keep hk3.out (by simp)
      have HM3 : Hid (Hp w3 HM A') := hh3
      clear hM0 hM1 hM2 hM3 hM5 hM6 hs3 hk3 hh3 HMk HS HB HH HQ3
      have H1 : Hid (_) := halloc_p HS3.out (i := 0) (b := b) rfl HR.out.at_ HH3.out HR.out.opn (by rw [HR.out.len]; omega) (n := (j : Int) + 1) (by rw [HR.out.len]) 2 0
      go_wp2_with fail
      refine Calls.mono H1.out ?_
      rintro e w4 ⟨rfl, b4, hs4, hd4, hk4⟩
      have HS4 : Hid (Sys w.heap.size w4 [b4, M]) := hs4.out
      have HB4 : Hid (Below w.heap.size w w4) := HB3.out.trans hk4.out.bel
      have HH4 : Hid (Hp w4 H A) := HH3.out.keep hk4.out (by simp [Four])
      have HM4 : Hid (Hp w4 HM A') := HM3.out.keep hk4.out (by simp [Four])
      have HA4 : Hid (b4.at_ = A ∧ b4.opn = true ∧ b4.fam = w.heap.size ∧ b4.len = j + 1 ∧ b4.slots[j]? = some (pc 2 0)) := ⟨hd4.out.at_.trans HR.out.at_, hd4.out.opn.trans HR.out.opn, hd4.out.fam.trans HR.out.fam, by rw [hd4.out.len, HR.out.len], by have := hd4.out.new; rwa [HR.out.len] at this⟩
      clear hs4 hd4 hk4 HS3 HB3 HH3 HM3 H1 HR
      have H1 : Hid (_) := halloc_p HS4.out (i := 1) (b := M) rfl HRM.out.at_ HM4.out HRM.out.opn (by rw [HRM.out.len]; omega) (n := (j : Int) + 1) (by rw [HRM.out.len]) 3 0
      go_wp2_with fail
      refine Calls.mono H1.out ?_
      rintro e w5 ⟨rfl, M5, hs5, hd5, hk5⟩
      have HS5 : Hid (Sys w.heap.size w5 [b4, M5]) := hs5.out
      have HB5 : Hid (Below w.heap.size w w5) := HB4.out.trans hk5.out.bel
      have HH5 : Hid (Hp w5 H A) := HH4.out.keep hk5.out (by simp [Four])
      have HM5 : Hid (Hp w5 HM A') := HM4.out.keep hk5.out (by simp [Four])
      have HA5 : Hid (M5.at_ = A' ∧ M5.fam = w.heap.size ∧ M5.len = j + 1 ∧ M5.slots[j]? = some (pc 3 0) ∧ M5.slots[0]? = some (pc 1 0)) := ⟨hd5.out.at_.trans HRM.out.at_, hd5.out.fam.trans HRM.out.fam, by rw [hd5.out.len, HRM.out.len], by have := hd5.out.new; rwa [HRM.out.len] at this, by rw [hd5.out.old 0 (by rw [HRM.out.len]; omega)]; exact HRM.out.cell 0 (by omega)⟩
      clear hs5 hd5 hk5 HS4 HB4 HH4 HM4 H1 HRM
      have H1 : Hid (_) := hload_p HS5.out (i := 0) (b := b4) rfl HA4.out.1 HH5.out j (K := (j : Int) + 1) rfl (by rw [HA4.out.2.2.2.1]; omega) HA4.out.2.2.2.2
      go_wp2_with fail
      refine Calls.mono H1.out ?_
      rintro e w6 ⟨aK, kK, aV, kV, rfl, hb6⟩
      obtain ⟨q1, q2⟩ := put_at HS5.out.size hb6.out 2 0 aK aV kK kV
      have HC6 : Hid (At _ _ 2 0) := q2
      have HS6 : Hid (_) := HS5.out.below q1
      have HB6 : Hid (_) := Below.chain HB5.out q1 HB5.out.size
      have HH6 : Hid (Hp _ H A) := HH5.out.below q1
      have HM6 : Hid (Hp _ HM A') := HM5.out.below q1
      clear q1 q2 hb6 H1 HS5 HB5 HH5 HM5
      have H1 : Hid (_) := hload_p HS6.out (i := 1) (b := M5) rfl HA5.out.1 HM6.out j (K := (j : Int) + 1) rfl (by rw [HA5.out.2.2.1]; omega) HA5.out.2.2.2.1
      go_wp2_with fail
      generalize w6.alloc (.cells #[.int .i64 2, .int .i64 0, .int .i64 0, .slice aK 0 kK, .slice aV 0 kV] 30) = v6 at *
      generalize w6.heap.size = q6 at *
      refine Calls.mono H1.out ?_
      rintro e w7 ⟨aK, kK, aV, kV, rfl, hb7⟩
      obtain ⟨q1, q2⟩ := put_at HS6.out.size hb7.out 3 0 aK aV kK kV
      have HD7 : Hid (At _ _ 3 0) := q2
      have HC7 : Hid (At _ _ 2 0) := HC6.out.below q1
      have HS7 : Hid (_) := HS6.out.below q1
      have HB7 : Hid (_) := Below.chain HB6.out q1 HB6.out.size
      have HH7 : Hid (Hp _ H A) := HH6.out.below q1
      have HM7 : Hid (Hp _ HM A') := HM6.out.below q1
      clear q1 q2 hb7 H1 HS6 HB6 HH6 HM6 HC6
      have H1 : Hid (_) := hstore_p HS7.out (i := 0) (b := b4) rfl HA4.out.1 HH7.out 0 (K := 1) rfl (by rw [HA4.out.2.2.2.1]; omega) 4 0
      go_wp2_with fail
      generalize w7.alloc (.cells #[.int .i64 3, .int .i64 0, .int .i64 0, .slice aK 0 kK, .slice aV 0 kV] 30) = v7 at *
      generalize w7.heap.size = q7 at *
      refine Calls.mono H1.out ?_
      rintro e w8 ⟨rfl, q, HQ, hs8, hk8⟩
      have HS8 : Hid (Sys w.heap.size w8 [upd [b4, M5] b4 0 (pc 4 0) q, M5]) := hs8.out
      have HD8 : Hid (At _ _ 3 0) := HD7.out.keep hk8.out (by simp [Four])
      have HC8 : Hid (At _ _ 2 0) := HC7.out.keep hk8.out (by simp [Four])
      have HB8 : Hid (_) := HB7.out.trans hk8.out.bel
      have HH8 : Hid (Hp _ H A) := HH7.out.keep hk8.out (by simp [Four])
      have HM8 : Hid (Hp _ HM A') := HM7.out.keep hk8.out (by simp [Four])
      clear hs8 hk8 HQ H1 HS7 HD7 HC7 HB7 HH7 HM7
      have H1 : Hid (_) := hload_p HS8.out (i := 1) (b := M5) rfl HA5.out.1 HM8.out 0 (K := 1) rfl (by rw [HA5.out.2.2.1]; omega) HA5.out.2.2.2.2
      go_wp2_with fail
      refine Calls.mono H1.out ?_
      rintro e w9 ⟨aK, kK, aV, kV, rfl, hb9⟩
      obtain ⟨q1, q2⟩ := put_at HS8.out.size hb9.out 1 0 aK aV kK kV
      have HX9 : Hid (At _ _ 1 0) := q2
      have HC9 : Hid (At _ _ 2 0) := HC8.out.below q1
      have HD9 : Hid (At _ _ 3 0) := HD8.out.below q1
      have HS9 : Hid (_) := HS8.out.below q1
      have HB9 : Hid (_) := Below.chain HB8.out q1 HB8.out.size
      have HH9 : Hid (Hp _ H A) := HH8.out.below q1
      have HM9 : Hid (Hp _ HM A') := HM8.out.below q1
      clear q1 q2 hb9 H1 HS8 HB8 HH8 HM8 HC8 HD8
      have H1 : Hid (_) := hdrop HS9.out (i := 1) (b := M5) rfl HA5.out.1 HM9.out
      go_wp2_with fail
      generalize w9.alloc (.cells #[.int .i64 1, .int .i64 0, .int .i64 0, .slice aK 0 kK, .slice aV 0 kV] 30) = v9 at *
      generalize w9.heap.size = q9 at *
      refine Calls.mono H1.out ?_
      rintro e w10 ⟨rfl, hs10, hk10⟩
      have HS10 : Hid (Sys w.heap.size w10 [upd [b4, M5] b4 0 (pc 4 0) q, gone M5]) := hs10.out
      have HX10 : Hid (At _ _ 1 0) := HX9.out.keep hk10.out (by simp [Four])
      have HD10 : Hid (At _ _ 3 0) := HD9.out.keep hk10.out (by simp [Four])
      have HC10 : Hid (At _ _ 2 0) := HC9.out.keep hk10.out (by simp [Four])
      have HB10 : Hid (_) := HB9.out.trans hk10.out.bel
      have HH10 : Hid (Hp _ H A) := HH9.out.keep hk10.out (by simp [Four])
      have HM10 : Hid (Hp _ HM A') := HM9.out.keep hk10.out (by simp [Four])
      clear hs10 hk10 H1 HS9 HD9 HC9 HB9 HH9 HM9 HX9
      have H1 : Hid (_) := hload_no HS10.out (i := 1) (b := gone M5) rfl HA5.out.1 HM10.out 1 (by simp [gone])
      go_wp2_with fail
      refine Calls.mono H1.out ?_
      rintro e w11 ⟨rfl, hb11⟩
      have q1 : Below w10.heap.size w10 (w11.alloc (.cells #[.int .i64 0, .int .i64 0, .int .i64 0, .slice none 0 0, .slice none 0 0] 30)) := hb11.out.alloc hb11.out.size _
      have HX11 : Hid (At _ _ 1 0) := HX10.out.below q1
      have HC11 : Hid (At _ _ 2 0) := HC10.out.below q1
      have HD11 : Hid (At _ _ 3 0) := HD10.out.below q1
      have HS11 : Hid (_) := HS10.out.below q1
      have HB11 : Hid (_) := Below.chain HB10.out q1 HB10.out.size
      have HH11 : Hid (Hp _ H A) := HH10.out.below q1
      have HM11 : Hid (Hp _ HM A') := HM10.out.below q1
      clear q1 hb11 H1 HS10 HB10 HH10 HM10 HC10 HD10 HX10
      obtain ⟨c0, cl⟩ := HC11.out.cell
      obtain ⟨d0, dl⟩ := HD11.out.cell
      obtain ⟨x0, xl⟩ := HX11.out.cell
      have l1 := HS11.out.only (i := 0) (b := upd [b4, M5] b4 0 (pc 4 0) q) (f := b4.fam) rfl rfl fun j c hc hf => by
        match j, hc with
        | 0, hc => exact .inl rfl
        | 1, hc => simp at hc; subst hc; exact .inr rfl
      have l2 : (upd [b4, M5] b4 0 (pc 4 0) q).len = j + 1 := HA4.out.2.2.2.1
      rw [l2] at l1
      have HL : Hid (_) := hlive HS11.out (i := 0) (b := upd [b4, M5] b4 0 (pc 4 0) q) (n := ((j : Int) + 1 + 7) / 8) rfl HA4.out.1 HH11.out (by rw [l1]; omega)
      have HN : Hid (_) := hlen HS11.out (i := 1) (b := gone M5) (n := 0) rfl HA5.out.1 HM11.out rfl
      clear l1 l2 HX11 HC11 HD11 HS11 HH11 HM11 HA4 HA5
      go_wp2_with (first | (go_at_call 12; refine Calls.mono (err_any _ _) ?_; rintro e w9 ⟨rfl, rfl⟩) | (go_at_call 16; refine Calls.mono HN.out ?_; rintro e w9 ⟨rfl, rfl⟩) | (go_at_call 23; refine Calls.mono HL.out ?_; rintro e w9 ⟨rfl, rfl⟩) | (go_at_call 10; refine Calls.mono (hawake_any _) ?_; rintro e w12 ⟨rfl, HB12⟩))
      go_ret
      exact ⟨rfl, Below.chain HB11.out HB12 HB11.out.size⟩
end Go.Proofs.Ytmipgpkeegggpaa.P
