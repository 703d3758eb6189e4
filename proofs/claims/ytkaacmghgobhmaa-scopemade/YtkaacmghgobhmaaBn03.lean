/- Texts: LRToken RpM. -/
import Derived.Test.YtkaacmghgobhmaaBn02
import Derived.Lib.MinMax
import Derived.Deep.QuietTactic
import Derived.BigQuiet
import Derived.Test.YtkaacmghgobhmaaBn00
section
namespace Go.Proofs.Ytkaacmghgobhmaa.L
open Go.RowKit
set_option linter.unusedVariables false
theorem ofName_split (c : UInt8) : Lx.ofName c = (Lx.letter c || Lx.digit c) := rfl
theorem cut_pre (s : ByteArray) (q : Nat) (U : List UInt8) (h : q + U.length ≤ s.size) : ((s.extract q (q + U.length)).toList == U) = Lx.isPre U (s.data.toList.drop q) := by
  rw [extract_eq, ByteArray.toList_eq]
  unfold Lx.isPre
  rw [List.length_drop, size_list, decide_eq_true (by omega : U.length ≤ s.size - q), Bool.true_and]
  by_cases e : (s.data.toList.drop q).take U.length = U
  · simp [e]
  · simp [e]
theorem pre_short (s : ByteArray) (q : Nat) (U : List UInt8) (h : ¬ q + U.length ≤ s.size) (hq : q ≤ s.size) : Lx.isPre U (s.data.toList.drop q) = false := by
  unfold Lx.isPre
  rw [List.length_drop, size_list, decide_eq_false (by omega : ¬ U.length ≤ s.size - q), Bool.false_and]
theorem fst_at (l : List UInt8) (k : Nat) (h : k < 26) (h1 : ∀ j (hj : j < 26), j < k → Lx.isPre (Lx.osigns[j]'hj) l = false) (h2 : Lx.isPre (Lx.osigns[k]'h) l = true) : Lx.fst l = some (Lx.osigns[k]'h) := by
  unfold Lx.fst
  rw [List.find?_eq_some_iff_getElem]
  exact ⟨h2, k, h, rfl, fun j hj => by have := h1 j (by omega) hj; exact congrArg not this⟩
theorem fst_none (l : List UInt8) (h1 : ∀ j (hj : j < 26), Lx.isPre (Lx.osigns[j]'hj) l = false) : Lx.fst l = none := by
  unfold Lx.fst
  rw [List.find?_eq_none]
  intro x hx
  obtain ⟨j, hj, e⟩ := List.getElem_of_mem hx
  rw [← e, h1 j hj]; simp
theorem osig_small : ∀ s ∈ Lx.osigns, s.length ≤ 3 := by decide
/-- The cells of what is found, and of the token. -/
def FS (z : Nat) (q : Int) (ln : Bool) (W : World) : Prop :=
  W.cell? ⟨z, 0, none⟩ = some (.int .i64 0) ∧ W.cell? ⟨z, 1, none⟩ = some (.string ⟨#[]⟩) ∧ W.cell? ⟨z, 2, none⟩ = some (.int .i64 0) ∧ W.cell? ⟨z, 3, none⟩ = some (.int .i64 0) ∧ W.cell? ⟨z, 4, none⟩ = some (.bool false) ∧ W.cell? ⟨z, 5, none⟩ = some (.int .i64 0) ∧
  W.frozen? ⟨z, 0, none⟩ = false ∧ W.frozen? ⟨z, 1, none⟩ = false ∧ W.frozen? ⟨z, 2, none⟩ = false ∧ W.frozen? ⟨z, 3, none⟩ = false ∧ W.frozen? ⟨z, 4, none⟩ = false ∧ W.frozen? ⟨z, 5, none⟩ = false ∧
  W.cell? ⟨z + 1, 0, none⟩ = some (.int .i64 0) ∧ W.cell? ⟨z + 1, 1, none⟩ = some (.string ⟨#[]⟩) ∧ W.cell? ⟨z + 1, 2, none⟩ = some (.int .i64 0) ∧ W.cell? ⟨z + 1, 3, none⟩ = some (.int .i64 q) ∧ W.cell? ⟨z + 1, 4, none⟩ = some (.bool ln) ∧
  W.frozen? ⟨z + 1, 0, none⟩ = false ∧ W.frozen? ⟨z + 1, 1, none⟩ = false ∧ W.frozen? ⟨z + 1, 2, none⟩ = false ∧ W.frozen? ⟨z + 1, 3, none⟩ = false ∧ W.frozen? ⟨z + 1, 4, none⟩ = false
set_option maxRecDepth 100000 in
set_option maxHeartbeats 4000000 in
theorem rtoken_core (s : ByteArray) (a : Int) (P q : Nat) (ln : Bool) (w : World) (hs : s.size ≤ 1000000) (hP : (P : Int) = max 0 (min a s.size)) (hq : q ≤ s.size)
    (HB : Hid (∀ W, Calls Try.prog 33 #[.string s, .int .i64 (P : Int)] W fun e w' => e = .returned (.tuple #[.int .i64 (q : Int), .bool ln]) ∧ w' = W)) :
    Calls Try.prog 21 #[.string s, .int .i64 a] w fun e w' => FoundT (Lx.tokOf q ln (Lx.piece (s.data.toList.drop q))) e ∧ Below w.heap.size w w' := by
  obtain ⟨R, hR⟩ : ∃ R, Lx.piece (s.data.toList.drop q) = R := ⟨_, rfl⟩
  rw [hR]
  by_cases hlt : q < s.size
  · have hlt' : (q : Int) < s.size := by omega
    have hd := drop_at s q hlt
    have HDG : Hid (_) := fun W => rdigit_any s[q] W
    have HLT : Hid (_) := fun W => rletter_any s[q] W
    by_cases hdg : Lx.digit s[q] = true
    · rw [hdg] at HDG
      have HN : Hid (_) := fun W => rnumber_any s q ln W hs hlt hdg
      have e : Lx.pNum (s.data.toList.drop q) = R := by rw [← hR, hd]; exact (Lx.piece_digit _ _ hdg).symm
      rw [e] at HN
      clear hR hd HLT hdg e
      generalize Lx.tokOf q ln R = T at *
      go_enter Try.func21, Try.ntmps21
      go_wp2_with (first | (rw [← hP]; go_at_call 33; refine Calls.mono (HB.out _) ?_; rintro e w' ⟨rfl, rfl⟩) | (go_at_call 34; refine Calls.mono (HDG.out _) ?_; rintro e w' ⟨rfl, rfl⟩) | (go_at_call 37; refine Calls.mono (HLT.out _) ?_; rintro e w' ⟨rfl, rfl⟩))
      refine Calls.mono (HN.out _) ?_
      rintro e w1 ⟨⟨E, rfl, hE⟩, hb1⟩
      have HE : Hid (_) := hE
      have hsz := hb1.size
      simp only [alloc_size] at hsz
      obtain ⟨r0, r1, r2, r3, r4, r5, g0, g1, g2, g3, g4, g5⟩ := cells6 rfl (((Below.refl (w.heap.size + 1) _).alloc (by simp) _).trans (hb1.mono (by simp)))
      have hBB := (((Below.refl w.heap.size w).alloc (Nat.le_refl _) _).alloc (by simp) _).trans (hb1.mono (by simp; omega))
      have hlt1 : w.heap.size < w1.heap.size := by omega
      clear hb1 hE HN HB
      go_wp2_with fail
      refine bodyPost_ret (v := .agg #[.int .i64 (T.k : Int), .string ⟨T.t.toArray⟩, .int .i64 (T.n : Int), .int .i64 (T.a : Int), .bool T.ln, .int .i64 (E : Int)]) (by simp [results, Try.results21, go_sem, *]) rfl ⟨⟨E, rfl, HE.out⟩, ?_⟩
      repeat (first | with_reducible exact hBB | with_reducible exact Below.refl _ _ | (with_reducible refine Below.drew ?_) | (with_reducible refine Below.setCell ?_ (by first | exact Nat.le_refl _ | omega | simp) _) | (with_reducible refine Below.alloc ?_ (by first | exact Nat.le_refl _ | omega | simp | (simp; omega)) _))
    have hdg' : Lx.digit s[q] = false := by simpa using hdg
    rw [hdg'] at HDG
    by_cases h34 : s[q].toNat = 34
    · have e34 : ((s[q].toNat : Int) == 34) = true := by rw [beq_iff_eq]; omega
      have HN : Hid (_) := fun W => rquoted_any s q ln W hs hlt h34
      rw [hR] at HN
      clear hR hd HLT hdg hdg' h34
      generalize Lx.tokOf q ln R = T at *
      go_enter Try.func21, Try.ntmps21
      go_wp2_with (first | (rw [← hP]; go_at_call 33; refine Calls.mono (HB.out _) ?_; rintro e w' ⟨rfl, rfl⟩) | (go_at_call 34; refine Calls.mono (HDG.out _) ?_; rintro e w' ⟨rfl, rfl⟩) | (go_at_call 37; refine Calls.mono (HLT.out _) ?_; rintro e w' ⟨rfl, rfl⟩))
      refine Calls.mono (HN.out _) ?_
      rintro e w1 ⟨⟨E, rfl, hE⟩, hb1⟩
      have HE : Hid (_) := hE
      have hsz := hb1.size
      simp only [alloc_size] at hsz
      obtain ⟨r0, r1, r2, r3, r4, r5, g0, g1, g2, g3, g4, g5⟩ := cells6 rfl (((Below.refl (w.heap.size + 1) _).alloc (by simp) _).trans (hb1.mono (by simp)))
      have hBB := (((Below.refl w.heap.size w).alloc (Nat.le_refl _) _).alloc (by simp) _).trans (hb1.mono (by simp; omega))
      have hlt1 : w.heap.size < w1.heap.size := by omega
      clear hb1 hE HN HB
      go_wp2_with fail
      refine bodyPost_ret (v := .agg #[.int .i64 (T.k : Int), .string ⟨T.t.toArray⟩, .int .i64 (T.n : Int), .int .i64 (T.a : Int), .bool T.ln, .int .i64 (E : Int)]) (by simp [results, Try.results21, go_sem, *]) rfl ⟨⟨E, rfl, HE.out⟩, ?_⟩
      repeat (first | with_reducible exact hBB | with_reducible exact Below.refl _ _ | (with_reducible refine Below.drew ?_) | (with_reducible refine Below.setCell ?_ (by first | exact Nat.le_refl _ | omega | simp) _) | (with_reducible refine Below.alloc ?_ (by first | exact Nat.le_refl _ | omega | simp | (simp; omega)) _))
    have e34 : ((s[q].toNat : Int) == 34) = false := by rw [beq_eq_false_iff_ne]; omega
    by_cases hlet : Lx.letter s[q] = true
    · rw [hlet] at HLT
      have HH : Hid (∀ D, q + D ≤ s.size → (∀ j (h : q + j < s.size), j < D → Lx.ofName s[q + j] = true) → (∀ h : q + D < s.size, Lx.ofName s[q + D] = false) → R = some ⟨if Lx.isWord ((s.data.toList.drop q).take D) then 4 else 3, (s.data.toList.drop q).take D, 0, D⟩) := fun D h1 h2 h3 => by
        have hat : ∀ k (h : q + k < s.size), (s.data.toList.drop q)[k]'(by rw [List.length_drop, size_list]; omega) = s[q + k] := fun k h => by
          rw [List.getElem_drop]; rfl
        have e : Lx.hd Lx.ofName (s.data.toList.drop q) = D := Lx.hd_eq _ _ _ (by rw [List.length_drop, size_list]; omega) (fun j h h' => by
          rw [List.length_drop, size_list] at h
          rw [hat j (by omega)]; exact h2 j (by omega) h') (fun h => by
          rw [List.length_drop, size_list] at h
          rw [hat D (by omega)]; exact h3 (by omega))
        rw [← hR, ← e, hd]
        exact Lx.piece_name _ _ hlet
      clear hR hd hlet hdg hdg' h34
      go_enter Try.func21, Try.ntmps21
      go_wp2_with (first | (rw [← hP]; go_at_call 33; refine Calls.mono (HB.out _) ?_; rintro e w' ⟨rfl, rfl⟩) | (go_at_call 34; refine Calls.mono (HDG.out _) ?_; rintro e w' ⟨rfl, rfl⟩) | (go_at_call 37; refine Calls.mono (HLT.out _) ?_; rintro e w' ⟨rfl, rfl⟩))
      clear HDG HLT HB
      go_loop [8] (fun i => ∃ k : Nat, q + k ≤ s.size ∧ i = .int .i64 ((q + k : Nat) : Int) ∧ Hid (∀ j (h : q + j < s.size), j < k → Lx.ofName s[q + j] = true)) (fun i => s.size - (intOf i).toNat)
      case atStart => exact ⟨0, by omega, rfl, fun j h h' => absurd h' (by omega)⟩
      case round =>
        obtain ⟨k, hk, rfl, HA⟩ := hrel
        obtain ⟨m, hm⟩ : ∃ m, q + k = m := ⟨_, rfl⟩
        have HM : Hid (_) := hm
        rw [hm]
        by_cases hmt : m < s.size
        · have hmt' : (m : Int) < s.size := by omega
          have hk' : q + k < s.size := by omega
          have HDG : Hid (_) := fun W => rdigit_any s[m] W
          have HLT : Hid (_) := fun W => rletter_any s[m] W
          by_cases hn : Lx.ofName s[m] = true
          · have HA' : Hid (∀ j (h : q + j < s.size), j < k + 1 → Lx.ofName s[q + j] = true) := fun j h h' => by
              by_cases e : j = k
              · subst e; subst hm; exact hn
              · exact HA.out j h (by omega)
            have hn2 := ofName_split s[m]
            rw [hn] at hn2
            generalize Lx.letter s[m] = x at *
            generalize Lx.digit s[m] = y at *
            clear HA hn HH hm
            cases x
            · have : y = true := by simpa using hn2.symm
              subst this
              clear hn2
              go_wp2_with (first | (go_at_call 34; refine Calls.mono (HDG.out _) ?_; rintro e w' ⟨rfl, rfl⟩) | (go_at_call 37; refine Calls.mono (HLT.out _) ?_; rintro e w' ⟨rfl, rfl⟩))
              go_round
              case rel => exact ⟨k + 1, by have := HM.out; omega, by have := HM.out; rw [show q + (k + 1) = m + 1 by omega]; go_num, HA'⟩
              case measure => simp [intOf]; omega
            · clear hn2
              go_wp2_with (first | (go_at_call 34; refine Calls.mono (HDG.out _) ?_; rintro e w' ⟨rfl, rfl⟩) | (go_at_call 37; refine Calls.mono (HLT.out _) ?_; rintro e w' ⟨rfl, rfl⟩))
              go_round
              case rel => exact ⟨k + 1, by have := HM.out; omega, by have := HM.out; rw [show q + (k + 1) = m + 1 by omega]; go_num, HA'⟩
              case measure => simp [intOf]; omega
          · have hn' : Lx.ofName s[m] = false := by simpa using hn
            have HR' := HH.out k hk (fun j h h' => HA.out j h h') (fun h => by subst hm; exact hn')
            have hn2 := ofName_split s[m]
            rw [hn'] at hn2
            generalize Lx.letter s[m] = x at *
            generalize Lx.digit s[m] = y at *
            have hx0 : x = false := by cases x with | false => rfl | true => cases hn2
            subst hx0
            have hy0 : y = false := hn2.symm
            subst hy0
            have hx : s.extract q m = ⟨((s.data.toList.drop q).take k).toArray⟩ := by rw [← hm]; exact extract_eq s q k
            have hqm : (q : Int) ≤ m := by omega
            have hms : m ≤ s.size := by omega
            have HW : Hid (∀ W, Calls Try.prog 38 #[.string (s.extract q m)] W fun e w' => e = .returned (.bool (Lx.isWord ((s.data.toList.drop q).take k))) ∧ Below W.heap.size W w') := fun W => by
              rw [hx]; exact rword_any _ W
            have HX : Hid (_) := hx
            clear HA HH hn hn' hn2 hm hx
            cases hw : Lx.isWord ((s.data.toList.drop q).take k)
            · rw [hw] at HR' HW
              have HR2 : Hid (R = some ⟨3, (s.data.toList.drop q).take k, 0, k⟩) := HR'
              clear HR' hw
              go_wp2_with (first | (go_at_call 34; refine Calls.mono (HDG.out _) ?_; rintro e w' ⟨rfl, rfl⟩) | (go_at_call 37; refine Calls.mono (HLT.out _) ?_; rintro e w' ⟨rfl, rfl⟩))
              refine Calls.mono (HW.out _) ?_
              rintro e w1 ⟨rfl, hb1⟩
              have hsz := hb1.size
              simp only [alloc_size] at hsz
              obtain ⟨r0, r1, r2, r3, r4, r5, g0, g1, g2, g3, g4, g5⟩ := cells6 rfl (((Below.refl (w.heap.size + 1) _).alloc (by simp) _).trans (hb1.mono (by simp)))
              obtain ⟨q0, q1, q2, q3, q4, f0, f1, f2, f3, f4⟩ := cells5 (b := w.heap.size + 1) (by simp) (hb1.mono (by simp))
              have hBB := (((Below.refl w.heap.size w).alloc (Nat.le_refl _) _).alloc (by simp) _).trans (hb1.mono (by simp; omega))
              have hlt1 : w.heap.size + 1 < w1.heap.size := by omega
              clear hb1 HW
              go_wp2_with fail
              rw [HX.out]
              refine bodyPost_ret (v := .agg #[.int .i64 3, .string ⟨((s.data.toList.drop q).take k).toArray⟩, .int .i64 0, .int .i64 (q : Int), .bool ln, .int .i64 (m : Int)]) (by simp [results, Try.results21, go_sem, *]) rfl ⟨by rw [← HM.out]; exact foundT_ok q ln 3 0 k _ R HR2.out, ?_⟩
              repeat (first | with_reducible exact hBB | with_reducible exact Below.refl _ _ | (with_reducible refine Below.drew ?_) | (with_reducible refine Below.setCell ?_ (by first | exact Nat.le_refl _ | omega | simp) _) | (with_reducible refine Below.alloc ?_ (by first | exact Nat.le_refl _ | omega | simp | (simp; omega)) _))
            · rw [hw] at HR' HW
              have HR2 : Hid (R = some ⟨4, (s.data.toList.drop q).take k, 0, k⟩) := HR'
              clear HR' hw
              go_wp2_with (first | (go_at_call 34; refine Calls.mono (HDG.out _) ?_; rintro e w' ⟨rfl, rfl⟩) | (go_at_call 37; refine Calls.mono (HLT.out _) ?_; rintro e w' ⟨rfl, rfl⟩))
              refine Calls.mono (HW.out _) ?_
              rintro e w1 ⟨rfl, hb1⟩
              have hsz := hb1.size
              simp only [alloc_size] at hsz
              obtain ⟨r0, r1, r2, r3, r4, r5, g0, g1, g2, g3, g4, g5⟩ := cells6 rfl (((Below.refl (w.heap.size + 1) _).alloc (by simp) _).trans (hb1.mono (by simp)))
              obtain ⟨q0, q1, q2, q3, q4, f0, f1, f2, f3, f4⟩ := cells5 (b := w.heap.size + 1) (by simp) (hb1.mono (by simp))
              have hBB := (((Below.refl w.heap.size w).alloc (Nat.le_refl _) _).alloc (by simp) _).trans (hb1.mono (by simp; omega))
              have hlt1 : w.heap.size + 1 < w1.heap.size := by omega
              clear hb1 HW
              go_wp2_with fail
              rw [HX.out]
              refine bodyPost_ret (v := .agg #[.int .i64 4, .string ⟨((s.data.toList.drop q).take k).toArray⟩, .int .i64 0, .int .i64 (q : Int), .bool ln, .int .i64 (m : Int)]) (by simp [results, Try.results21, go_sem, *]) rfl ⟨by rw [← HM.out]; exact foundT_ok q ln 4 0 k _ R HR2.out, ?_⟩
              repeat (first | with_reducible exact hBB | with_reducible exact Below.refl _ _ | (with_reducible refine Below.drew ?_) | (with_reducible refine Below.setCell ?_ (by first | exact Nat.le_refl _ | omega | simp) _) | (with_reducible refine Below.alloc ?_ (by first | exact Nat.le_refl _ | omega | simp | (simp; omega)) _))
        · have hmt' : ¬ (m : Int) < s.size := by omega
          have HR' := HH.out k hk (fun j h h' => HA.out j h h') (fun h => absurd h (by omega))
          have hx : s.extract q m = ⟨((s.data.toList.drop q).take k).toArray⟩ := by rw [← hm]; exact extract_eq s q k
          have hqm : (q : Int) ≤ m := by omega
          have hms : m ≤ s.size := by omega
          have HW : Hid (∀ W, Calls Try.prog 38 #[.string (s.extract q m)] W fun e w' => e = .returned (.bool (Lx.isWord ((s.data.toList.drop q).take k))) ∧ Below W.heap.size W w') := fun W => by
            rw [hx]; exact rword_any _ W
          have HX : Hid (_) := hx
          clear HA HH hm hx
          cases hw : Lx.isWord ((s.data.toList.drop q).take k)
          · rw [hw] at HR' HW
            have HR2 : Hid (R = some ⟨3, (s.data.toList.drop q).take k, 0, k⟩) := HR'
            clear HR' hw
            go_wp2_with (first | (go_at_call 34; refine Calls.mono (HDG.out _) ?_; rintro e w' ⟨rfl, rfl⟩) | (go_at_call 37; refine Calls.mono (HLT.out _) ?_; rintro e w' ⟨rfl, rfl⟩))
            refine Calls.mono (HW.out _) ?_
            rintro e w1 ⟨rfl, hb1⟩
            have hsz := hb1.size
            simp only [alloc_size] at hsz
            obtain ⟨r0, r1, r2, r3, r4, r5, g0, g1, g2, g3, g4, g5⟩ := cells6 rfl (((Below.refl (w.heap.size + 1) _).alloc (by simp) _).trans (hb1.mono (by simp)))
            obtain ⟨q0, q1, q2, q3, q4, f0, f1, f2, f3, f4⟩ := cells5 (b := w.heap.size + 1) (by simp) (hb1.mono (by simp))
            have hBB := (((Below.refl w.heap.size w).alloc (Nat.le_refl _) _).alloc (by simp) _).trans (hb1.mono (by simp; omega))
            have hlt1 : w.heap.size + 1 < w1.heap.size := by omega
            clear hb1 HW
            go_wp2_with fail
            rw [HX.out]
            refine bodyPost_ret (v := .agg #[.int .i64 3, .string ⟨((s.data.toList.drop q).take k).toArray⟩, .int .i64 0, .int .i64 (q : Int), .bool ln, .int .i64 (m : Int)]) (by simp [results, Try.results21, go_sem, *]) rfl ⟨by rw [← HM.out]; exact foundT_ok q ln 3 0 k _ R HR2.out, ?_⟩
            repeat (first | with_reducible exact hBB | with_reducible exact Below.refl _ _ | (with_reducible refine Below.drew ?_) | (with_reducible refine Below.setCell ?_ (by first | exact Nat.le_refl _ | omega | simp) _) | (with_reducible refine Below.alloc ?_ (by first | exact Nat.le_refl _ | omega | simp | (simp; omega)) _))
          · rw [hw] at HR' HW
            have HR2 : Hid (R = some ⟨4, (s.data.toList.drop q).take k, 0, k⟩) := HR'
            clear HR' hw
            go_wp2_with (first | (go_at_call 34; refine Calls.mono (HDG.out _) ?_; rintro e w' ⟨rfl, rfl⟩) | (go_at_call 37; refine Calls.mono (HLT.out _) ?_; rintro e w' ⟨rfl, rfl⟩))
            refine Calls.mono (HW.out _) ?_
            rintro e w1 ⟨rfl, hb1⟩
            have hsz := hb1.size
            simp only [alloc_size] at hsz
            obtain ⟨r0, r1, r2, r3, r4, r5, g0, g1, g2, g3, g4, g5⟩ := cells6 rfl (((Below.refl (w.heap.size + 1) _).alloc (by simp) _).trans (hb1.mono (by simp)))
            obtain ⟨q0, q1, q2, q3, q4, f0, f1, f2, f3, f4⟩ := cells5 (b := w.heap.size + 1) (by simp) (hb1.mono (by simp))
            have hBB := (((Below.refl w.heap.size w).alloc (Nat.le_refl _) _).alloc (by simp) _).trans (hb1.mono (by simp; omega))
            have hlt1 : w.heap.size + 1 < w1.heap.size := by omega
            clear hb1 HW
            go_wp2_with fail
            rw [HX.out]
            refine bodyPost_ret (v := .agg #[.int .i64 4, .string ⟨((s.data.toList.drop q).take k).toArray⟩, .int .i64 0, .int .i64 (q : Int), .bool ln, .int .i64 (m : Int)]) (by simp [results, Try.results21, go_sem, *]) rfl ⟨by rw [← HM.out]; exact foundT_ok q ln 4 0 k _ R HR2.out, ?_⟩
            repeat (first | with_reducible exact hBB | with_reducible exact Below.refl _ _ | (with_reducible refine Below.drew ?_) | (with_reducible refine Below.setCell ?_ (by first | exact Nat.le_refl _ | omega | simp) _) | (with_reducible refine Below.alloc ?_ (by first | exact Nat.le_refl _ | omega | simp | (simp; omega)) _))
    have hlet' : Lx.letter s[q] = false := by simpa using hlet
    rw [hlet'] at HLT
    have HRS : Hid (R = (Lx.fst (s.data.toList.drop q)).map fun s => ⟨5, s, 0, s.length⟩) := hR.symm.trans (by rw [hd]; exact Lx.piece_sign _ _ hdg' h34 hlet')
    have HSG : Hid (∀ W, Calls Try.prog 39 #[] W fun e w' => ∃ b, e = .returned (.slice (some ⟨b, 0, none⟩) 26 26) ∧ b = W.heap.size ∧ Lies w' b Lx.osigns ∧ Below W.heap.size W w') := fun W => (osigns_any W).mono (by
      rintro e w' ⟨rfl, rfl⟩
      exact ⟨_, rfl, rfl, lies_alloc _ _ _, (Below.refl _ _).alloc (Nat.le_refl _) _⟩)
    clear hR hd hlet hlet' hdg hdg' h34
    go_enter Try.func21, Try.ntmps21
    go_wp2_with (first | (rw [← hP]; go_at_call 33; refine Calls.mono (HB.out _) ?_; rintro e w' ⟨rfl, rfl⟩) | (go_at_call 34; refine Calls.mono (HDG.out _) ?_; rintro e w' ⟨rfl, rfl⟩) | (go_at_call 37; refine Calls.mono (HLT.out _) ?_; rintro e w' ⟨rfl, rfl⟩))
    refine Calls.mono (HSG.out _) ?_
    rintro e w3 ⟨b, rfl, hbb, ⟨hbl, hl⟩, hb3⟩
    have HL : Hid (∀ k (h : k < 26), w3.cell? ⟨b, k, none⟩ = some (.string ⟨(Lx.osigns[k]'h).toArray⟩)) := hl
    rw [alloc_size, alloc_size] at hbb
    have hsz := hb3.size
    simp only [alloc_size] at hsz
    obtain ⟨r0, r1, r2, r3, r4, r5, g0, g1, g2, g3, g4, g5⟩ := cells6 rfl (((Below.refl (w.heap.size + 1) _).alloc (by simp) _).trans (hb3.mono (by simp)))
    obtain ⟨q0, q1, q2, q3, q4, f0, f1, f2, f3, f4⟩ := cells5 (b := w.heap.size + 1) (by simp) (hb3.mono (by simp))
    have hBB := (((Below.refl w.heap.size w).alloc (Nat.le_refl _) _).alloc (by simp) _).trans (hb3.mono (by simp; omega))
    have hlt1 : w.heap.size + 1 < w3.heap.size := by omega
    have hlt2 : w.heap.size < w3.heap.size := by omega
    have hn1 : b ≠ w.heap.size + 1 := by omega
    have hn2 : b ≠ w.heap.size := by omega
    have HFS : Hid (∀ W, Below w3.heap.size w3 W → FS w.heap.size (q : Int) ln W ∧ (∀ k (h : k < 26), W.cell? ⟨b, k, none⟩ = some (.string ⟨(Lx.osigns[k]'h).toArray⟩)) ∧ Below w.heap.size w W ∧ w.heap.size + 1 < W.heap.size ∧ w.heap.size < W.heap.size) := (fun W hW => by
      have hz := hW.size
      refine ⟨⟨?_, ?_, ?_, ?_, ?_, ?_, ?_, ?_, ?_, ?_, ?_, ?_, ?_, ?_, ?_, ?_, ?_, ?_, ?_, ?_, ?_, ?_⟩, fun k h => (hW.cell hbl).trans (hl k h), hBB.trans (hW.mono (by omega)), by omega, by omega⟩
      all_goals first | (refine (hW.cell (by show _ < _; omega)).trans ?_; assumption) | (refine (hW.frozen (by show _ < _; omega)).trans ?_; assumption))
    clear hb3 hl HB HDG HLT HSG hbb q0 q1 q2 q3 q4 f0 f1 f2 f3 f4 r0 r1 r2 r3 r4 r5 g0 g1 g2 g3 g4 g5 hlt1 hlt2 hBB hsz hbl
    go_wp2_with fail
    go_loopw [10] (fun i W => ∃ k : Nat, k ≤ 26 ∧ i = .int .i64 (k : Int) ∧ Hid (∀ j (hj : j < 26), j < k → Lx.isPre (Lx.osigns[j]'hj) (s.data.toList.drop q) = false) ∧ Hid (Below w3.heap.size w3 W)) (fun i _ => 26 - (intOf i).toNat)
    case atStart => exact ⟨0, by omega, rfl, fun j h h' => absurd h' (by omega), (show Below _ _ _ from Below.refl _ _)⟩
    case round =>
      obtain ⟨k, hk, rfl, HA, HW⟩ := hrel
      obtain ⟨⟨r0, r1, r2, r3, r4, r5, g0, g1, g2, g3, g4, g5, q0, q1, q2, q3, q4, f0, f1, f2, f3, f4⟩, hl, hBB, hlt1, hlt2⟩ := HFS.out _ HW.out
      by_cases hk26 : k < 26
      · have hk26' : (k : Int) < 26 := by omega
        have hc := hl k hk26
        have hU3 : (Lx.osigns[k]'hk26).length ≤ 3 := osig_small _ (List.getElem_mem (l := Lx.osigns) hk26)
        have HC : Hid (∀ W, Below w3.heap.size w3 W → W.cell? ⟨b, k, none⟩ = some (.string ⟨(Lx.osigns[k]'hk26).toArray⟩)) := fun W hW => (HFS.out W hW).2.1 k hk26
        have HF : Hid (Lx.isPre (Lx.osigns[k]'hk26) (s.data.toList.drop q) = true → R = some ⟨5, Lx.osigns[k]'hk26, 0, (Lx.osigns[k]'hk26).length⟩) := fun h => by
          rw [HRS.out, fst_at _ k hk26 HA.out h]; rfl
        have HA2 : Hid (Lx.isPre (Lx.osigns[k]'hk26) (s.data.toList.drop q) = false → Hid (∀ j (hj : j < 26), j < k + 1 → Lx.isPre (Lx.osigns[j]'hj) (s.data.toList.drop q) = false)) := fun h0 j hj h' => by
          by_cases e : j = k
          · subst e; exact h0
          · exact HA.out j hj (by omega)
        have hpc := cut_pre s q (Lx.osigns[k]'hk26)
        have hps := pre_short s q (Lx.osigns[k]'hk26)
        generalize (Lx.osigns[k]'hk26) = U at *
        have hz : (⟨U.toArray⟩ : ByteArray).size = U.length := rfl
        by_cases hfit : q + U.length ≤ s.size
        · have hfit' : (q : Int) + U.length ≤ s.size := by omega
          have hx := hpc hfit
          cases hpre : Lx.isPre U (s.data.toList.drop q)
          · have HA' := HA2.out hpre
            rw [hpre] at hx
            clear hl HRS HA HA2 HF hpc hps hpre HC
            go_wp2_with fail
            go_quiet (fail)
            have hW' : Hid (Below w3.heap.size w3 (wr.drewN nq)) := HW.out.trans (below_drewN _ _ _)
            clear hBB
            go_wp2_with fail
            go_roundw
            case rel => exact ⟨k + 1, by omega, by go_num, HA', hW'⟩
            case measure => simp [intOf]; omega
          · have HR2 : Hid (_) := HF.out hpre
            rw [hpre] at hx
            clear hl HRS HA HA2 HF hpc hps hpre
            go_wp2_with fail
            go_quiet (fail)
            have hW' := HW.out.trans (below_drewN w3.heap.size wr nq)
            generalize wr.drewN nq = w5 at *
            clear hBB q0 q1 q2 q3 q4 f0 f1 f2 f3 f4 r0 r1 r2 r3 r4 r5 g0 g1 g2 g3 g4 g5 hlt1 hlt2 hc HW
            obtain ⟨⟨r0, r1, r2, r3, r4, r5, g0, g1, g2, g3, g4, g5, q0, q1, q2, q3, q4, f0, f1, f2, f3, f4⟩, hl, hBB, hlt1, hlt2⟩ := HFS.out _ hW'
            have hc := HC.out _ hW'
            clear hW' HFS HC hl
            go_wp2_with fail
            go_region
            go_wp2_with fail
            refine bodyPost_ret (v := .agg #[.int .i64 5, .string ⟨U.toArray⟩, .int .i64 0, .int .i64 (q : Int), .bool ln, .int .i64 ((q : Int) + U.length)]) (by simp [results, Try.results21, go_sem, *]) rfl ⟨by rw [show ((q : Int) + U.length) = ((q + U.length : Nat) : Int) by omega]; exact foundT_ok q ln 5 0 U.length U R HR2.out, ?_⟩
            repeat (first | with_reducible exact hBB | with_reducible exact Below.refl _ _ | (with_reducible refine Below.drew ?_) | (with_reducible refine Below.setCell ?_ (by first | exact Nat.le_refl _ | omega | simp) _) | (with_reducible refine Below.alloc ?_ (by first | exact Nat.le_refl _ | omega | simp | (simp; omega)) _))
        · have hfit' : ¬ (q : Int) + U.length ≤ s.size := by omega
          have hfd : decide ((q : Int) + U.length ≤ s.size) = false := by simpa using hfit'
          have HA' := HA2.out (hps hfit hq)
          clear hl HRS HA HA2 HF hpc hps HC
          go_wp2_with fail
          go_quiet (fail)
          have hW' : Hid (Below w3.heap.size w3 (wr.drewN nq)) := HW.out.trans (below_drewN _ _ _)
          clear hBB
          go_wp2_with fail
          go_roundw
          case rel => exact ⟨k + 1, by omega, by go_num, HA', hW'⟩
          case measure => simp [intOf]; omega
      · have hk26' : ¬ (k : Int) < 26 := by omega
        have HR2 : Hid (R = none) := by
          show _ = _
          rw [HRS.out, fst_none _ (fun j hj => HA.out j hj (by omega))]; rfl
        clear hl HRS HA HFS HW
        go_wp2_with fail
        refine bodyPost_ret (v := .agg #[.int .i64 6, .string ⟨#[]⟩, .int .i64 0, .int .i64 (q : Int), .bool ln, .int .i64 (q : Int)]) (by simp [results, Try.results21, go_sem, *]) rfl ⟨foundT_bad q ln q R HR2.out, ?_⟩
        repeat (first | with_reducible exact hBB | with_reducible exact Below.refl _ _ | (with_reducible refine Below.drew ?_) | (with_reducible refine Below.setCell ?_ (by first | exact Nat.le_refl _ | omega | simp) _) | (with_reducible refine Below.alloc ?_ (by first | exact Nat.le_refl _ | omega | simp | (simp; omega)) _))
  · have hlt' : ¬ (q : Int) < s.size := by omega
    have HR2 : Hid (R = some ⟨0, [], 0, 0⟩) := by show _ = _; rw [← hR, List.drop_of_length_le (by rw [size_list]; omega)]; rfl
    clear hR
    go_enter Try.func21, Try.ntmps21
    go_wp2_with (rw [← hP]; go_at_call 33; refine Calls.mono (HB.out _) ?_; rintro e w' ⟨rfl, rfl⟩)
    refine bodyPost_ret (v := .agg #[.int .i64 0, .string ⟨#[]⟩, .int .i64 0, .int .i64 (q : Int), .bool ln, .int .i64 (q : Int)]) (by simp [results, Try.results21, go_sem, *]) rfl ⟨foundT_ok q ln 0 0 0 [] R HR2.out, ?_⟩
    repeat (first | with_reducible exact hBB | with_reducible exact Below.refl _ _ | (with_reducible refine Below.drew ?_) | (with_reducible refine Below.setCell ?_ (by first | exact Nat.le_refl _ | omega | simp) _) | (with_reducible refine Below.alloc ?_ (by first | exact Nat.le_refl _ | omega | simp | (simp; omega)) _))
theorem rtoken_any (s : ByteArray) (a : Int) (w : World) (hs : s.size ≤ 1000000) :
    Calls Try.prog 21 #[.string s, .int .i64 a] w fun e w' => FoundT (Lx.tok s.data.toList (plc a s.size)) e ∧ Below w.heap.size w w' := by
  have hb := Lx.blk_le false (s.data.toList.drop (plc a s.size))
  rw [List.length_drop, size_list] at hb
  have hp : plc a s.size ≤ s.size := by unfold plc; omega
  exact rtoken_core s a (plc a s.size) (plc a s.size + (Lx.blk false (s.data.toList.drop (plc a s.size))).1) _ w hs (by unfold plc; omega) (by omega) (fun W => rblanks_any s _ W hs hp)
end Go.Proofs.Ytkaacmghgobhmaa.L
end
section
namespace Go.Proofs.Ytkaacmghgobhmaa.Rp
open Lx Ps
set_option linter.unusedVariables false
/-- Where it is: tokens ahead, nodes behind, whether it is bad. -/
structure Rt where
  toks : List Tk
  nodes : List Nd
  bad : Bool
abbrev Q (α : Type) := Rt → α × Rt
def nx (r : Rt) : Tk := r.toks.headD Ps.bad
def isS (m : List UInt8) (r : Rt) : Bool := decide ((nx r).k = 4 ∨ (nx r).k = 5) && decide ((nx r).t = m)
def move (r : Rt) : Rt := if 1 < r.toks.length then { r with toks := r.toks.tail } else r
def spoil (r : Rt) : Rt := { r with bad := true }
def has (m : List UInt8) : Q Bool := fun r => if r.bad || !isS m r then (false, r) else (true, move r)
def must (m : List UInt8) (r : Rt) : Rt := match has m r with
  | (true, r) => r
  | (false, r) => spoil r
def rname : Q (List UInt8) := fun r => if r.bad || decide ((nx r).k ≠ 3) then ([], spoil r) else ((nx r).t, move r)
def put (n : Nd) : Q Nat := fun r => (r.nodes.length, { r with nodes := r.nodes ++ [n] })
def ende (r : Rt) : Rt := match has [59] r with
  | (true, r) => r
  | (false, r) => if r.bad then r else if decide ((nx r).k ≠ 0) && !isS [125] r && !(nx r).ln then spoil r else r
structure Lr where
  e : Q Nat
  u : Q Nat
  p : Q Nat
  s : Q Nat
def listLoop (L : Lr) (last : Bool) : Nat → List Nat → Q (List Nat)
  | 0, l => fun r => (l, r)
  | f + 1, l => fun r =>
    if r.bad then (l, r)
    else if (last && decide ((nx r).k = 0)) || (!last && isS [125] r) then (l, r)
    else let x := L.s r; listLoop L last f (l ++ [x.1]) x.2
def list (L : Lr) (last : Bool) : Q (List Nat) := fun r => listLoop L last (r.toks.length + 1) [] r
def body (L : Lr) : Q (List Nat) := fun r =>
  let x := list L false (must [123] r)
  (x.1, must [125] x.2)
def block (L : Lr) : Q Nat := fun r => let x := body L r; put { k := 25, a := (nx r).a, kids := x.1 } x.2
def inner (L : Lr) : Q Nat := fun r =>
  let r := if isS [108, 101, 116] r || isS [99, 111, 110, 115, 116] r || isS [102, 117, 110, 99, 116, 105, 111, 110] r then spoil r else r
  if r.bad then (0, r) else L.s r
def namesLoop : Nat → List (List UInt8) → Q (List (List UInt8))
  | 0, l => fun r => (l, r)
  | f + 1, l => fun r => match has [44] r with
    | (false, r) => (l, r)
    | (true, r) => let x := rname r; namesLoop f (l ++ [x.1]) x.2
def func (L : Lr) (named : Bool) : Q Nat := fun r =>
  let at_ := (nx r).a
  let g := has [42] (must [102, 117, 110, 99, 116, 105, 111, 110] r)
  let nm := if named || decide ((nx g.2).k = 3) then rname g.2 else ([], g.2)
  let r := must [40] nm.2
  let ps := if isS [41] r then ([], r) else let x := rname r; namesLoop x.2.toks.length [x.1] x.2
  let b := body L (must [41] ps.2)
  put { k := 10, n := if g.1 then 1 else 0, t := nm.1, names := ps.1, kids := b.1, a := at_ } b.2
def commasLoop (L : Lr) : Nat → List Nat → Q (List Nat)
  | 0, l => fun r => (l, r)
  | f + 1, l => fun r => match has [44] r with
    | (false, r) => (l, r)
    | (true, r) => let x := L.e r; commasLoop L f (l ++ [x.1]) x.2
def commas (L : Lr) (last : List UInt8) : Q (List Nat) := fun r => match has last r with
  | (true, r) => ([], r)
  | (false, r) =>
    let x := L.e r
    let y := commasLoop L x.2.toks.length [x.1] x.2
    (y.1, must last y.2)
def rrows : List (List (List UInt8)) := [[[124, 124]], [[38, 38]], [[61, 61, 61], [33, 61, 61]], [[60], [60, 61], [62], [62, 61]], [[43], [45]], [[42], [47], [37]]]
def sigNode (s : List UInt8) : Nd := if s = [124, 124] then { k := 17 } else if s = [38, 38] then { k := 16 } else { k := 15, t := s }
def binLoop (row : List (List UInt8)) (sub : Q Nat) : Nat → Nat → Q Nat
  | 0, k => fun r => (k, r)
  | f + 1, k => fun r =>
    if !r.bad && decide ((nx r).k = 5) && decide ((nx r).t ∈ row) then
      let s := (nx r).t
      let b := sub (move r)
      let o := put { sigNode s with kids := [k, b.1], a := (b.2.nodes.getD k {}).a } b.2
      binLoop row sub f o.1 o.2
    else (k, r)
def bin (L : Lr) : List (List (List UInt8)) → Q Nat
  | [] => L.u
  | row :: rest => fun r =>
    let x := bin L rest r
    binLoop row (bin L rest) x.2.toks.length x.1 x.2
def cond (L : Lr) : Q Nat := fun r =>
  let k := bin L rrows r
  if k.2.bad then k
  else match has [63] k.2 with
    | (false, r) => (k.1, r)
    | (true, r) =>
      let a := L.e r
      let r := must [58] a.2
      if r.bad then (0, r)
      else
        let b := L.e r
        put { k := 18, kids := [k.1, a.1, b.1], a := (b.2.nodes.getD k.1 {}).a } b.2
def assign (L : Lr) : Q Nat := fun r =>
  let at_ := (nx r).a
  match has [121, 105, 101, 108, 100] r with
  | (true, r) => let x := L.e r; put { k := 20, kids := [x.1], a := at_ } x.2
  | (false, r) =>
    let k := cond L r
    if k.2.bad then (0, k.2)
    else if Ps.isTarget (k.2.nodes.getD k.1 {}).k then
      match has [61] k.2 with
      | (false, r) => (k.1, r)
      | (true, r) => let v := L.e r; put { k := 19, kids := [k.1, v.1], a := (v.2.nodes.getD k.1 {}).a } v.2
    else k
def unary (L : Lr) : Q Nat := fun r =>
  if isS [33] r || isS [45] r || isS [116, 121, 112, 101, 111, 102] r then
    let k := L.u (move r)
    put { k := 14, t := (nx r).t, kids := [k.1], a := (nx r).a } k.2
  else L.p r
def simple (s : List UInt8) : Nd :=
  if s = [116, 114, 117, 101] then { k := 4, n := 1 }
  else if s = [102, 97, 108, 115, 101] then { k := 4 }
  else if s = [110, 117, 108, 108] then { k := 5 }
  else if s = [117, 110, 100, 101, 102, 105, 110, 101, 100] then { k := 6 }
  else if s = [116, 104, 105, 115] then { k := 7 }
  else {}
def objLoop (L : Lr) : Nat → List (List UInt8) → List Nat → Q (Option (List (List UInt8) × List Nat))
  | 0, N, K => fun r => (some (N, K), r)
  | f + 1, N, K => fun r =>
    if !isS [125] r || decide (0 < K.length) then
      let t := nx r
      let r := if t.k = 3 ∨ t.k = 4 ∨ t.k = 2 then r else spoil r
      if r.bad then (none, r)
      else
        let x := L.e (must [58] (move r))
        match has [44] x.2 with
        | (false, r) => (some (N ++ [t.t], K ++ [x.1]), r)
        | (true, r) => objLoop L f (N ++ [t.t]) (K ++ [x.1]) r
    else (some (N, K), r)
def object (L : Lr) (at_ : Nat) : Q Nat := fun r => match objLoop L (r.toks.length + 1) [] [] r with
  | (none, r) => (0, r)
  | (some (N, K), r) => put { k := 8, names := N, kids := K, a := at_ } (must [125] r)
def first (L : Lr) : Q Nat := fun r =>
  let t := nx r
  if t.k = 1 then put { k := 1, n := t.n, a := t.a } (move r)
  else if t.k = 2 then put { k := 2, t := t.t, a := t.a } (move r)
  else if t.k = 3 then put { k := 3, t := t.t, a := t.a } (move r)
  else if t.k = 4 ∧ 0 < (simple t.t).k then put { simple t.t with a := t.a } (move r)
  else if isS [102, 117, 110, 99, 116, 105, 111, 110] r then func L false r
  else match has [40] r with
    | (true, r) => let k := L.e r; (k.1, must [41] k.2)
    | (false, r) => match has [91] r with
      | (true, r) => let l := commas L [93] r; put { k := 9, kids := l.1, a := t.a } l.2
      | (false, r) => match has [123] r with
        | (true, r) => object L t.a r
        | (false, r) => (0, spoil r)
def postLoop (L : Lr) : Nat → Nat → Q Nat
  | 0, k => fun r => (k, r)
  | f + 1, k => fun r =>
    if r.bad then (k, r)
    else
      let at_ := (r.nodes.getD k {}).a
      match has [46] r with
      | (true, r) =>
        let t := nx r
        if t.k ≠ 3 ∧ t.k ≠ 4 then (k, spoil r)
        else let o := put { k := 11, t := t.t, kids := [k], a := at_ } (move r); postLoop L f o.1 o.2
      | (false, r) => match has [91] r with
        | (true, r) =>
          let b := L.e r
          let o := put { k := 12, kids := [k, b.1], a := at_ } (must [93] b.2)
          postLoop L f o.1 o.2
        | (false, r) => match has [40] r with
          | (true, r) =>
            let l := commas L [41] r
            let o := put { k := 13, kids := k :: l.1, a := at_ } l.2
            postLoop L f o.1 o.2
          | (false, r) => (k, r)
def post (L : Lr) : Q Nat := fun r => let k := first L r; postLoop L k.2.toks.length k.1 k.2
def one (L : Lr) : Q Nat := fun r =>
  let at_ := (nx r).a
  if isS [123] r then block L r
  else if isS [102, 117, 110, 99, 116, 105, 111, 110] r then let f := func L true r; put { k := 23, kids := [f.1], a := at_ } f.2
  else match has [105, 102] r with
  | (true, r) =>
    let c := L.e (must [40] r)
    let y := inner L (must [41] c.2)
    match has [101, 108, 115, 101] y.2 with
    | (true, r) => let z := inner L r; put { k := 26, kids := [c.1, y.1, z.1], a := at_ } z.2
    | (false, r) => put { k := 26, kids := [c.1, y.1], a := at_ } r
  | (false, r) => match has [119, 104, 105, 108, 101] r with
  | (true, r) =>
    let c := L.e (must [40] r)
    let y := inner L (must [41] c.2)
    put { k := 27, kids := [c.1, y.1], a := at_ } y.2
  | (false, r) => match has [98, 114, 101, 97, 107] r with
  | (true, r) => put { k := 28, a := at_ } (ende r)
  | (false, r) => match has [99, 111, 110, 116, 105, 110, 117, 101] r with
  | (true, r) => put { k := 29, a := at_ } (ende r)
  | (false, r) => match has [114, 101, 116, 117, 114, 110] r with
  | (true, r) =>
    let t := nx r
    if !t.ln && decide (t.k ≠ 0) && !isS [59] r && !isS [125] r then let c := L.e r; put { k := 30, kids := [c.1], a := at_ } (ende c.2)
    else put { k := 30, a := at_ } (ende r)
  | (false, r) => match has [116, 104, 114, 111, 119] r with
  | (true, r) =>
    let r := if (nx r).ln then spoil r else r
    let c := L.e r
    put { k := 31, kids := [c.1], a := at_ } (ende c.2)
  | (false, r) => match has [116, 114, 121] r with
  | (true, r) =>
    let f := block L r
    let n := rname (must [40] (must [99, 97, 116, 99, 104] f.2))
    let g := block L (must [41] n.2)
    put { k := 32, t := n.1, kids := [f.1, g.1], a := at_ } g.2
  | (false, r) =>
    if isS [108, 101, 116] r || isS [99, 111, 110, 115, 116] r then
      let kind := if isS [99, 111, 110, 115, 116] r then 22 else 21
      let n := rname (move r)
      let c := L.e (must [61] n.2)
      put { k := kind, t := n.1, kids := [c.1], a := at_ } (ende c.2)
    else
      let k := L.e r
      let r := ende k.2
      if r.bad then (0, r) else put { k := 24, kids := [k.1], a := (r.nodes.getD k.1 {}).a } r
/-- One deeper: not where it is bad, nor too deep. -/
def deeper (f : Q Nat) : Q Nat := fun r => if r.bad then (0, r) else f r
def rl : Nat → Lr
  | 0 => ⟨fun r => (0, spoil r), fun r => (0, spoil r), fun r => (0, spoil r), fun r => (0, spoil r)⟩
  | d + 1 => ⟨deeper (assign (rl d)), deeper (unary (rl d)), deeper (post (rl d)), deeper (one (rl d))⟩
/-- A program's tree, or where it is wrong. -/
def rparse (src : List UInt8) : List Nd × Nat × Bool :=
  if 4096 < src.length then ([], 0, false)
  else
    let x := list (rl 40) true ⟨Lx.all src, [], false⟩
    if x.2.bad then ([], (nx x.2).a, false)
    else ((put { k := 33, kids := x.1 } x.2).2.nodes, 0, true)
end Go.Proofs.Ytkaacmghgobhmaa.Rp
end
