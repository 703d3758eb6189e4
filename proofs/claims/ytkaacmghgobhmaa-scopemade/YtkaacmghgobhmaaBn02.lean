/- Texts: LRNumber LRQuoted. -/
import Derived.Test.YtkaacmghgobhmaaBn01
import Derived.Laws.BytesArg
import Derived.Laws.IdiomStrings
section
namespace Go.Proofs.Ytkaacmghgobhmaa.L
open Go.RowKit
set_option linter.unusedVariables false
/-- What the reference finds: a token, and the place behind it, where it is one. -/
def FoundT (t : Lx.Tk) (e : Ending) : Prop := ∃ E : Nat, e = .returned (.agg #[.int .i64 (t.k : Int), .string ⟨t.t.toArray⟩, .int .i64 (t.n : Int), .int .i64 (t.a : Int), .bool t.ln, .int .i64 (E : Int)]) ∧ (t.k ≠ 6 → E = t.e)
theorem val_take_succ (l : List UInt8) (k : Nat) (h : k < l.length) : Lx.val (l.take (k + 1)) = 10 * Lx.val (l.take k) + ((l[k]'h).toNat - 48) := by
  rw [List.take_succ_eq_append_getElem h, Lx.val_snoc]
theorem foundT_bad (p : Nat) (ln : Bool) (E : Nat) (r : Option Lx.Pc) (h : r = none) : FoundT (Lx.tokOf p ln r) (.returned (.agg #[.int .i64 6, .string ⟨#[]⟩, .int .i64 0, .int .i64 (p : Int), .bool ln, .int .i64 (E : Int)])) := by
  subst h; exact ⟨E, rfl, fun h => absurd rfl h⟩
theorem foundT_ok (p : Nat) (ln : Bool) (k n z : Nat) (t : List UInt8) (r : Option Lx.Pc) (h : r = some ⟨k, t, n, z⟩) : FoundT (Lx.tokOf p ln r) (.returned (.agg #[.int .i64 (k : Int), .string ⟨t.toArray⟩, .int .i64 (n : Int), .int .i64 (p : Int), .bool ln, .int .i64 ((p + z : Nat) : Int)])) := by
  subst h; exact ⟨p + z, rfl, fun _ => rfl⟩
set_option maxRecDepth 100000 in
set_option maxHeartbeats 2000000 in
theorem rnumber_core (s : ByteArray) (p : Nat) (ln : Bool) (w : World) (hs : s.size ≤ 1000000) (hp : p < s.size) (V : Nat → Nat) (D : Nat) (R : Option Lx.Pc) (B : Bool)
    (hV0 : V 0 = 0) (HV : Hid (∀ k (h : p + k < s.size), V (k + 1) = 10 * V k + (s[p + k].toNat - 48)))
    (HD : Hid (∀ k, p + k ≤ s.size → (∀ j (h : p + j < s.size), j < k → Lx.digit s[p + j] = true) → (∀ h : p + k < s.size, Lx.digit s[p + k] = false) → D = k))
    (HB1 : Hid (∀ h : p + D < s.size, Lx.letter s[p + D] = B)) (HB2 : Hid (p + D = s.size → B = false)) (hD1 : 1 ≤ D)
    (HR : Hid (R = if 2147483647 < V D ∨ (s[p].toNat = 48 ∧ 1 < D) ∨ B = true then none else some ⟨1, (s.data.toList.drop p).take D, V D, D⟩)) :
    Calls Try.prog 35 #[.string s, .int .i64 (p : Int), .agg #[.int .i64 0, .string ⟨#[]⟩, .int .i64 0, .int .i64 (p : Int), .bool ln]] w fun e w' => FoundT (Lx.tokOf p ln R) e ∧ Below w.heap.size w w' := by
  go_enter Try.func35, Try.ntmps35
  go_wp2
  go_loop [7, 8] (fun i n => ∃ (k N : Nat), p + k ≤ s.size ∧ i = .int .i64 ((p + k : Nat) : Int) ∧ n = .int .i64 (N : Int) ∧ N ≤ 2147483648 ∧ Hid (N = min (V k) 2147483648) ∧ Hid (∀ j (h : p + j < s.size), j < k → Lx.digit s[p + j] = true)) (fun i _ => s.size - (intOf i).toNat)
  case atStart => exact ⟨0, 0, by omega, rfl, rfl, by omega, (by show _ = _; rw [hV0]; rfl), fun j h h' => absurd h' (by omega)⟩
  case round =>
    obtain ⟨k, N, hk, rfl, rfl, hN, HN, HA⟩ := hrel
    obtain ⟨q, hq⟩ : ∃ q, p + k = q := ⟨_, rfl⟩
    have HQ : Hid (p + k = q) := hq
    have go : ∀ (hD : D = k), Hid (R = if 2147483647 < N ∨ (s[p].toNat = 48 ∧ p + 1 < q) ∨ B = true then none else some ⟨1, (s.data.toList.drop p).take D, N, D⟩) := fun hD => by
      show _ = _
      have h1 := HR.out
      have h2 := HN.out
      rw [h1]
      subst hD
      by_cases a : 2147483647 < V D
      · rw [if_pos (.inl a), if_pos (.inl (by omega))]
      · have e : N = V D := by omega
        rw [e]
        have e2 : (1 < D) ↔ p + 1 < q := by omega
        simp only [e2]
    by_cases hlt : q < s.size
    · have hlt' : (q : Int) < s.size := by omega
      have hk' : p + k < s.size := by omega
      have HX : Hid (V (k + 1) = 10 * V k + (s[q].toNat - 48)) := by subst hq; exact HV.out k hk'
      have HDG : Hid (_) := fun W => rdigit_any s[q] W
      by_cases hdg : Lx.digit s[q] = true
      · rw [hdg] at HDG
        have HA' : Hid (∀ j (h : p + j < s.size), j < k + 1 → Lx.digit s[p + j] = true) := fun j h h' => by
          by_cases e : j = k
          · subst e; subst hq; exact hdg
          · exact HA.out j h (by omega)
        have h1 : 48 ≤ (s[q].toNat : Int) := by unfold Lx.digit at hdg; simp at hdg; omega
        have h2 : (s[q].toNat : Int) ≤ 57 := by unfold Lx.digit at hdg; simp at hdg; omega
        clear hdg HA HD HR HV go HB1 HB2
        rw [hq]
        clear hq
        go_wp2_with (go_at_call 34; refine Calls.mono (HDG.out _) ?_; rintro e w' ⟨rfl, rfl⟩)
        go_round
        case rel =>
          refine ⟨k + 1, min (10 * N + (s[q].toNat - 48)) 2147483648, by have := HQ.out; omega, by have := HQ.out; rw [show p + (k + 1) = q + 1 by omega]; go_num, ?_, by omega, ?_, HA'⟩
          · exact congrArg (Value.int .i64) (by omega)
          · show _ = _
            rw [HX.out, HN.out]; omega
        case measure => have := HQ.out; simp [intOf]; omega
      · have hdg' : Lx.digit s[q] = false := by simpa using hdg
        rw [hdg'] at HDG
        have hD := HD.out k hk (fun j h h' => HA.out j h h') (fun h => by subst hq; exact hdg')
        have HR' : Hid (_) := (go hD).out
        have HDL : Hid (_) := fun W => rletter_any s[q] W
        have hb : Lx.letter s[q] = B := by subst hq; subst hD; exact HB1.out hk'
        rw [hb] at HDL
        have hx : s.extract p q = ⟨((s.data.toList.drop p).take D).toArray⟩ := by rw [← hq, ← hD]; exact extract_eq s p D
        have HXT : Hid (_) := hx
        have HE : Hid (q = p + D) := by show _ = _; omega
        clear HD HR HV HA HX hdg hdg' HN go hb hx HB1 HB2 hD
        rw [hq]
        clear hq HQ
        have hpq : (p : Int) ≤ q := by have := HE.out; omega
        by_cases a1 : 2147483647 < N
        · have a1' : (2147483647 : Int) < N := by omega
          have HR2 : Hid (R = none) := HR'.out.trans (if_pos (.inl a1))
          clear HR'
          go_wp2_with (first | (go_at_call 34; refine Calls.mono (HDG.out _) ?_; rintro e w' ⟨rfl, rfl⟩) | (go_at_call 37; refine Calls.mono (HDL.out _) ?_; rintro e w' ⟨rfl, rfl⟩))
          refine bodyPost_ret (v := .agg #[.int .i64 6, .string ⟨#[]⟩, .int .i64 0, .int .i64 (p : Int), .bool ln, .int .i64 (q : Int)]) (by simp [results, Try.results35, go_sem, *]) rfl ⟨foundT_bad p ln q R HR2.out, ?_⟩
          repeat (first | with_reducible exact Below.refl _ _ | (with_reducible refine Below.drew ?_) | (with_reducible refine Below.setCell ?_ (by first | exact Nat.le_refl _ | omega | simp) _) | (with_reducible refine Below.alloc ?_ (by first | exact Nat.le_refl _ | omega | simp | (simp; omega)) _))
        have a1' : ¬ (2147483647 : Int) < N := by omega
        by_cases a2 : s[p].toNat = 48
        · have a2' : ((s[p].toNat : Int) == 48) = true := by rw [beq_iff_eq]; omega
          by_cases a3 : p + 1 < q
          · have a3' : (p : Int) + 1 < q := by omega
            have HR2 : Hid (R = none) := HR'.out.trans (if_pos (.inr (.inl ⟨a2, a3⟩)))
            clear HR'
            go_wp2_with (first | (go_at_call 34; refine Calls.mono (HDG.out _) ?_; rintro e w' ⟨rfl, rfl⟩) | (go_at_call 37; refine Calls.mono (HDL.out _) ?_; rintro e w' ⟨rfl, rfl⟩))
            refine bodyPost_ret (v := .agg #[.int .i64 6, .string ⟨#[]⟩, .int .i64 0, .int .i64 (p : Int), .bool ln, .int .i64 (q : Int)]) (by simp [results, Try.results35, go_sem, *]) rfl ⟨foundT_bad p ln q R HR2.out, ?_⟩
            repeat (first | with_reducible exact Below.refl _ _ | (with_reducible refine Below.drew ?_) | (with_reducible refine Below.setCell ?_ (by first | exact Nat.le_refl _ | omega | simp) _) | (with_reducible refine Below.alloc ?_ (by first | exact Nat.le_refl _ | omega | simp | (simp; omega)) _))
          have a3' : ¬ (p : Int) + 1 < q := by omega
          cases B
          · have HR2 : Hid (R = some ⟨1, (s.data.toList.drop p).take D, N, D⟩) := HR'.out.trans (if_neg (by simp [a1, a3]))
            clear HR'
            go_wp2_with (first | (go_at_call 34; refine Calls.mono (HDG.out _) ?_; rintro e w' ⟨rfl, rfl⟩) | (go_at_call 37; refine Calls.mono (HDL.out _) ?_; rintro e w' ⟨rfl, rfl⟩))
            rw [HXT.out]
            refine bodyPost_ret (v := .agg #[.int .i64 1, .string ⟨((s.data.toList.drop p).take D).toArray⟩, .int .i64 (N : Int), .int .i64 (p : Int), .bool ln, .int .i64 (q : Int)]) (by simp [results, Try.results35, go_sem, *]) rfl ⟨by rw [HE.out]; exact foundT_ok p ln 1 N D _ R HR2.out, ?_⟩
            repeat (first | with_reducible exact Below.refl _ _ | (with_reducible refine Below.drew ?_) | (with_reducible refine Below.setCell ?_ (by first | exact Nat.le_refl _ | omega | simp) _) | (with_reducible refine Below.alloc ?_ (by first | exact Nat.le_refl _ | omega | simp | (simp; omega)) _))
          · have HR2 : Hid (R = none) := HR'.out.trans (if_pos (.inr (.inr rfl)))
            clear HR'
            go_wp2_with (first | (go_at_call 34; refine Calls.mono (HDG.out _) ?_; rintro e w' ⟨rfl, rfl⟩) | (go_at_call 37; refine Calls.mono (HDL.out _) ?_; rintro e w' ⟨rfl, rfl⟩))
            refine bodyPost_ret (v := .agg #[.int .i64 6, .string ⟨#[]⟩, .int .i64 0, .int .i64 (p : Int), .bool ln, .int .i64 (q : Int)]) (by simp [results, Try.results35, go_sem, *]) rfl ⟨foundT_bad p ln q R HR2.out, ?_⟩
            repeat (first | with_reducible exact Below.refl _ _ | (with_reducible refine Below.drew ?_) | (with_reducible refine Below.setCell ?_ (by first | exact Nat.le_refl _ | omega | simp) _) | (with_reducible refine Below.alloc ?_ (by first | exact Nat.le_refl _ | omega | simp | (simp; omega)) _))
        have a2' : ((s[p].toNat : Int) == 48) = false := by rw [beq_eq_false_iff_ne]; omega
        cases B
        · have HR2 : Hid (R = some ⟨1, (s.data.toList.drop p).take D, N, D⟩) := HR'.out.trans (if_neg (by simp [a1, a2]))
          clear HR'
          go_wp2_with (first | (go_at_call 34; refine Calls.mono (HDG.out _) ?_; rintro e w' ⟨rfl, rfl⟩) | (go_at_call 37; refine Calls.mono (HDL.out _) ?_; rintro e w' ⟨rfl, rfl⟩))
          rw [HXT.out]
          refine bodyPost_ret (v := .agg #[.int .i64 1, .string ⟨((s.data.toList.drop p).take D).toArray⟩, .int .i64 (N : Int), .int .i64 (p : Int), .bool ln, .int .i64 (q : Int)]) (by simp [results, Try.results35, go_sem, *]) rfl ⟨by rw [HE.out]; exact foundT_ok p ln 1 N D _ R HR2.out, ?_⟩
          repeat (first | with_reducible exact Below.refl _ _ | (with_reducible refine Below.drew ?_) | (with_reducible refine Below.setCell ?_ (by first | exact Nat.le_refl _ | omega | simp) _) | (with_reducible refine Below.alloc ?_ (by first | exact Nat.le_refl _ | omega | simp | (simp; omega)) _))
        · have HR2 : Hid (R = none) := HR'.out.trans (if_pos (.inr (.inr rfl)))
          clear HR'
          go_wp2_with (first | (go_at_call 34; refine Calls.mono (HDG.out _) ?_; rintro e w' ⟨rfl, rfl⟩) | (go_at_call 37; refine Calls.mono (HDL.out _) ?_; rintro e w' ⟨rfl, rfl⟩))
          refine bodyPost_ret (v := .agg #[.int .i64 6, .string ⟨#[]⟩, .int .i64 0, .int .i64 (p : Int), .bool ln, .int .i64 (q : Int)]) (by simp [results, Try.results35, go_sem, *]) rfl ⟨foundT_bad p ln q R HR2.out, ?_⟩
          repeat (first | with_reducible exact Below.refl _ _ | (with_reducible refine Below.drew ?_) | (with_reducible refine Below.setCell ?_ (by first | exact Nat.le_refl _ | omega | simp) _) | (with_reducible refine Below.alloc ?_ (by first | exact Nat.le_refl _ | omega | simp | (simp; omega)) _))
    · have hlt' : ¬ (q : Int) < s.size := by omega
      have hD := HD.out k hk (fun j h h' => HA.out j h h') (fun h => absurd h (by omega))
      have HR' : Hid (_) := (go hD).out
      have HBf : Hid (B = false) := HB2.out (by omega)
      have hx : s.extract p q = ⟨((s.data.toList.drop p).take D).toArray⟩ := by rw [← hq, ← hD]; exact extract_eq s p D
      have HXT : Hid (_) := hx
      have HE : Hid (q = p + D) := by show _ = _; omega
      have hqs : q ≤ s.size := by omega
      clear HD HR HV HA HN go hx HB1 HB2 hD
      rw [hq]
      clear hq HQ
      have hpq : (p : Int) ≤ q := by have := HE.out; omega
      by_cases a1 : 2147483647 < N
      · have a1' : (2147483647 : Int) < N := by omega
        have HR2 : Hid (R = none) := HR'.out.trans (if_pos (.inl a1))
        clear HR'
        go_wp2_with fail
        refine bodyPost_ret (v := .agg #[.int .i64 6, .string ⟨#[]⟩, .int .i64 0, .int .i64 (p : Int), .bool ln, .int .i64 (q : Int)]) (by simp [results, Try.results35, go_sem, *]) rfl ⟨foundT_bad p ln q R HR2.out, ?_⟩
        repeat (first | with_reducible exact Below.refl _ _ | (with_reducible refine Below.drew ?_) | (with_reducible refine Below.setCell ?_ (by first | exact Nat.le_refl _ | omega | simp) _) | (with_reducible refine Below.alloc ?_ (by first | exact Nat.le_refl _ | omega | simp | (simp; omega)) _))
      have a1' : ¬ (2147483647 : Int) < N := by omega
      by_cases a2 : s[p].toNat = 48
      · have a2' : ((s[p].toNat : Int) == 48) = true := by rw [beq_iff_eq]; omega
        by_cases a3 : p + 1 < q
        · have a3' : (p : Int) + 1 < q := by omega
          have HR2 : Hid (R = none) := HR'.out.trans (if_pos (.inr (.inl ⟨a2, a3⟩)))
          clear HR'
          go_wp2_with fail
          refine bodyPost_ret (v := .agg #[.int .i64 6, .string ⟨#[]⟩, .int .i64 0, .int .i64 (p : Int), .bool ln, .int .i64 (q : Int)]) (by simp [results, Try.results35, go_sem, *]) rfl ⟨foundT_bad p ln q R HR2.out, ?_⟩
          repeat (first | with_reducible exact Below.refl _ _ | (with_reducible refine Below.drew ?_) | (with_reducible refine Below.setCell ?_ (by first | exact Nat.le_refl _ | omega | simp) _) | (with_reducible refine Below.alloc ?_ (by first | exact Nat.le_refl _ | omega | simp | (simp; omega)) _))
        have a3' : ¬ (p : Int) + 1 < q := by omega
        have HR2 : Hid (R = some ⟨1, (s.data.toList.drop p).take D, N, D⟩) := HR'.out.trans (if_neg (by simp [a1, a3, HBf.out]))
        clear HR'
        go_wp2_with fail
        rw [HXT.out]
        refine bodyPost_ret (v := .agg #[.int .i64 1, .string ⟨((s.data.toList.drop p).take D).toArray⟩, .int .i64 (N : Int), .int .i64 (p : Int), .bool ln, .int .i64 (q : Int)]) (by simp [results, Try.results35, go_sem, *]) rfl ⟨by rw [HE.out]; exact foundT_ok p ln 1 N D _ R HR2.out, ?_⟩
        repeat (first | with_reducible exact Below.refl _ _ | (with_reducible refine Below.drew ?_) | (with_reducible refine Below.setCell ?_ (by first | exact Nat.le_refl _ | omega | simp) _) | (with_reducible refine Below.alloc ?_ (by first | exact Nat.le_refl _ | omega | simp | (simp; omega)) _))
      have a2' : ((s[p].toNat : Int) == 48) = false := by rw [beq_eq_false_iff_ne]; omega
      have HR2 : Hid (R = some ⟨1, (s.data.toList.drop p).take D, N, D⟩) := HR'.out.trans (if_neg (by simp [a1, a2, HBf.out]))
      clear HR'
      go_wp2_with fail
      rw [HXT.out]
      refine bodyPost_ret (v := .agg #[.int .i64 1, .string ⟨((s.data.toList.drop p).take D).toArray⟩, .int .i64 (N : Int), .int .i64 (p : Int), .bool ln, .int .i64 (q : Int)]) (by simp [results, Try.results35, go_sem, *]) rfl ⟨by rw [HE.out]; exact foundT_ok p ln 1 N D _ R HR2.out, ?_⟩
      repeat (first | with_reducible exact Below.refl _ _ | (with_reducible refine Below.drew ?_) | (with_reducible refine Below.setCell ?_ (by first | exact Nat.le_refl _ | omega | simp) _) | (with_reducible refine Below.alloc ?_ (by first | exact Nat.le_refl _ | omega | simp | (simp; omega)) _))
theorem rnumber_any (s : ByteArray) (p : Nat) (ln : Bool) (w : World) (hs : s.size ≤ 1000000) (hp : p < s.size) (hdg : Lx.digit s[p] = true) :
    Calls Try.prog 35 #[.string s, .int .i64 (p : Int), .agg #[.int .i64 0, .string ⟨#[]⟩, .int .i64 0, .int .i64 (p : Int), .bool ln]] w fun e w' => FoundT (Lx.tokOf p ln (Lx.pNum (s.data.toList.drop p))) e ∧ Below w.heap.size w w' := by
  have hd := drop_at s p hp
  have hl := Lx.hd_le Lx.digit (s.data.toList.drop p)
  rw [List.length_drop, size_list] at hl
  have hat : ∀ k (h : p + k < s.size), (s.data.toList.drop p)[k]'(by rw [List.length_drop, size_list]; omega) = s[p + k] := fun k h => by
    rw [List.getElem_drop]; rfl
  have hpos : 1 ≤ Lx.hd Lx.digit (s.data.toList.drop p) := by
    rw [hd]; exact Lx.hd_pos (l := s[p] :: _) hdg
  refine rnumber_core s p ln w hs hp (fun k => Lx.val ((s.data.toList.drop p).take k)) (Lx.hd Lx.digit (s.data.toList.drop p)) _ (Lx.beg Lx.letter ((s.data.toList.drop p).drop (Lx.hd Lx.digit (s.data.toList.drop p)))) rfl (fun k h => ?_) (fun k hk h1 h2 => ?_) (fun h => ?_) (fun h => ?_) hpos ?_
  · show Lx.val _ = _
    rw [val_take_succ _ k (by rw [List.length_drop, size_list]; omega), hat k h]
  · refine Lx.hd_eq _ _ _ (by rw [List.length_drop, size_list]; omega) (fun j h h' => ?_) (fun h => ?_)
    · rw [List.length_drop, size_list] at h
      rw [hat j (by omega)]; exact h1 j (by omega) h'
    · rw [List.length_drop, size_list] at h
      rw [hat k (by omega)]; exact h2 (by omega)
  · rw [List.drop_drop, drop_at s _ h]; rfl
  · rw [List.drop_drop, h, List.drop_of_length_le (by rw [size_list]; omega)]; rfl
  · show _ = _
    have := Lx.pNum_is s[p] (s.data.toList.drop (p + 1)) hdg
    rw [← hd] at this
    exact this
end Go.Proofs.Ytkaacmghgobhmaa.L
end
section
namespace Go.Proofs.Ytkaacmghgobhmaa.L
open Go.RowKit
set_option linter.unusedVariables false
/-- Where one is within a text: what it says so far lies in memory of one's own. -/
structure QS (B : Nat) (w2 : World) (s : ByteArray) (p : Nat) (R : Option Lx.Pc) (k : Nat) (bs : List UInt8) (v : Value) (W : World) : Prop where
  own : W.ownsRow B 5 1 v bs.length (Lib.byteCells bs)
  bel : Below B w2 W
  few : bs.length ≤ k
  at_ : p ≤ k
  rest : R = (Lx.quo (s.data.toList.drop k)).map fun r => ⟨2, bs ++ r.1, 0, r.2 + (k - p)⟩
theorem byLen {W : World} {B n : Nat} {v : Value} {bs : List UInt8} (h : W.ownsRow B 5 1 v n (Lib.byteCells bs)) : W.ownsRow B 5 1 v (Lib.byteCells bs).length (Lib.byteCells bs) := by
  have e : (Lib.byteCells bs).length = n := by have := h.1; simpa using this
  rw [e]; exact h
theorem QS.none {B : Nat} {w2 : World} {s : ByteArray} {p : Nat} {R : Option Lx.Pc} {k : Nat} {bs : List UInt8} {v : Value} {W : World} (h : QS B w2 s p R k bs v W) (hq : Lx.quo (s.data.toList.drop k) = Option.none) : R = Option.none := by
  rw [h.rest, hq]; rfl
theorem QS.next {B : Nat} {w2 : World} {s : ByteArray} {p : Nat} {R : Option Lx.Pc} {k : Nat} {bs : List UInt8} {v v' : Value} {W w3 : World} {c : UInt8} {z : Nat} (h : QS B w2 s p R k bs v W)
    (hq : Lx.quo (s.data.toList.drop k) = (Lx.quo (s.data.toList.drop (k + z))).map fun r => (c :: r.1, r.2 + z)) (ho : w3.ownsRow B 5 1 v' (Lib.byteCells bs ++ [Value.int .u8 (c.toNat : Int)]).length (Lib.byteCells bs ++ [Value.int .u8 (c.toNat : Int)])) (hb : Below B W w3) (hz : 0 < z := by omega) : QS B w2 s p R (k + z) (bs ++ [c]) v' w3 := by
  have hp := h.at_
  refine ⟨?_, h.bel.trans hb, by have := h.few; simp; omega, by omega, ?_⟩
  · rw [byteCells_snoc] at ho
    have e : (Lib.byteCells (bs ++ [c])).length = (bs ++ [c]).length := by simp [Lib.byteCells]
    rw [e] at ho; exact ho
  · rw [h.rest, hq, Option.map_map]
    congr 1
    funext r
    simp only [Function.comp, List.append_assoc, List.singleton_append]
    congr 1
    omega
theorem quo_end (s : ByteArray) (k : Nat) (h : k = s.size) : Lx.quo (s.data.toList.drop k) = none := by
  rw [List.drop_of_length_le (by rw [size_list]; omega)]; rfl
theorem quo_one (c : UInt8) (l : List UInt8) (h : c.toNat ≠ 34) (h2 : c.toNat ≠ 92) (h3 : 32 ≤ c.toNat) (h4 : c.toNat ≤ 126) : Lx.quo (c :: l) = (Lx.quo l).map fun r => (c :: r.1, r.2 + 1) := by
  rw [Lx.quo_said c l h]
  have e : Lx.said (c :: l) = some (c, 1) := by
    cases l <;> simp [Lx.said, h2, h3, h4]
  rw [e]; rfl
theorem quo_bad (c : UInt8) (l : List UInt8) (h : c.toNat ≠ 34) (h2 : c.toNat ≠ 92) (h3 : c.toNat < 32 ∨ 126 < c.toNat) : Lx.quo (c :: l) = none := by
  rw [Lx.quo_said c l h]
  have e3 : ¬ (32 ≤ c.toNat ∧ c.toNat ≤ 126) := by omega
  have e : Lx.said (c :: l) = none := by
    cases l
    · simp only [Lx.said]; rw [if_neg h2, if_neg e3]
    · simp only [Lx.said]; rw [if_neg h2, if_neg e3]
  rw [e]
theorem quo_last (c : UInt8) (h2 : c.toNat = 92) : Lx.quo [c] = none := by
  rw [Lx.quo_said c [] (by omega)]; simp [Lx.said, h2]
theorem quo_same (c d : UInt8) (l : List UInt8) (h : c.toNat = 92) (h2 : d.toNat = 34 ∨ d.toNat = 92) : Lx.quo (c :: d :: l) = (Lx.quo l).map fun r => (d :: r.1, r.2 + 2) := by
  rw [Lx.quo_said c _ (by omega)]; simp [Lx.said, h, h2]
theorem quo_line (c d : UInt8) (l : List UInt8) (h : c.toNat = 92) (h2 : d.toNat = 110) : Lx.quo (c :: d :: l) = (Lx.quo l).map fun r => (10 :: r.1, r.2 + 2) := by
  rw [Lx.quo_said c _ (by omega)]; simp [Lx.said, h, h2]
theorem quo_other (c d : UInt8) (l : List UInt8) (h : c.toNat = 92) (h2 : d.toNat ≠ 34) (h3 : d.toNat ≠ 92) (h4 : d.toNat ≠ 110) : Lx.quo (c :: d :: l) = none := by
  rw [Lx.quo_said c _ (by omega)]; simp [Lx.said, h, h2, h3, h4]
theorem quo_close (c : UInt8) (l : List UInt8) (h : c.toNat = 34) : Lx.quo (c :: l) = some ([], 1) := by
  cases l <;> simp [Lx.quo, h]
theorem own_text {w : World} {base : Nat} {v : Value} {l : List UInt8} (h : w.ownsRow base 5 1 v l.length (Lib.byteCells l)) : ∃ a n c, v = .slice a n c ∧ ∀ W', (∀ j, j < l.length → ∀ g, a = some ⟨g, 0, none⟩ → W'.cell? ⟨g, j, none⟩ = w.cell? ⟨g, j, none⟩) → (convert 24 9 (.slice a n c)).run Try.prog W' = .ok (.string ⟨l.toArray⟩) W' := by
  rcases h.2 with ⟨e, e0⟩ | ⟨g, cap, cur, e, hb, _⟩
  · refine ⟨none, 0, 0, e, fun W' _ => ?_⟩
    have : l = [] := List.length_eq_zero_iff.1 e0
    subst this
    exact run_convert_bytes_nil W' 24 5 Try.underlying24 Try.underlying5 _ _ 9 Try.underlying9
  · subst e
    refine ⟨_, _, _, rfl, fun W' hW => ?_⟩
    have := run_convert_bytes_back (P := Try.prog) W' 24 9 5 ⟨g, 0, none⟩ cap l Try.underlying24 Try.underlying5 Try.underlying9 (fun j hj => by
      have hc := h.cellAt j (by rw [Nat.mul_one]; exact hj)
      rw [show (⟨g, 0, none⟩ : Addr).add j = ⟨g, j, none⟩ by unfold Addr.add; split <;> simp_all]
      rw [hW j hj g rfl, hc]; simp [Lib.byteCells, List.getElem?_eq_getElem hj])
    exact this
set_option maxRecDepth 100000 in
set_option maxHeartbeats 4000000 in
theorem rquoted_core (s : ByteArray) (p : Nat) (ln : Bool) (w : World) (hs : s.size ≤ 1000000) (hp : p < s.size) (R : Option Lx.Pc)
    (hR : R = (Lx.quo (s.data.toList.drop (p + 1))).map fun r => ⟨2, r.1, 0, r.2 + 1⟩) :
    Calls Try.prog 36 #[.string s, .int .i64 (p : Int), .agg #[.int .i64 0, .string ⟨#[]⟩, .int .i64 0, .int .i64 (p : Int), .bool ln]] w fun e w' => FoundT (Lx.tokOf p ln R) e ∧ Below w.heap.size w w' := by
  obtain ⟨B, hB⟩ : ∃ B, w.heap.size + 2 = B := ⟨_, rfl⟩
  obtain ⟨w2, hw2⟩ : ∃ w2, (w.alloc (.cells #[.int .i64 6, .string ⟨#[]⟩, .int .i64 0, .int .i64 (p : Int), .bool ln] 54)).alloc (.cells #[.int .i64 0, .string ⟨#[]⟩, .int .i64 0, .int .i64 0, .bool false, .int .i64 0] 56) = w2 := ⟨_, rfl⟩
  have hs2 : w2.heap.size = B := by rw [← hw2, alloc_size, alloc_size]; omega
  have H0 : Hid (QS B w2 s p R (p + 1) [] (.slice none 0 0) w2) := (show QS _ _ _ _ _ _ _ _ _ from ⟨World.ownsRow_nil _ _ _ _, Below.refl _ _, by simp, by omega, by rw [hR, show p + 1 - p = 1 by omega]; rfl⟩)
  have HW : Hid (∀ W, Below B w2 W → Below (w.heap.size + 1) (w.alloc (.cells #[.int .i64 6, .string ⟨#[]⟩, .int .i64 0, .int .i64 (p : Int), .bool ln] 54)) W ∧ Below (w.heap.size + 1 + 1) ((w.alloc (.cells #[.int .i64 6, .string ⟨#[]⟩, .int .i64 0, .int .i64 (p : Int), .bool ln] 54)).alloc (.cells #[.int .i64 0, .string ⟨#[]⟩, .int .i64 0, .int .i64 0, .bool false, .int .i64 0] 56)) W ∧ Below w.heap.size w W ∧ B ≤ W.heap.size) := (fun W hb => by
    subst hw2
    have h1 := hb.size
    rw [hs2] at h1
    refine ⟨((Below.refl _ _).alloc (by rw [alloc_size]; exact Nat.le_refl _) _).trans (hb.mono (by omega)), hb.mono (by omega), (((Below.refl _ _).alloc (Nat.le_refl _) _).alloc (by rw [alloc_size]; omega) _).trans (hb.mono (by omega)), h1⟩)
  clear hR
  have HB : Hid (_) := hB
  clear hB hs2
  go_enter Try.func36, Try.ntmps36
  go_wp2
  clear hw2
  go_loopw [7, 8] (fun v i W => ∃ (k : Nat) (bs : List UInt8), p + 1 ≤ k ∧ k ≤ s.size ∧ i = .int .i64 (k : Int) ∧ Hid (QS B w2 s p R k bs v W)) (fun _ i _ => s.size - (intOf i).toNat)
  case atStart => exact ⟨p + 1, [], by omega, by omega, by go_num, H0⟩
  case round =>
    obtain ⟨k, bs, hk1, hk, rfl, HQ⟩ := hrel
    clear H0
    obtain ⟨x1, x2, hBB, hsz⟩ := HW.out _ HQ.out.bel
    obtain ⟨q0, q1, q2, q3, q4, f0, f1, f2, f3, f4⟩ := cells5 rfl x1
    obtain ⟨r0, r1, r2, r3, r4, r5, g0, g1, g2, g3, g4, g5⟩ := cells6 (by rw [alloc_size]) x2
    have hlt1 : w.heap.size < wr.heap.size := by have := HB.out; omega
    have hlt2 : w.heap.size + 1 < wr.heap.size := by have := HB.out; omega
    clear x1 x2 HW
    by_cases hlt : k < s.size
    · have hlt' : (k : Int) < s.size := by omega
      have hd := drop_at s k hlt
      by_cases h34 : s[k].toNat = 34
      · have hc : ((s[k].toNat : Int) == 34) = true := by rw [beq_iff_eq]; omega
        have hc' : ((s[k].toNat : Int) != 34) = false := by rw [bne, hc]; rfl
        have HR' : Hid (R = some ⟨2, bs, 0, 1 + (k - p)⟩) := by
          show _ = _
          rw [HQ.out.rest, hd, quo_close _ _ h34]; simp
        obtain ⟨a, n, c, hv, hcv⟩ := own_text HQ.out.own
        subst hv
        have hcv2 := hcv (wr.setCell ⟨w.heap.size, 0, none⟩ (.int .i64 2)) (fun j _ g e => by
          have := (own_block HQ.out.own g (by subst e; rfl)).1
          have := HB.out
          unfold World.cell?
          show (match (wr.setCell ⟨w.heap.size, 0, none⟩ (.int .i64 2)).heap[g]? with | some (Obj.cells c elem frozen) => c[j]? | x => none) = _
          rw [Below.heap_setCell wr ⟨w.heap.size, 0, none⟩ (.int .i64 2) g (by show g ≠ w.heap.size; omega)]
          rfl)
        clear hd h34 HQ hcv
        go_wp2_with fail
        refine bodyPost_ret (v := .agg #[.int .i64 2, .string ⟨bs.toArray⟩, .int .i64 0, .int .i64 (p : Int), .bool ln, .int .i64 ((k : Int) + 1)]) (by simp [results, Try.results36, go_sem, *]) rfl ⟨by rw [show ((k : Int) + 1) = ((p + (1 + (k - p)) : Nat) : Int) by omega]; exact foundT_ok p ln 2 0 _ bs R HR'.out, ?_⟩
        repeat (first | with_reducible exact hBB | (with_reducible refine Below.drew ?_) | (with_reducible refine Below.setCell ?_ (by first | exact Nat.le_refl _ | omega | simp) _) | (with_reducible refine Below.alloc ?_ (by first | exact Nat.le_refl _ | omega | simp | (simp; omega)) _))
      have e34c : (((s[k]).toNat : Int) == 34) = false := by rw [beq_eq_false_iff_ne]; omega
      have e34c' : ((s[k].toNat : Int) != 34) = true := by rw [bne, e34c]; rfl
      by_cases h92 : s[k].toNat = 92
      · have e92c : (((s[k]).toNat : Int) == 92) = true := by rw [beq_iff_eq]; omega
        by_cases hlt3 : k + 1 < s.size
        · have hlt3' : (k : Int) + 1 < s.size := by omega
          have hd2 := drop_at s (k + 1) hlt3
          by_cases d34 : s[k + 1].toNat = 34
          · have e34d : (((s[k + 1]).toNat : Int) == 34) = true := by rw [beq_iff_eq]; omega
            obtain ⟨v', w3, hr, ho, _, hb3⟩ := byte_more (byLen HQ.out.own) hsz (by have := HQ.out.few; simp [Lib.byteCells]; omega) ((s[k + 1]).toNat : Int) 24
            have HN : Hid (QS B w2 s p R (k + 2) (bs ++ [s[k + 1]]) v' w3) := HQ.out.next (by rw [hd, hd2, quo_same _ _ _ h92 (.inl d34)]) ho hb3
            have HRn : Hid (_) := hr
            clear hd hd2 h34 h92 d34 HQ hr ho hb3 hBB q0 q1 q2 q3 q4 f0 f1 f2 f3 f4 r0 r1 r2 r3 r4 r5 g0 g1 g2 g3 g4 g5
            go_wp2_with (at_builtin; refine wpList_append_run _ _ 24 rfl rfl _ _ _ _ rfl rfl HRn.out ?_)
            go_roundw
            case rel => exact ⟨k + 2, bs ++ [s[k + 1]], by omega, by omega, by go_num, HN⟩
            case measure => simp [intOf]; omega
          have e34d : (((s[k + 1]).toNat : Int) == 34) = false := by rw [beq_eq_false_iff_ne]; omega
          by_cases d92 : s[k + 1].toNat = 92
          · have e92d : (((s[k + 1]).toNat : Int) == 92) = true := by rw [beq_iff_eq]; omega
            obtain ⟨v', w3, hr, ho, _, hb3⟩ := byte_more (byLen HQ.out.own) hsz (by have := HQ.out.few; simp [Lib.byteCells]; omega) ((s[k + 1]).toNat : Int) 24
            have HN : Hid (QS B w2 s p R (k + 2) (bs ++ [s[k + 1]]) v' w3) := HQ.out.next (by rw [hd, hd2, quo_same _ _ _ h92 (.inr d92)]) ho hb3
            have HRn : Hid (_) := hr
            clear hd hd2 h34 h92 d34 d92 HQ hr ho hb3 hBB q0 q1 q2 q3 q4 f0 f1 f2 f3 f4 r0 r1 r2 r3 r4 r5 g0 g1 g2 g3 g4 g5
            go_wp2_with (at_builtin; refine wpList_append_run _ _ 24 rfl rfl _ _ _ _ rfl rfl HRn.out ?_)
            go_roundw
            case rel => exact ⟨k + 2, bs ++ [s[k + 1]], by omega, by omega, by go_num, HN⟩
            case measure => simp [intOf]; omega
          have e92d : (((s[k + 1]).toNat : Int) == 92) = false := by rw [beq_eq_false_iff_ne]; omega
          by_cases d110 : s[k + 1].toNat = 110
          · have e110d : (((s[k + 1]).toNat : Int) == 110) = true := by rw [beq_iff_eq]; omega
            obtain ⟨v', w3, hr, ho, _, hb3⟩ := byte_more (byLen HQ.out.own) hsz (by have := HQ.out.few; simp [Lib.byteCells]; omega) ((10 : UInt8).toNat : Int) 24
            have HN : Hid (QS B w2 s p R (k + 2) (bs ++ [10]) v' w3) := HQ.out.next (c := 10) (by rw [hd, hd2, quo_line _ _ _ h92 d110]) ho hb3
            have HRn : Hid (_) := hr
            clear hd hd2 h34 h92 d34 d92 d110 HQ hr ho hb3 hBB q0 q1 q2 q3 q4 f0 f1 f2 f3 f4 r0 r1 r2 r3 r4 r5 g0 g1 g2 g3 g4 g5
            go_wp2_with (at_builtin; refine wpList_append_run _ _ 24 rfl rfl _ _ _ _ rfl rfl HRn.out ?_)
            go_roundw
            case rel => exact ⟨k + 2, bs ++ [10], by omega, by omega, by go_num, HN⟩
            case measure => simp [intOf]; omega
          have e110d : (((s[k + 1]).toNat : Int) == 110) = false := by rw [beq_eq_false_iff_ne]; omega
          have HRn : Hid (R = none) := HQ.out.none (by rw [hd, hd2, quo_other _ _ _ h92 d34 d92 d110])
          clear hd hd2 h34 h92 d34 d92 d110 HQ
          go_wp2_with fail
          refine bodyPost_ret (v := .agg #[.int .i64 6, .string ⟨#[]⟩, .int .i64 0, .int .i64 (p : Int), .bool ln, .int .i64 ((k + 1 : Nat) : Int)]) (by simp [results, Try.results36, go_sem, *]) rfl ⟨foundT_bad p ln (k + 1) R HRn.out, ?_⟩
          repeat (first | with_reducible exact hBB | (with_reducible refine Below.drew ?_) | (with_reducible refine Below.setCell ?_ (by first | exact Nat.le_refl _ | omega | simp) _) | (with_reducible refine Below.alloc ?_ (by first | exact Nat.le_refl _ | omega | simp | (simp; omega)) _))
        have hlt3' : ¬ (k : Int) + 1 < s.size := by omega
        have HRn : Hid (R = none) := HQ.out.none (by rw [hd, List.drop_of_length_le (by rw [size_list]; omega), quo_last _ h92])
        clear hd h34 HQ
        go_wp2_with fail
        refine bodyPost_ret (v := .agg #[.int .i64 6, .string ⟨#[]⟩, .int .i64 0, .int .i64 (p : Int), .bool ln, .int .i64 ((k : Nat) : Int)]) (by simp [results, Try.results36, go_sem, *]) rfl ⟨foundT_bad p ln (k) R HRn.out, ?_⟩
        repeat (first | with_reducible exact hBB | (with_reducible refine Below.drew ?_) | (with_reducible refine Below.setCell ?_ (by first | exact Nat.le_refl _ | omega | simp) _) | (with_reducible refine Below.alloc ?_ (by first | exact Nat.le_refl _ | omega | simp | (simp; omega)) _))
      have e92c : (((s[k]).toNat : Int) == 92) = false := by rw [beq_eq_false_iff_ne]; omega
      by_cases h32 : s[k].toNat < 32
      · have h32' : (s[k].toNat : Int) < 32 := by omega
        have HRn : Hid (R = none) := HQ.out.none (by rw [hd, quo_bad _ _ h34 h92 (.inl h32)])
        clear hd h34 h92 HQ
        go_wp2_with fail
        refine bodyPost_ret (v := .agg #[.int .i64 6, .string ⟨#[]⟩, .int .i64 0, .int .i64 (p : Int), .bool ln, .int .i64 ((k : Nat) : Int)]) (by simp [results, Try.results36, go_sem, *]) rfl ⟨foundT_bad p ln (k) R HRn.out, ?_⟩
        repeat (first | with_reducible exact hBB | (with_reducible refine Below.drew ?_) | (with_reducible refine Below.setCell ?_ (by first | exact Nat.le_refl _ | omega | simp) _) | (with_reducible refine Below.alloc ?_ (by first | exact Nat.le_refl _ | omega | simp | (simp; omega)) _))
      have h32' : ¬ (s[k].toNat : Int) < 32 := by omega
      by_cases h126 : 126 < s[k].toNat
      · have h126' : (126 : Int) < s[k].toNat := by omega
        have HRn : Hid (R = none) := HQ.out.none (by rw [hd, quo_bad _ _ h34 h92 (.inr h126)])
        clear hd h34 h92 HQ
        go_wp2_with fail
        refine bodyPost_ret (v := .agg #[.int .i64 6, .string ⟨#[]⟩, .int .i64 0, .int .i64 (p : Int), .bool ln, .int .i64 ((k : Nat) : Int)]) (by simp [results, Try.results36, go_sem, *]) rfl ⟨foundT_bad p ln (k) R HRn.out, ?_⟩
        repeat (first | with_reducible exact hBB | (with_reducible refine Below.drew ?_) | (with_reducible refine Below.setCell ?_ (by first | exact Nat.le_refl _ | omega | simp) _) | (with_reducible refine Below.alloc ?_ (by first | exact Nat.le_refl _ | omega | simp | (simp; omega)) _))
      have h126' : ¬ (126 : Int) < s[k].toNat := by omega
      obtain ⟨v', w3, hr, ho, _, hb3⟩ := byte_more (byLen HQ.out.own) hsz (by have := HQ.out.few; simp [Lib.byteCells]; omega) ((s[k]).toNat : Int) 24
      have HN : Hid (QS B w2 s p R (k + 1) (bs ++ [s[k]]) v' w3) := HQ.out.next (by rw [hd, quo_one _ _ h34 h92 (by omega) (by omega)]) ho hb3
      have HRn : Hid (_) := hr
      clear hd h34 h92 HQ hr ho hb3 hBB q0 q1 q2 q3 q4 f0 f1 f2 f3 f4 r0 r1 r2 r3 r4 r5 g0 g1 g2 g3 g4 g5
      go_wp2_with (at_builtin; refine wpList_append_run _ _ 24 rfl rfl _ _ _ _ rfl rfl HRn.out ?_)
      go_roundw
      case rel => exact ⟨k + 1, bs ++ [s[k]], by omega, by omega, by go_num, HN⟩
      case measure => simp [intOf]; omega
    · have hlt' : ¬ (k : Int) < s.size := by omega
      have HRn : Hid (R = none) := HQ.out.none (quo_end s k (by omega))
      clear HQ
      go_wp2_with fail
      refine bodyPost_ret (v := .agg #[.int .i64 6, .string ⟨#[]⟩, .int .i64 0, .int .i64 (p : Int), .bool ln, .int .i64 ((k : Nat) : Int)]) (by simp [results, Try.results36, go_sem, *]) rfl ⟨foundT_bad p ln (k) R HRn.out, ?_⟩
      repeat (first | with_reducible exact hBB | (with_reducible refine Below.drew ?_) | (with_reducible refine Below.setCell ?_ (by first | exact Nat.le_refl _ | omega | simp) _) | (with_reducible refine Below.alloc ?_ (by first | exact Nat.le_refl _ | omega | simp | (simp; omega)) _))
theorem rquoted_any (s : ByteArray) (p : Nat) (ln : Bool) (w : World) (hs : s.size ≤ 1000000) (hp : p < s.size) (h34 : s[p].toNat = 34) :
    Calls Try.prog 36 #[.string s, .int .i64 (p : Int), .agg #[.int .i64 0, .string ⟨#[]⟩, .int .i64 0, .int .i64 (p : Int), .bool ln]] w fun e w' => FoundT (Lx.tokOf p ln (Lx.piece (s.data.toList.drop p))) e ∧ Below w.heap.size w w' :=
  rquoted_core s p ln w hs hp _ (by rw [drop_at s p hp]; exact Lx.piece_text _ _ h34)
end Go.Proofs.Ytkaacmghgobhmaa.L
end
