/- The reference's number by its contract. -/
import Derived.Test.YtbciecmikcloaaaDoorLRBlanks
import Derived.Test.YtbciecmikcloaaaDoorLPiece
namespace Go.Proofs.YtbciecmikcloaaaDoor.L
open Go.RowKit
set_option linter.unusedVariables false
/-- What the reference finds: a token, and the place behind it, where it is one. -/
def FoundT (t : Lx.Tk) (e : Ending) : Prop := ∃ E : Nat, e = .returned (.agg #[.int .i64 (t.k : Int), .string ⟨t.t.toArray⟩, .int .i64 (t.n : Int), .int .i64 (t.a : Int), .bool t.ln, .int .i64 (E : Int)]) ∧ (t.k ≠ 6 → E = t.e)
theorem val_take_succ (l : List UInt8) (k : Nat) (h : k < l.length) : Lx.val (l.take (k + 1)) = 10 * Lx.val (l.take k) + ((l[k]'h).toNat - 48) := by
  rw [List.take_succ_eq_append_getElem h, Lx.val_snoc]
theorem foundT_bad (p : Nat) (ln : Bool) (E : Nat) (r : Option Lx.Pc) (h : r = none) : FoundT (Lx.tokOf p ln r) (.returned (.agg #[.int .i64 6, .string ⟨#[]⟩, .int .i64 0, .int .i64 (p : Int), .bool ln, .int .i64 (E : Int)])) := by
  subst h; exact ⟨E, rfl, fun h => absurd rfl h⟩
theorem foundT_ok (p : Nat) (ln : Bool) (k n z : Nat) (t : List UInt8) (r : Option Lx.Pc) (h : r = some ⟨k, t, n, z⟩) : FoundT (Lx.tokOf p ln r) (.returned (.agg #[.int .i64 (k : Int), .string ⟨t.toArray⟩, .int .i64 (n : Int), .int .i64 (p : Int), .bool ln, .int .i64 ((p + z : Nat) : Int)])) := by
  subst h; exact ⟨p + z, rfl, fun _ => rfl⟩
set_option maxRecDepth 100000 in
set_option maxHeartbeats 2000000 in
theorem rnumber_core (s : ByteArray) (p : Nat) (ln : Bool) (w : World) (hs : s.size ≤ 1000000) (hp : p < s.size) (V : Nat → Nat) (D : Nat) (R : Option Lx.Pc) (B : Bool)
    (hV0 : V 0 = 0) (HV : Hid (∀ k (h : p + k < s.size), V (k + 1) = 10 * V k + (s[p + k].toNat - 48)))
    (HD : Hid (∀ k, p + k ≤ s.size → (∀ j (h : p + j < s.size), j < k → Lx.digit s[p + j] = true) → (∀ h : p + k < s.size, Lx.digit s[p + k] = false) → D = k))
    (HB1 : Hid (∀ h : p + D < s.size, Lx.letter s[p + D] = B)) (HB2 : Hid (p + D = s.size → B = false)) (hD1 : 1 ≤ D)
    (HR : Hid (R = if 2147483647 < V D ∨ (s[p].toNat = 48 ∧ 1 < D) ∨ B = true then none else some ⟨1, (s.data.toList.drop p).take D, V D, D⟩)) :
    Calls Tryd.prog 23 #[.string s, .int .i64 (p : Int), .agg #[.int .i64 0, .string ⟨#[]⟩, .int .i64 0, .int .i64 (p : Int), .bool ln]] w fun e w' => FoundT (Lx.tokOf p ln R) e ∧ Below w.heap.size w w' := by
  go_enter Tryd.func23, Tryd.ntmps23
  go_wp2
  go_loop [7, 8] (fun i n => ∃ (k N : Nat), p + k ≤ s.size ∧ i = .int .i64 ((p + k : Nat) : Int) ∧ n = .int .i64 (N : Int) ∧ N ≤ 2147483648 ∧ Hid (N = min (V k) 2147483648) ∧ Hid (∀ j (h : p + j < s.size), j < k → Lx.digit s[p + j] = true)) (fun i _ => s.size - (intOf i).toNat)
  case atStart => exact ⟨0, 0, by omega, rfl, rfl, by omega, (by show _ = _; rw [hV0]; rfl), fun j h h' => absurd h' (by omega)⟩
  case round =>
    obtain ⟨k, N, hk, rfl, rfl, hN, HN, HA⟩ := hrel
    obtain ⟨q, hq⟩ : ∃ q, p + k = q := ⟨_, rfl⟩
    have HQ : Hid (p + k = q) := hq
    have go : ∀ (hD : D = k), Hid (R = if 2147483647 < N ∨ (s[p].toNat = 48 ∧ p + 1 < q) ∨ B = true then none else some ⟨1, (s.data.toList.drop p).take D, N, D⟩) := fun hD => by
      show _ = _
      have h1 := HR.out
      have h2 := HN.out
      rw [h1]
      subst hD
      by_cases a : 2147483647 < V D
      · rw [if_pos (.inl a), if_pos (.inl (by omega))]
      · have e : N = V D := by omega
        rw [e]
        have e2 : (1 < D) ↔ p + 1 < q := by omega
        simp only [e2]
    by_cases hlt : q < s.size
    · have hlt' : (q : Int) < s.size := by omega
      have hk' : p + k < s.size := by omega
      have HX : Hid (V (k + 1) = 10 * V k + (s[q].toNat - 48)) := by subst hq; exact HV.out k hk'
      have HDG : Hid (_) := fun W => rdigit_any s[q] W
      by_cases hdg : Lx.digit s[q] = true
      · rw [hdg] at HDG
        have HA' : Hid (∀ j (h : p + j < s.size), j < k + 1 → Lx.digit s[p + j] = true) := fun j h h' => by
          by_cases e : j = k
          · subst e; subst hq; exact hdg
          · exact HA.out j h (by omega)
        have h1 : 48 ≤ (s[q].toNat : Int) := by unfold Lx.digit at hdg; simp at hdg; omega
        have h2 : (s[q].toNat : Int) ≤ 57 := by unfold Lx.digit at hdg; simp at hdg; omega
        clear hdg HA HD HR HV go HB1 HB2
        rw [hq]
        clear hq
        go_wp2_with (go_at_call 22; refine Calls.mono (HDG.out _) ?_; rintro e w' ⟨rfl, rfl⟩)
        go_round
        case rel =>
          refine ⟨k + 1, min (10 * N + (s[q].toNat - 48)) 2147483648, by have := HQ.out; omega, by have := HQ.out; rw [show p + (k + 1) = q + 1 by omega]; go_num, ?_, by omega, ?_, HA'⟩
          · exact congrArg (Value.int .i64) (by omega)
          · show _ = _
            rw [HX.out, HN.out]; omega
        case measure => have := HQ.out; simp [intOf]; omega
      · have hdg' : Lx.digit s[q] = false := by simpa using hdg
        rw [hdg'] at HDG
        have hD := HD.out k hk (fun j h h' => HA.out j h h') (fun h => by subst hq; exact hdg')
        have HR' : Hid (_) := (go hD).out
        have HDL : Hid (_) := fun W => rletter_any s[q] W
        have hb : Lx.letter s[q] = B := by subst hq; subst hD; exact HB1.out hk'
        rw [hb] at HDL
        have hx : s.extract p q = ⟨((s.data.toList.drop p).take D).toArray⟩ := by rw [← hq, ← hD]; exact extract_eq s p D
        have HXT : Hid (_) := hx
        have HE : Hid (q = p + D) := by show _ = _; omega
        clear HD HR HV HA HX hdg hdg' HN go hb hx HB1 HB2 hD
        rw [hq]
        clear hq HQ
        have hpq : (p : Int) ≤ q := by have := HE.out; omega
        by_cases a1 : 2147483647 < N
        · have a1' : (2147483647 : Int) < N := by omega
          have HR2 : Hid (R = none) := HR'.out.trans (if_pos (.inl a1))
          clear HR'
          go_wp2_with (first | (go_at_call 22; refine Calls.mono (HDG.out _) ?_; rintro e w' ⟨rfl, rfl⟩) | (go_at_call 25; refine Calls.mono (HDL.out _) ?_; rintro e w' ⟨rfl, rfl⟩))
          refine bodyPost_ret (v := .agg #[.int .i64 6, .string ⟨#[]⟩, .int .i64 0, .int .i64 (p : Int), .bool ln, .int .i64 (q : Int)]) (by simp [results, Tryd.results23, go_sem, *]) rfl ⟨foundT_bad p ln q R HR2.out, ?_⟩
          repeat (first | with_reducible exact Below.refl _ _ | (with_reducible refine Below.drew ?_) | (with_reducible refine Below.setCell ?_ (by first | exact Nat.le_refl _ | omega | simp) _) | (with_reducible refine Below.alloc ?_ (by first | exact Nat.le_refl _ | omega | simp | (simp; omega)) _))
        have a1' : ¬ (2147483647 : Int) < N := by omega
        by_cases a2 : s[p].toNat = 48
        · have a2' : ((s[p].toNat : Int) == 48) = true := by rw [beq_iff_eq]; omega
          by_cases a3 : p + 1 < q
          · have a3' : (p : Int) + 1 < q := by omega
            have HR2 : Hid (R = none) := HR'.out.trans (if_pos (.inr (.inl ⟨a2, a3⟩)))
            clear HR'
            go_wp2_with (first | (go_at_call 22; refine Calls.mono (HDG.out _) ?_; rintro e w' ⟨rfl, rfl⟩) | (go_at_call 25; refine Calls.mono (HDL.out _) ?_; rintro e w' ⟨rfl, rfl⟩))
            refine bodyPost_ret (v := .agg #[.int .i64 6, .string ⟨#[]⟩, .int .i64 0, .int .i64 (p : Int), .bool ln, .int .i64 (q : Int)]) (by simp [results, Tryd.results23, go_sem, *]) rfl ⟨foundT_bad p ln q R HR2.out, ?_⟩
            repeat (first | with_reducible exact Below.refl _ _ | (with_reducible refine Below.drew ?_) | (with_reducible refine Below.setCell ?_ (by first | exact Nat.le_refl _ | omega | simp) _) | (with_reducible refine Below.alloc ?_ (by first | exact Nat.le_refl _ | omega | simp | (simp; omega)) _))
          have a3' : ¬ (p : Int) + 1 < q := by omega
          cases B
          · have HR2 : Hid (R = some ⟨1, (s.data.toList.drop p).take D, N, D⟩) := HR'.out.trans (if_neg (by simp [a1, a3]))
            clear HR'
            go_wp2_with (first | (go_at_call 22; refine Calls.mono (HDG.out _) ?_; rintro e w' ⟨rfl, rfl⟩) | (go_at_call 25; refine Calls.mono (HDL.out _) ?_; rintro e w' ⟨rfl, rfl⟩))
            rw [HXT.out]
            refine bodyPost_ret (v := .agg #[.int .i64 1, .string ⟨((s.data.toList.drop p).take D).toArray⟩, .int .i64 (N : Int), .int .i64 (p : Int), .bool ln, .int .i64 (q : Int)]) (by simp [results, Tryd.results23, go_sem, *]) rfl ⟨by rw [HE.out]; exact foundT_ok p ln 1 N D _ R HR2.out, ?_⟩
            repeat (first | with_reducible exact Below.refl _ _ | (with_reducible refine Below.drew ?_) | (with_reducible refine Below.setCell ?_ (by first | exact Nat.le_refl _ | omega | simp) _) | (with_reducible refine Below.alloc ?_ (by first | exact Nat.le_refl _ | omega | simp | (simp; omega)) _))
          · have HR2 : Hid (R = none) := HR'.out.trans (if_pos (.inr (.inr rfl)))
            clear HR'
            go_wp2_with (first | (go_at_call 22; refine Calls.mono (HDG.out _) ?_; rintro e w' ⟨rfl, rfl⟩) | (go_at_call 25; refine Calls.mono (HDL.out _) ?_; rintro e w' ⟨rfl, rfl⟩))
            refine bodyPost_ret (v := .agg #[.int .i64 6, .string ⟨#[]⟩, .int .i64 0, .int .i64 (p : Int), .bool ln, .int .i64 (q : Int)]) (by simp [results, Tryd.results23, go_sem, *]) rfl ⟨foundT_bad p ln q R HR2.out, ?_⟩
            repeat (first | with_reducible exact Below.refl _ _ | (with_reducible refine Below.drew ?_) | (with_reducible refine Below.setCell ?_ (by first | exact Nat.le_refl _ | omega | simp) _) | (with_reducible refine Below.alloc ?_ (by first | exact Nat.le_refl _ | omega | simp | (simp; omega)) _))
        have a2' : ((s[p].toNat : Int) == 48) = false := by rw [beq_eq_false_iff_ne]; omega
        cases B
        · have HR2 : Hid (R = some ⟨1, (s.data.toList.drop p).take D, N, D⟩) := HR'.out.trans (if_neg (by simp [a1, a2]))
          clear HR'
          go_wp2_with (first | (go_at_call 22; refine Calls.mono (HDG.out _) ?_; rintro e w' ⟨rfl, rfl⟩) | (go_at_call 25; refine Calls.mono (HDL.out _) ?_; rintro e w' ⟨rfl, rfl⟩))
          rw [HXT.out]
          refine bodyPost_ret (v := .agg #[.int .i64 1, .string ⟨((s.data.toList.drop p).take D).toArray⟩, .int .i64 (N : Int), .int .i64 (p : Int), .bool ln, .int .i64 (q : Int)]) (by simp [results, Tryd.results23, go_sem, *]) rfl ⟨by rw [HE.out]; exact foundT_ok p ln 1 N D _ R HR2.out, ?_⟩
          repeat (first | with_reducible exact Below.refl _ _ | (with_reducible refine Below.drew ?_) | (with_reducible refine Below.setCell ?_ (by first | exact Nat.le_refl _ | omega | simp) _) | (with_reducible refine Below.alloc ?_ (by first | exact Nat.le_refl _ | omega | simp | (simp; omega)) _))
        · have HR2 : Hid (R = none) := HR'.out.trans (if_pos (.inr (.inr rfl)))
          clear HR'
          go_wp2_with (first | (go_at_call 22; refine Calls.mono (HDG.out _) ?_; rintro e w' ⟨rfl, rfl⟩) | (go_at_call 25; refine Calls.mono (HDL.out _) ?_; rintro e w' ⟨rfl, rfl⟩))
          refine bodyPost_ret (v := .agg #[.int .i64 6, .string ⟨#[]⟩, .int .i64 0, .int .i64 (p : Int), .bool ln, .int .i64 (q : Int)]) (by simp [results, Tryd.results23, go_sem, *]) rfl ⟨foundT_bad p ln q R HR2.out, ?_⟩
          repeat (first | with_reducible exact Below.refl _ _ | (with_reducible refine Below.drew ?_) | (with_reducible refine Below.setCell ?_ (by first | exact Nat.le_refl _ | omega | simp) _) | (with_reducible refine Below.alloc ?_ (by first | exact Nat.le_refl _ | omega | simp | (simp; omega)) _))
    · have hlt' : ¬ (q : Int) < s.size := by omega
      have hD := HD.out k hk (fun j h h' => HA.out j h h') (fun h => absurd h (by omega))
      have HR' : Hid (_) := (go hD).out
      have HBf : Hid (B = false) := HB2.out (by omega)
      have hx : s.extract p q = ⟨((s.data.toList.drop p).take D).toArray⟩ := by rw [← hq, ← hD]; exact extract_eq s p D
      have HXT : Hid (_) := hx
      have HE : Hid (q = p + D) := by show _ = _; omega
      have hqs : q ≤ s.size := by omega
      clear HD HR HV HA HN go hx HB1 HB2 hD
      rw [hq]
      clear hq HQ
      have hpq : (p : Int) ≤ q := by have := HE.out; omega
      by_cases a1 : 2147483647 < N
      · have a1' : (2147483647 : Int) < N := by omega
        have HR2 : Hid (R = none) := HR'.out.trans (if_pos (.inl a1))
        clear HR'
        go_wp2_with fail
        refine bodyPost_ret (v := .agg #[.int .i64 6, .string ⟨#[]⟩, .int .i64 0, .int .i64 (p : Int), .bool ln, .int .i64 (q : Int)]) (by simp [results, Tryd.results23, go_sem, *]) rfl ⟨foundT_bad p ln q R HR2.out, ?_⟩
        repeat (first | with_reducible exact Below.refl _ _ | (with_reducible refine Below.drew ?_) | (with_reducible refine Below.setCell ?_ (by first | exact Nat.le_refl _ | omega | simp) _) | (with_reducible refine Below.alloc ?_ (by first | exact Nat.le_refl _ | omega | simp | (simp; omega)) _))
      have a1' : ¬ (2147483647 : Int) < N := by omega
      by_cases a2 : s[p].toNat = 48
      · have a2' : ((s[p].toNat : Int) == 48) = true := by rw [beq_iff_eq]; omega
        by_cases a3 : p + 1 < q
        · have a3' : (p : Int) + 1 < q := by omega
          have HR2 : Hid (R = none) := HR'.out.trans (if_pos (.inr (.inl ⟨a2, a3⟩)))
          clear HR'
          go_wp2_with fail
          refine bodyPost_ret (v := .agg #[.int .i64 6, .string ⟨#[]⟩, .int .i64 0, .int .i64 (p : Int), .bool ln, .int .i64 (q : Int)]) (by simp [results, Tryd.results23, go_sem, *]) rfl ⟨foundT_bad p ln q R HR2.out, ?_⟩
          repeat (first | with_reducible exact Below.refl _ _ | (with_reducible refine Below.drew ?_) | (with_reducible refine Below.setCell ?_ (by first | exact Nat.le_refl _ | omega | simp) _) | (with_reducible refine Below.alloc ?_ (by first | exact Nat.le_refl _ | omega | simp | (simp; omega)) _))
        have a3' : ¬ (p : Int) + 1 < q := by omega
        have HR2 : Hid (R = some ⟨1, (s.data.toList.drop p).take D, N, D⟩) := HR'.out.trans (if_neg (by simp [a1, a3, HBf.out]))
        clear HR'
        go_wp2_with fail
        rw [HXT.out]
        refine bodyPost_ret (v := .agg #[.int .i64 1, .string ⟨((s.data.toList.drop p).take D).toArray⟩, .int .i64 (N : Int), .int .i64 (p : Int), .bool ln, .int .i64 (q : Int)]) (by simp [results, Tryd.results23, go_sem, *]) rfl ⟨by rw [HE.out]; exact foundT_ok p ln 1 N D _ R HR2.out, ?_⟩
        repeat (first | with_reducible exact Below.refl _ _ | (with_reducible refine Below.drew ?_) | (with_reducible refine Below.setCell ?_ (by first | exact Nat.le_refl _ | omega | simp) _) | (with_reducible refine Below.alloc ?_ (by first | exact Nat.le_refl _ | omega | simp | (simp; omega)) _))
      have a2' : ((s[p].toNat : Int) == 48) = false := by rw [beq_eq_false_iff_ne]; omega
      have HR2 : Hid (R = some ⟨1, (s.data.toList.drop p).take D, N, D⟩) := HR'.out.trans (if_neg (by simp [a1, a2, HBf.out]))
      clear HR'
      go_wp2_with fail
      rw [HXT.out]
      refine bodyPost_ret (v := .agg #[.int .i64 1, .string ⟨((s.data.toList.drop p).take D).toArray⟩, .int .i64 (N : Int), .int .i64 (p : Int), .bool ln, .int .i64 (q : Int)]) (by simp [results, Tryd.results23, go_sem, *]) rfl ⟨by rw [HE.out]; exact foundT_ok p ln 1 N D _ R HR2.out, ?_⟩
      repeat (first | with_reducible exact Below.refl _ _ | (with_reducible refine Below.drew ?_) | (with_reducible refine Below.setCell ?_ (by first | exact Nat.le_refl _ | omega | simp) _) | (with_reducible refine Below.alloc ?_ (by first | exact Nat.le_refl _ | omega | simp | (simp; omega)) _))
theorem rnumber_any (s : ByteArray) (p : Nat) (ln : Bool) (w : World) (hs : s.size ≤ 1000000) (hp : p < s.size) (hdg : Lx.digit s[p] = true) :
    Calls Tryd.prog 23 #[.string s, .int .i64 (p : Int), .agg #[.int .i64 0, .string ⟨#[]⟩, .int .i64 0, .int .i64 (p : Int), .bool ln]] w fun e w' => FoundT (Lx.tokOf p ln (Lx.pNum (s.data.toList.drop p))) e ∧ Below w.heap.size w w' := by
  have hd := drop_at s p hp
  have hl := Lx.hd_le Lx.digit (s.data.toList.drop p)
  rw [List.length_drop, size_list] at hl
  have hat : ∀ k (h : p + k < s.size), (s.data.toList.drop p)[k]'(by rw [List.length_drop, size_list]; omega) = s[p + k] := fun k h => by
    rw [List.getElem_drop]; rfl
  have hpos : 1 ≤ Lx.hd Lx.digit (s.data.toList.drop p) := by
    rw [hd]; exact Lx.hd_pos (l := s[p] :: _) hdg
  refine rnumber_core s p ln w hs hp (fun k => Lx.val ((s.data.toList.drop p).take k)) (Lx.hd Lx.digit (s.data.toList.drop p)) _ (Lx.beg Lx.letter ((s.data.toList.drop p).drop (Lx.hd Lx.digit (s.data.toList.drop p)))) rfl (fun k h => ?_) (fun k hk h1 h2 => ?_) (fun h => ?_) (fun h => ?_) hpos ?_
  · show Lx.val _ = _
    rw [val_take_succ _ k (by rw [List.length_drop, size_list]; omega), hat k h]
  · refine Lx.hd_eq _ _ _ (by rw [List.length_drop, size_list]; omega) (fun j h h' => ?_) (fun h => ?_)
    · rw [List.length_drop, size_list] at h
      rw [hat j (by omega)]; exact h1 j (by omega) h'
    · rw [List.length_drop, size_list] at h
      rw [hat k (by omega)]; exact h2 (by omega)
  · rw [List.drop_drop, drop_at s _ h]; rfl
  · rw [List.drop_drop, h, List.drop_of_length_le (by rw [size_list]; omega)]; rfl
  · show _ = _
    have := Lx.pNum_is s[p] (s.data.toList.drop (p + 1)) hdg
    rw [← hd] at this
    exact this
end Go.Proofs.YtbciecmikcloaaaDoor.L
