/- Texts: W8E W8F. -/
import Derived.Test.YtkaacmghgobhmaaBn25
import Derived.Test.YtkaacmghgobhmaaBn26
section
namespace Go.Proofs.Ytkaacmghgobhmaa.W8
open Go.RowKit
set_option linter.unusedVariables false
/-- How long a statement may be. -/
def sB : Nat → Nat
  | 0 => 120
  | d + 1 => 3 * sB d + 1000
set_option maxRecDepth 2000000 in
set_option maxHeartbeats 4000000 in
theorem program_core (w : World) (ad : Option Addr) (len cap m : Nat) (hm : m = min len 120) (hlc : len ≤ cap) (hcm : cap ≤ 9223372036854775807) (hnil : ad = none → len = 0 ∧ cap = 0)
    (HS : Hid (∀ W, Src8 w w.heap.size ad m cap W → Calls Try.prog 19 #[.pointer (some ⟨w.heap.size, 0, none⟩), .int .i64 3, .bool false, .bool false, .bool false] W fun e w' => ∃ s : ByteArray, e = .returned (.string s) ∧ s.size ≤ 20000 ∧ Hid (Src8 w w.heap.size ad m cap w'))) :
    Calls Try.prog 10 #[.slice ad len cap] w fun e w' => ∃ s : ByteArray, e = .returned (.string s) ∧ 1 ≤ s.size ∧ s.size ≤ 200000 ∧ Below w.heap.size w w' := by
  have hX := (MapKept.heap_alloc w (.cells #[.slice ad m cap, .int .i64 0] 49)).1
  have H0 : Hid (Src8 w w.heap.size ad m cap (w.alloc (.cells #[.slice ad m cap, .int .i64 0] 49))) := ⟨(Below.refl _ _).alloc (Nat.le_refl _) _, 0, by omega, hX⟩
  rcases ad with _ | x
  · obtain ⟨rfl, rfl⟩ := hnil rfl
    obtain rfl : m = 0 := by omega
    clear hm hlc hcm hnil
    go_enter Try.func10, Try.ntmps10
    go_wp2_with fail
    clear hX
    go_loopw [4, 5] (fun s i W => ∃ (k : Nat) (S : ByteArray), k ≤ 6 ∧ i = .int .i64 (k : Int) ∧ s = .string S ∧ 1 ≤ S.size ∧ S.size ≤ 300 + 20000 * k ∧ Hid (Src8 w w.heap.size none 0 0 W)) (fun _ i _ => 6 - (L.intOf i).toNat)
    case atStart => exact ⟨0, _, by omega, rfl, rfl, by decide, by decide, H0⟩
    case round =>
      obtain ⟨k, S, hk, rfl, rfl, hS1, hS, HW⟩ := hrel
      obtain ⟨a, ha, hX⟩ := HW.out.box
      have c0 := (show wr.cell? ⟨w.heap.size, 0, none⟩ = some (.slice none 0 0) from by unfold World.cell?; rw [hX]; rfl)
      have c1 := (show wr.cell? ⟨w.heap.size, 1, none⟩ = some (.int .i64 (a : Int)) from by unfold World.cell?; rw [hX]; rfl)
      have HD : Hid (∀ nq, Src8 w w.heap.size none 0 0 (wr.drewN nq)) := (show ∀ nq, Src8 w w.heap.size none 0 0 (wr.drewN nq) from fun nq => HW.out.below (L.below_drewN _ _ nq))
      clear hX
      by_cases h6 : k < 6
      · have h6' : (k : Int) < 6 := by omega
        by_cases hlt : a < 0
        · exact absurd hlt (Nat.not_lt_zero _)
        · have hlt' : ¬ (a : Int) < (0 : Nat) := by omega
          go_upto_region 4 with fail
          go_quiet (fail)
          go_wp2_with fail
          go_ret
          exact ⟨_, rfl, by omega, by omega, (HD.out _).bel⟩
      · have h6' : ¬ (k : Int) < 6 := by omega
        go_upto_region 4 with fail
        go_quiet (fail)
        go_wp2_with fail
        go_ret
        exact ⟨_, rfl, by omega, by omega, (HD.out _).bel⟩
  · have hlz : (0 : Int) ≤ len := by omega
    have hlc' : (len : Int) ≤ cap := by omega
    have hmc : (m : Int) ≤ cap := by omega
    clear hnil
    by_cases h120 : len ≤ 120
    · have h120' : (len : Int) ≤ 120 := by omega
      obtain rfl : m = len := by omega
      clear hm
      go_enter Try.func10, Try.ntmps10
      go_wp2_with fail
      clear hX
      go_loopw [4, 5] (fun s i W => ∃ (k : Nat) (S : ByteArray), k ≤ 6 ∧ i = .int .i64 (k : Int) ∧ s = .string S ∧ 1 ≤ S.size ∧ S.size ≤ 300 + 20000 * k ∧ Hid (Src8 w w.heap.size (some x) m cap W)) (fun _ i _ => 6 - (L.intOf i).toNat)
      case atStart => exact ⟨0, _, by omega, rfl, rfl, by decide, by decide, H0⟩
      case round =>
        obtain ⟨k, S, hk, rfl, rfl, hS1, hS, HW⟩ := hrel
        obtain ⟨a, ha, hX⟩ := HW.out.box
        have c0 := (show wr.cell? ⟨w.heap.size, 0, none⟩ = some (.slice (some x) m cap) from by unfold World.cell?; rw [hX]; rfl)
        have c1 := (show wr.cell? ⟨w.heap.size, 1, none⟩ = some (.int .i64 (a : Int)) from by unfold World.cell?; rw [hX]; rfl)
        have HD : Hid (∀ nq, Src8 w w.heap.size (some x) m cap (wr.drewN nq)) := (show ∀ nq, Src8 w w.heap.size (some x) m cap (wr.drewN nq) from fun nq => HW.out.below (L.below_drewN _ _ nq))
        clear hX
        by_cases h6 : k < 6
        · have h6' : (k : Int) < 6 := by omega
          by_cases hlt : a < m
          · have hlt' : (a : Int) < (m : Nat) := by omega
            go_upto_region 4 with fail
            go_quiet (fail)
            go_wp2_with fail
            refine Calls.mono (HS.out _ (HD.out _)) ?_
            rintro e w2 ⟨t, rfl, ht, HW2⟩
            have hs1 : ¬ 9223372036854775807 < S.size + t.size := by omega
            have hsz : (S ++ t).size = S.size + t.size := ByteArray.size_append
            clear HW HD HS c0 c1
            go_wp2_with fail
            go_round
            case rel => exact ⟨k + 1, _, by omega, by go_num, rfl, by omega, by omega, HW2⟩
            case measure => simp [L.intOf]; omega
          · have hlt' : ¬ (a : Int) < (m : Nat) := by omega
            go_upto_region 4 with fail
            go_quiet (fail)
            go_wp2_with fail
            go_ret
            exact ⟨_, rfl, by omega, by omega, (HD.out _).bel⟩
        · have h6' : ¬ (k : Int) < 6 := by omega
          go_upto_region 4 with fail
          go_quiet (fail)
          go_wp2_with fail
          go_ret
          exact ⟨_, rfl, by omega, by omega, (HD.out _).bel⟩
    · have h120' : ¬ (len : Int) ≤ 120 := by omega
      obtain rfl : m = 120 := by omega
      clear hm
      go_enter Try.func10, Try.ntmps10
      go_wp2_with fail
      clear hX
      go_loopw [4, 5] (fun s i W => ∃ (k : Nat) (S : ByteArray), k ≤ 6 ∧ i = .int .i64 (k : Int) ∧ s = .string S ∧ 1 ≤ S.size ∧ S.size ≤ 300 + 20000 * k ∧ Hid (Src8 w w.heap.size (some x) 120 cap W)) (fun _ i _ => 6 - (L.intOf i).toNat)
      case atStart => exact ⟨0, _, by omega, rfl, rfl, by decide, by decide, H0⟩
      case round =>
        obtain ⟨k, S, hk, rfl, rfl, hS1, hS, HW⟩ := hrel
        obtain ⟨a, ha, hX⟩ := HW.out.box
        have c0 := (show wr.cell? ⟨w.heap.size, 0, none⟩ = some (.slice (some x) 120 cap) from by unfold World.cell?; rw [hX]; rfl)
        have c1 := (show wr.cell? ⟨w.heap.size, 1, none⟩ = some (.int .i64 (a : Int)) from by unfold World.cell?; rw [hX]; rfl)
        have HD : Hid (∀ nq, Src8 w w.heap.size (some x) 120 cap (wr.drewN nq)) := (show ∀ nq, Src8 w w.heap.size (some x) 120 cap (wr.drewN nq) from fun nq => HW.out.below (L.below_drewN _ _ nq))
        clear hX
        by_cases h6 : k < 6
        · have h6' : (k : Int) < 6 := by omega
          by_cases hlt : a < 120
          · have hlt' : (a : Int) < (120 : Nat) := by omega
            go_upto_region 4 with fail
            go_quiet (fail)
            go_wp2_with fail
            refine Calls.mono (HS.out _ (HD.out _)) ?_
            rintro e w2 ⟨t, rfl, ht, HW2⟩
            have hs1 : ¬ 9223372036854775807 < S.size + t.size := by omega
            have hsz : (S ++ t).size = S.size + t.size := ByteArray.size_append
            clear HW HD HS c0 c1
            go_wp2_with fail
            go_round
            case rel => exact ⟨k + 1, _, by omega, by go_num, rfl, by omega, by omega, HW2⟩
            case measure => simp [L.intOf]; omega
          · have hlt' : ¬ (a : Int) < (120 : Nat) := by omega
            go_upto_region 4 with fail
            go_quiet (fail)
            go_wp2_with fail
            go_ret
            exact ⟨_, rfl, by omega, by omega, (HD.out _).bel⟩
        · have h6' : ¬ (k : Int) < 6 := by omega
          go_upto_region 4 with fail
          go_quiet (fail)
          go_wp2_with fail
          go_ret
          exact ⟨_, rfl, by omega, by omega, (HD.out _).bel⟩
/-- A program by numbers is some text of few bytes. -/
theorem program_of (w : World) (ad : Option Addr) (len cap : Nat) (zs : List Int) (h : L.IsB w ad len cap zs)
    (HS : ∀ Z, St8 w w.heap.size ad (min len 120) cap Z → ∀ W, Src8 w w.heap.size ad (min len 120) cap W → Calls Try.prog 19 #[.pointer (some ⟨w.heap.size, 0, none⟩), .int .i64 ((3 : Nat) : Int), .bool false, .bool false, .bool false] W fun e w' => Tell w w.heap.size ad (min len 120) cap 20000 W e w') :
    Calls Try.prog 10 #[.slice ad len cap] w fun e w' => ∃ s : ByteArray, e = .returned (.string s) ∧ 1 ≤ s.size ∧ s.size ≤ 200000 ∧ Below w.heap.size w w' := by
  have hnil : ad = none → len = 0 ∧ cap = 0 := by
    rintro rfl
    rcases h with ⟨_, h1, h2, _⟩ | ⟨x, hx, _⟩
    · exact ⟨h1, h2⟩
    · cases hx
  obtain ⟨Z, rfl, hlc, hcm, hns, hz⟩ := h.ns
  unfold maxLen at hcm
  refine program_core w ad Z.length cap (min Z.length 120) rfl hlc (by omega) hnil (show ∀ W, _ → _ from fun W hW => (HS (Z.take 120) ⟨Nat.le_refl _, by rw [List.length_take, Nat.min_comm], by omega, by omega, fun z h => hz z (List.mem_of_mem_take h), ?_⟩ W hW).mono ?_)
  · rcases hns with h0 | ⟨b, off, h1, h2, h3⟩
    · exact .inl (by simp [h0])
    · exact .inr ⟨b, off, h1, h2, fun j hj => by
        rw [List.length_take] at hj
        rw [List.getElem_take]
        exact h3 j (by omega)⟩
  · rintro e w' ⟨s, rfl, h1, h2, _⟩
    exact ⟨s, rfl, h1, h2⟩
end Go.Proofs.Ytkaacmghgobhmaa.W8
end
section
namespace Go.Proofs.Ytkaacmghgobhmaa.W8
open Go.RowKit
set_option linter.unusedVariables false
section
variable {w0 W : World} {p n cap : Nat} {ad : Option Addr} {Z : List Nat}
theorem e_on (hst : St8 w0 p ad n cap Z) (d : Nat) (hd : d ≤ 4) : ∀ V, Hid (Src8 w0 p ad n cap V ∧ Fr p W V) → Calls Try.prog 30 #[.pointer (some ⟨p, 0, none⟩), .int .i64 (d : Int)] V fun e w' => ∃ s : ByteArray, e = .returned (.string s) ∧ s.size ≤ eB d ∧ Hid (Src8 w0 p ad n cap w' ∧ Fr p W w') ∧ Hid (Fr p V w') := fun V hV => (e_any hst d hd V hV.out.1).mono (by
  rintro e w' ⟨s, rfl, h1, h2, h3⟩
  exact ⟨s, rfl, h1, (show Src8 _ _ _ _ _ _ ∧ _ from ⟨h2.out, hV.out.2.trans h3.out⟩), h3⟩)
theorem s_any (hst : St8 w0 p ad n cap Z) : ∀ (d : Nat), d ≤ 3 → ∀ W b1 b2 b3, Src8 w0 p ad n cap W → Calls Try.prog 19 #[.pointer (some ⟨p, 0, none⟩), .int .i64 (d : Int), .bool b1, .bool b2, .bool b3] W fun e w' => Tell w0 p ad n cap (sB d) W e w'
  | 0, _, W, b1, b2, b3, h => s_leaf hst h b1 b2 b3 (e_on hst 1 (by omega))
  | d + 1, hd, W, b1, b2, b3, h => by
    have ih := s_any hst d (by omega)
    have hb : sB d ≤ 200000 ∧ 120 ≤ sB d := by
      have : d = 0 ∨ d = 1 ∨ d = 2 := by omega
      rcases this with rfl | rfl | rfl <;> decide
    have := s_step hst h b1 b2 b3 (e_on hst 1 (by omega)) d (sB d) (by omega) hb.1 hb.2 (e_on hst 2 (by omega)) (fun V c1 c2 c3 hV => (ih V c1 c2 c3 hV.out.1).mono (by
      rintro e w' ⟨s, rfl, h1, h2, h3⟩
      exact ⟨s, rfl, h1, (show Src8 _ _ _ _ _ _ ∧ _ from ⟨h2.out, hV.out.2.trans h3.out⟩), h3⟩)) (fun m V h1 h2 hV => (take_any hst m h1 h2 hV.out.1).mono (by
      rintro e w' ⟨r, rfl, q1, q2, q3⟩
      exact ⟨r, rfl, q1, (show Src8 _ _ _ _ _ _ ∧ _ from ⟨q2.out, hV.out.2.trans q3.out⟩), q3⟩)) (fun m V hm hV => (digits8 m hm V).mono (by
      rintro e w' ⟨s, rfl, q1, q2⟩
      exact ⟨s, rfl, q1, (show Src8 _ _ _ _ _ _ ∧ _ from ⟨hV.out.1.below q2, hV.out.2.trans (Fr.of q2)⟩), Fr.of q2⟩))
    simpa [sB] using this
end
/-- A program by numbers is some text of few bytes. -/
theorem program_any (w : World) (ad : Option Addr) (len cap : Nat) (zs : List Int) (h : L.IsB w ad len cap zs) :
    Calls Try.prog 10 #[.slice ad len cap] w fun e w' => ∃ s : ByteArray, e = .returned (.string s) ∧ 1 ≤ s.size ∧ s.size ≤ 200000 ∧ Below w.heap.size w w' :=
  program_of w ad len cap zs h (fun Z hst W hW => (s_any hst 3 (by omega) W false false false hW).mono (by
    rintro e w' ⟨s, rfl, h1, h2⟩
    exact ⟨s, rfl, Nat.le_trans h1 (by decide), h2⟩))
end Go.Proofs.Ytkaacmghgobhmaa.W8
end
