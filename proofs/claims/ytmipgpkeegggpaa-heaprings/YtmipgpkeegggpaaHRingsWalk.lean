-- PROVED: HeapRings, walked.
import Derived.Test.YtmipgpkeegggpaaHRow
namespace Go.Proofs.Ytmipgpkeegggpaa.P
open Go.RowKit Hq
set_option linter.unusedVariables false
/-- The cells of a ring of k, up to i. -/
def ringL (k i : Nat) : List Cl := (List.range i).map fun j => ⟨4, (((j + 1) % k + 1 : Nat) : Int), 0, [], []⟩
theorem ringL_len (k i : Nat) : (ringL k i).length = i := by simp [ringL]
theorem ringL_succ (k i : Nat) : ringL k (i + 1) = ringL k i ++ [⟨4, (((i + 1) % k + 1 : Nat) : Int), 0, [], []⟩] := by simp [ringL, List.range_succ]
def lastC (k : Nat) : Cl := ⟨2, 0, 0, [], [⟨5, 1, ⟨#[]⟩⟩, ⟨5, ((k + 1 : Nat) : Int), ⟨#[]⟩⟩]⟩
theorem ring_out (k y : Nat) (h1 : 1 ≤ y) (h2 : y ≤ k) : outL (ringL k k ++ [lastC k]) y = [((y % k + 1 : Nat) : Int)] := by
  rw [outL_at (c := ⟨4, ((y % k + 1 : Nat) : Int), 0, [], []⟩)]
  · rfl
  · rw [List.getElem?_append_left (by rw [ringL_len]; omega)]
    unfold ringL
    rw [List.getElem?_map, List.getElem?_range (by omega)]
    rw [Option.map_some, Nat.sub_add_cancel h1]
theorem ring_last (k : Nat) : outL (ringL k k ++ [lastC k]) (k + 1) = [1, ((k + 1 : Nat) : Int)] := by
  rw [outL_at (c := lastC k)]
  · rfl
  · rw [List.getElem?_append_right (by rw [ringL_len]; omega), ringL_len]; simp
theorem ringA {k m0 : Nat} {S : List Bool} (hk : 1 ≤ k) (hl : S.length = (ringL k k ++ [lastC k]).length) (h : ∀ x, On S x ↔ Rch (ringL k k ++ [lastC k]).length (tv [⟨5, 1 + (m0 : Int) % (k : Int), ⟨#[]⟩⟩]) (outL (ringL k k ++ [lastC k])) x) : addrs S = (List.range k).map (1 + ·) := by
  have hlen : (ringL k k ++ [lastC k]).length = k + 1 := by rw [List.length_append, ringL_len]; rfl
  have hm := Nat.mod_lt m0 (show 0 < k by omega)
  have e : tv [⟨5, 1 + (m0 : Int) % (k : Int), ⟨#[]⟩⟩] = [((1 + m0 % k : Nat) : Int)] := by simp [tv, to1]
  have := addrs_of (S := S) (lo := 1) (hi := k) (by omega) (by omega) fun x => by
    rw [h x, e, hlen]
    exact ring_reach hk (by omega) (ring_out k) (by omega) (by omega) x
  rw [this, Nat.add_sub_cancel]
theorem ringB {k : Nat} {S : List Bool} (hk : 1 ≤ k) (hl : S.length = (ringL k k ++ [lastC k]).length) (h : ∀ x, On S x ↔ Rch (ringL k k ++ [lastC k]).length (tv [⟨5, (k : Int) + 1, ⟨#[]⟩⟩, ⟨5, (k : Int) + 1, ⟨#[]⟩⟩]) (outL (ringL k k ++ [lastC k])) x) : addrs S = (List.range (k + 1)).map (1 + ·) := by
  have hlen : (ringL k k ++ [lastC k]).length = k + 1 := by rw [List.length_append, ringL_len]; rfl
  have e : tv [⟨5, (k : Int) + 1, ⟨#[]⟩⟩, ⟨5, (k : Int) + 1, ⟨#[]⟩⟩] = [(k : Int) + 1, (k : Int) + 1] := by simp [tv, to1]
  have := addrs_of (S := S) (lo := 1) (hi := k + 1) (by omega) (by omega) fun x => by
    rw [h x, e, hlen]
    have r0 : Rch (k + 1) [(k : Int) + 1, (k : Int) + 1] (outL (ringL k k ++ [lastC k])) (k + 1) := .root (by simp) (by omega) (Nat.le_refl _)
    have r1 : Rch (k + 1) [(k : Int) + 1, (k : Int) + 1] (outL (ringL k k ++ [lastC k])) 1 := .step r0 (by rw [ring_last]; simp) (by omega) (by omega)
    constructor
    · intro hr
      cases hr with
      | root a b c => exact ⟨b, c⟩
      | step a b c d => exact ⟨c, d⟩
    · rintro ⟨h1, h2⟩
      by_cases he : x = k + 1
      · subst he; exact r0
      · exact ring_all hk (by omega) (ring_out k) (by omega) hk r1 x h1 (by omega)
  rw [this, Nat.add_sub_cancel]
set_option maxRecDepth 100000 in
set_option maxHeartbeats 4000000 in
theorem hrings_walk (n m : Int) (w : World) (hn : 0 ≤ n ∧ n ≤ 255) (hm : 0 ≤ m ∧ m ≤ 255) :
    Calls Try.prog 7 #[.int .u8 n, .int .u8 m] w fun e w' => e = .returned (.bool true) ∧ Below w.heap.size w w' := by
  obtain ⟨hn0, hn1⟩ := hn
  obtain ⟨hm0, hm1⟩ := hm
  obtain ⟨k0, hk0⟩ := Int.eq_ofNat_of_zero_le (show 0 ≤ n % 20 by omega)
  obtain ⟨m0, rfl⟩ := Int.eq_ofNat_of_zero_le hm0
  have hk1 : k0 < 20 := by omega
  have HN : Hid (n % 20 = (k0 : Int)) := hk0
  clear hk0
  obtain ⟨k, hk, hka, hkb⟩ : ∃ k : Nat, 1 + (k0 : Int) = (k : Int) ∧ 1 ≤ k ∧ k ≤ 20 := ⟨1 + k0, by push_cast; rfl, by omega, by omega⟩
  have HK0 : Hid (1 + (k0 : Int) = (k : Int)) := hk
  clear hk hk1
  go_enter Try.func7, Try.ntmps7
  go_wp2_with fail
  rw [HN.out, HK0.out]
  clear HN HK0 hn0 hn1
  go_loopw [6, 7] (fun v i wr => ∃ j : Nat, i = .int .i64 ((j : Int) + 1) ∧ j ≤ k ∧ Hid (OC w.heap.size wr v (ringL k j)) ∧ Hid (Below w.heap.size w wr)) (fun _ i _ => k + 1 - (intOf i).toNat)
  case atStart => exact ⟨0, rfl, by omega, OC.nil _ _, Below.refl _ _⟩
  case round =>
    obtain ⟨j, rfl, hj, HO, HB⟩ := hrel
    obtain ⟨a, cap, rfl⟩ := HO.out.form
    rw [ringL_len] at *
    by_cases hlt : j < k
    · have hlt' : (j : Int) + 1 ≤ (k : Int) := by omega
      have hkk : (k : Int) ≠ 0 := by omega
      have hmod : 0 ≤ ((j : Int) + 1) % (k : Int) ∧ ((j : Int) + 1) % (k : Int) < (k : Int) := ⟨Int.emod_nonneg _ hkk, Int.emod_lt_of_pos _ (by omega)⟩
      obtain ⟨hmod1, hmod2⟩ := hmod
      have hal : Below wr.heap.size wr (wr.alloc (.cells #[.int .i64 4, .int .i64 (((j : Int) + 1) % (k : Int) + 1), .int .i64 0, .slice none 0 0, .slice none 0 0] 30)) := (Below.refl _ _).alloc (Nat.le_refl _) _
      have hk0 := keepB HB.out.size hal
      obtain ⟨a3, cap3, w3, hr, ho, hk⟩ := (HO.out.keep hk0 (by simp) (by simp)).push (Nat.le_trans HB.out.size hal.size) (by rw [ringL_len]; omega) (c := ⟨4, ((j : Int) + 1) % (k : Int) + 1, 0, [], []⟩) (heap_alloc_new wr _) (Parts.nil _ _ _ _ _) 22
      rw [ringL_len] at hr ho
      have HR : Hid (_) := hr
      have HO3 : Hid (OC w.heap.size w3 (.slice a3 (j + 1) cap3) (ringL k (j + 1))) := (show OC _ _ _ _ from by
        rw [ringL_succ]
        have : (((j + 1) % k + 1 : Nat) : Int) = ((j : Int) + 1) % (k : Int) + 1 := by push_cast; rfl
        rw [this]; exact ho)
      have HB3 : Hid (Below w.heap.size w w3) := (HB.out.trans hk0.bel).trans hk.bel
      clear hr ho hk hk0 hal HO HB
      go_wp2_with (at_builtin; refine wpList_append_run _ _ 22 rfl rfl _ _ _ _ rfl rfl HR.out ?_)
      go_roundw
      case rel => exact ⟨j + 1, by go_num, by omega, HO3, HB3⟩
      case measure => simp [intOf]; omega
    · have hj2 : j = k := by omega
      subst hj2
      have hlt' : ¬ ((j : Int) + 1 ≤ (j : Int)) := by omega
      have hjj : (j : Int) ≠ 0 := by omega
      have hV := vals_new (base := w.heap.size) (w := wr) (arr := #[.int .i64 5, .int .i64 1, .string ⟨#[]⟩, .int .i64 5, .int .i64 ((j : Int) + 1), .string ⟨#[]⟩]) (L := (lastC j).vals) HB.out.size 2 rfl (fun i hi => by
        match i, hi with
        | 0, _ => exact ⟨rfl, rfl, rfl⟩
        | 1, _ => exact ⟨rfl, rfl, rfl⟩
        | n + 2, hi => exact absurd hi (by simp [lastC]))
      have k1 : Keep [] w.heap.size wr (wr.alloc (.cells #[.int .i64 5, .int .i64 1, .string ⟨#[]⟩, .int .i64 5, .int .i64 ((j : Int) + 1), .string ⟨#[]⟩] 46)) := keepB HB.out.size ((Below.refl _ _).alloc (Nat.le_refl _) _)
      have k2 : Keep [] w.heap.size wr ((wr.alloc (.cells #[.int .i64 5, .int .i64 1, .string ⟨#[]⟩, .int .i64 5, .int .i64 ((j : Int) + 1), .string ⟨#[]⟩] 46)).alloc (.cells #[.int .i64 2, .int .i64 0, .int .i64 0, .slice none 0 0, .slice (some ⟨wr.heap.size, 0, none⟩) 2 2] 30)) := k1.alloc (by simp; have := HB.out.size; omega) _
      have hP : Parts w.heap.size ((wr.alloc (.cells #[.int .i64 5, .int .i64 1, .string ⟨#[]⟩, .int .i64 5, .int .i64 ((j : Int) + 1), .string ⟨#[]⟩] 46)).alloc (.cells #[.int .i64 2, .int .i64 0, .int .i64 0, .slice none 0 0, .slice (some ⟨wr.heap.size, 0, none⟩) 2 2] 30)) (.slice none 0 0) (.slice (some ⟨wr.heap.size, 0, none⟩) 2 2) (lastC j) :=
        ⟨Texts.nil _ _, hV.keep (S := []) (keepB (Nat.le_trans HB.out.size k1.size) ((Below.refl _ _).alloc (Nat.le_refl _) _)) (by simp), by simp [lastC], by simp [lastC]⟩
      obtain ⟨a3, cap3, w3, hr, ho, hk⟩ := (HO.out.keep k2 (by simp) (by simp)).push (Nat.le_trans HB.out.size k2.size) (by rw [ringL_len]; omega) (c := lastC j) (heap_alloc_new _ _) hP 22
      rw [ringL_len] at hr ho
      have HR : Hid (_) := hr
      have HO3 : Hid (OC w.heap.size w3 (.slice a3 (j + 1) cap3) (ringL j j ++ [lastC j])) := ho
      have HB3 : Hid (Below w.heap.size w w3) := (HB.out.trans k2.bel).trans hk.bel
      clear hr ho hk k1 k2 hP hV HO HB
      have hmod : 0 ≤ (m0 : Int) % (j : Int) ∧ (m0 : Int) % (j : Int) < (j : Int) := ⟨Int.emod_nonneg _ hjj, Int.emod_lt_of_pos _ (by omega)⟩
      obtain ⟨hmod1, hmod2⟩ := hmod
      simp at HR
      go_wp2_with (at_builtin; refine wpList_append_run _ _ 22 rfl rfl _ _ _ _ rfl rfl HR.out ?_)
      have k4 : Keep [] w.heap.size w3 (w3.alloc (.cells #[.int .i64 5, .int .i64 (1 + (m0 : Int) % (j : Int)), .string ⟨#[]⟩] 46)) := keepB HB3.out.size ((Below.refl _ _).alloc (Nat.le_refl _) _)
      have hO4 := HO3.out.keep k4 (by simp) (by simp)
      have hV4 := vals_new (base := w.heap.size) (w := w3) (arr := #[.int .i64 5, .int .i64 (1 + (m0 : Int) % (j : Int)), .string ⟨#[]⟩]) (L := [⟨5, 1 + (m0 : Int) % (j : Int), ⟨#[]⟩⟩]) HB3.out.size 1 rfl (fun i hi => by
        match i, hi with
        | 0, _ => exact ⟨rfl, rfl, rfl⟩
        | n + 1, hi => exact absurd hi (by simp))
      have hlen : (ringL j j ++ [lastC j]).length = j + 1 := by rw [List.length_append, ringL_len]; rfl
      have hall : ∀ c, c ∈ ringL j j ++ [lastC j] → c.vals.length ≤ 100000 := fun c hc => by
        rcases List.mem_append.1 hc with hc | hc
        · unfold ringL at hc
          rw [List.mem_map] at hc
          obtain ⟨i, _, rfl⟩ := hc
          simp
        · simp at hc; subst hc; simp [lastC]
      have HR4 : Hid (_) := reach_any rfl hO4.cs (by omega) hall hV4.all (by simp)
      have HO4 : Hid (OC w.heap.size (w3.alloc (.cells #[.int .i64 5, .int .i64 (1 + (m0 : Int) % (j : Int)), .string ⟨#[]⟩] 46)) (.slice a3 (j + 1) cap3) (ringL j j ++ [lastC j])) := hO4
      have HB4 : Hid (Below w.heap.size w (w3.alloc (.cells #[.int .i64 5, .int .i64 (1 + (m0 : Int) % (j : Int)), .string ⟨#[]⟩] 46))) := HB3.out.trans k4.bel
      have HLN : Hid ((ringL j j ++ [lastC j]).length = j + 1) := hlen
      have HALL : Hid (∀ c, c ∈ ringL j j ++ [lastC j] → c.vals.length ≤ 100000) := hall
      clear k4 hO4 hV4 hlen hall HO3 HB3 HR
      generalize (w3.alloc (.cells #[.int .i64 5, .int .i64 (1 + (m0 : Int) % (j : Int)), .string ⟨#[]⟩] 46)) = w4 at *
      generalize w3.heap.size = q3 at *
      refine Calls.mono HR4.out ?_
      rintro e w5 ⟨r5, A5, rfl, hN5, hA5, hB5⟩
      obtain ⟨S5, e5, l5, o5⟩ := hA5.out
      rw [ringA hka l5 o5] at e5
      subst e5
      have hN5 := hN5.out
      rw [List.length_map, List.length_range] at hN5
      obtain ⟨g5, cap5, rfl, hg5, hl5, hc5⟩ := (nums_at (A := (List.range j).map (1 + ·)) (by rw [List.length_map, List.length_range]; exact hN5)).resolve_left (fun h => by have := congrArg List.length h.1; simp at this; omega)
      rw [List.length_map, List.length_range] at *
      have c0 := hc5 0 1 (by rw [span_at (by omega)])
      have c1 := hc5 (j - 1) j (by rw [span_at (by omega)]; congr 1; omega)
      have HO5 : Hid (OC w.heap.size w5 (.slice a3 (j + 1) cap3) (ringL j j ++ [lastC j])) := HO4.out.keep (S := []) (keepB HB4.out.size hB5.out) (by simp) (by simp)
      have HB5 : Hid (Below w.heap.size w w5) := Below.chain HB4.out hB5.out HB4.out.size
      clear hc5 hN5 hA5 hB5 o5 l5 HR4 HO4 HB4
      have k6 : Keep [] w.heap.size w5 (w5.alloc (.cells #[.int .i64 5, .int .i64 ((j : Int) + 1), .string ⟨#[]⟩, .int .i64 5, .int .i64 ((j : Int) + 1), .string ⟨#[]⟩] 46)) := keepB HB5.out.size ((Below.refl _ _).alloc (Nat.le_refl _) _)
      have b6 : Below w5.heap.size w5 (w5.alloc (.cells #[.int .i64 5, .int .i64 ((j : Int) + 1), .string ⟨#[]⟩, .int .i64 5, .int .i64 ((j : Int) + 1), .string ⟨#[]⟩] 46)) := (Below.refl _ _).alloc (Nat.le_refl _) _
      have hV6 := vals_new (base := w.heap.size) (w := w5) (arr := #[.int .i64 5, .int .i64 ((j : Int) + 1), .string ⟨#[]⟩, .int .i64 5, .int .i64 ((j : Int) + 1), .string ⟨#[]⟩]) (L := [⟨5, (j : Int) + 1, ⟨#[]⟩⟩, ⟨5, (j : Int) + 1, ⟨#[]⟩⟩]) HB5.out.size 2 rfl (fun i hi => by
        match i, hi with
        | 0, _ => exact ⟨rfl, rfl, rfl⟩
        | 1, _ => exact ⟨rfl, rfl, rfl⟩
        | n + 2, hi => exact absurd hi (by simp))
      have HR6 : Hid (_) := reach_any rfl (HO5.out.keep k6 (by simp) (by simp)).cs (by have := HLN.out; omega) HALL.out hV6.all (by simp)
      have HC6 : Hid (∀ W, Below (w5.alloc (.cells #[.int .i64 5, .int .i64 ((j : Int) + 1), .string ⟨#[]⟩, .int .i64 5, .int .i64 ((j : Int) + 1), .string ⟨#[]⟩] 46)).heap.size (w5.alloc (.cells #[.int .i64 5, .int .i64 ((j : Int) + 1), .string ⟨#[]⟩, .int .i64 5, .int .i64 ((j : Int) + 1), .string ⟨#[]⟩] 46)) W → W.cell? ⟨g5, 0, none⟩ = some (.int .i64 1) ∧ W.cell? ⟨g5, j - 1, none⟩ = some (.int .i64 (j : Int)) ∧ g5 < W.heap.size) := fun W hW => by
        have hb := Below.chain b6 hW b6.size
        exact ⟨(hb.cell hl5).trans c0, (hb.cell hl5).trans c1, Nat.lt_of_lt_of_le hl5 hb.size⟩
      have HB6 : Hid (Below w.heap.size w (w5.alloc (.cells #[.int .i64 5, .int .i64 ((j : Int) + 1), .string ⟨#[]⟩, .int .i64 5, .int .i64 ((j : Int) + 1), .string ⟨#[]⟩] 46))) := HB5.out.trans k6.bel
      clear k6 b6 hV6 HO5 HB5 c0 c1 hl5
      go_wp2_with fail
      generalize (w5.alloc (.cells #[.int .i64 5, .int .i64 ((j : Int) + 1), .string ⟨#[]⟩, .int .i64 5, .int .i64 ((j : Int) + 1), .string ⟨#[]⟩] 46)) = w6 at *
      refine Calls.mono HR6.out ?_
      rintro e w7 ⟨r7, A7, rfl, hN7, hA7, hB7⟩
      obtain ⟨S7, e7, l7, o7⟩ := hA7.out
      rw [ringB hka l7 o7] at e7
      subst e7
      have hN7 := hN7.out
      obtain ⟨g7, cap7, rfl, hg7, hl7, hc7⟩ := (nums_at hN7).resolve_left (fun h => by have := congrArg List.length h.1; simp at this)
      rw [List.length_map, List.length_range] at *
      have d1 := hc7 j (j + 1) (by rw [span_at (by omega)]; congr 1; omega)
      rw [show ((j + 1 : Nat) : Int) = (j : Int) + 1 by push_cast; rfl] at d1
      obtain ⟨c0, c1, l5'⟩ := HC6.out w7 hB7.out
      have HB7 : Hid (Below w.heap.size w w7) := Below.chain HB6.out hB7.out HB6.out.size
      clear hc7 hN7 hA7 hB7 o7 l7 HR6 HB6 HC6
      have hj1 : (j : Int) - 1 = ((j - 1 : Nat) : Int) := by omega
      go_wp2_with (first | (go_at_call 10; refine Calls.mono (hawake_any _) ?_; rintro e w12 ⟨rfl, HB12⟩))
      go_ret
      exact ⟨rfl, Below.chain HB7.out HB12 HB7.out.size⟩
end Go.Proofs.Ytmipgpkeegggpaa.P
