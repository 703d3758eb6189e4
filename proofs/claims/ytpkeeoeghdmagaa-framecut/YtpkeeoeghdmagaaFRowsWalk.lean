-- PROVED: the walk of FrameRows.
import Derived.Test.YtpkeeoeghdmagaaTextsCat
import Derived.Test.YtpkeeoeghdmagaaFSpoiltMath
import Derived.Deep.RegionHeld3
import Derived.Deep.DrawnRows
namespace Go.Proofs.Ytpkeeoeghdmagaa.F
open Go.RowKit
attribute [local go_sem ↓] Go.wp_at_zero Go.wp_at_succ
/-- As much of each as is put. -/
def cuts (L : List (List UInt8)) : List (List UInt8) := L.map (·.take 200)
theorem cuts_length (L : List (List UInt8)) : (cuts L).length = L.length := by simp [cuts]
theorem cuts_small (L : List (List UInt8)) : ∀ t ∈ cuts L, t.length ≤ 200 := by
  intro t ht
  obtain ⟨s, _, rfl⟩ := List.mem_map.1 ht
  simp; omega
theorem puts_len : ∀ (L : List (List UInt8)) (m : Nat), (∀ t ∈ L, t.length ≤ m) → (Fm.puts L).length ≤ (m + 14) * L.length
  | [], _, _ => by simp [Fm.puts]
  | t :: L, m, h => by
    have h1 := puts_len L m (fun x hx => h x (by simp [hx]))
    have h2 := h t (by simp)
    have h3 := (Fm.put_bounds t).2
    simp only [Fm.puts, List.length_append, List.length_cons, Nat.mul_add, Nat.mul_one]
    omega
theorem puts_step (L : List (List UInt8)) (k : Nat) (h : k < L.length) : Fm.puts (L.take (k + 1)) = Fm.puts (L.take k) ++ Fm.put L[k] := by
  rw [List.take_succ_eq_append_getElem h, Fm.puts_append]
  simp [Fm.puts]
theorem run_min2 (s : Nat) : ∃ n : Nat, n = min s 200 ∧ ∀ W, (Builtin.min_ #[3, 3] 3 #[.int .i64 (s : Int), .int .i64 200]).run Try.prog W = .ok (.int .i64 (n : Int)) W := by
  refine ⟨_, rfl, fun W => ?_⟩
  simp only [Builtin.min_, Builtin.min2, List.foldlM]
  simp
  split <;> omega
theorem putO (t : ByteArray) (h : t.size ≤ 4096) (w : World) :
    Calls Try.prog 9 #[.string t] w fun e w' => ∃ P : ByteArray, e = .returned (.tuple #[.string P, .int .i64 0]) ∧ Hid (P.data.toList = Fm.put t.data.toList) ∧ P.size ≤ t.size + 14 ∧ Below w.heap.size w w' := by
  have h1 := put_any t w
  have h2 : putE t.data.toList = (Fm.put t.data.toList, 0) := by unfold putE; rw [if_neg (by rw [V.size_list]; omega)]
  rw [h2] at h1
  exact h1.mono fun _ _ ⟨he, hb⟩ => ⟨_, he, rfl, by rw [mk_size]; exact (Fm.put_bounds _).2, hb⟩
def HeldR (w : World) (b off : Nat) (z : ByteArray) (W : World) : Prop := W.cell? ⟨b, off, none⟩ = some (.string z) ∧ Hid (Below w.heap.size w W) ∧ Hid (b < W.heap.size)
theorem HeldR.go {w W W' : World} {b off : Nat} {z : ByteArray} (h : HeldR w b off z W) (hb : Below W.heap.size W W') : HeldR w b off z W' :=
  ⟨(hb.cell (p := ⟨b, off, none⟩) h.2.2.out).trans h.1, C.below_chain h.2.1.out hb, Nat.lt_of_lt_of_le h.2.2.out hb.size⟩
theorem HeldR.drew {w W : World} {b off : Nat} {z : ByteArray} (h : HeldR w b off z W) : HeldR w b off z W.drew := h.go (Below.refl _ _).drew
theorem cat_list (a b : ByteArray) : (a ++ b).data.toList = a.data.toList ++ b.data.toList := by simp [ByteArray.data_append]
theorem all_lies (T : List (List UInt8)) (S : ByteArray) (h : S.data.toList = Fm.puts T) (ht : ∀ t ∈ T, t.length ≤ 4096) (hs : S.size ≤ 1000000) (W : World) :
    Calls Try.prog 11 #[.string S] W fun e w' => ∃ a c, e = .returned (.tuple #[.slice a T.length c, .int .i64 (S.size : Int), .int .i64 0]) ∧ T.length ≤ c ∧ Lies w' a T ∧ Below W.heap.size W w' := by
  have h1 := all_any S W hs
  rw [h, Fm.all_whole T ht, ← h, V.size_list] at h1
  refine h1.mono ?_
  rintro e w' ⟨v, rfl, ho, hb⟩
  obtain ⟨a, c, rfl, hc, hl⟩ := Lies.own ho
  exact ⟨a, c, rfl, hc, hl, hb⟩
theorem put_none (W : World) : Calls Try.prog 9 #[.string ⟨#[]⟩] W fun e w' => ∃ P : ByteArray, e = .returned (.tuple #[.string P, .int .i64 0]) ∧ P.size = 5 ∧ Below W.heap.size W w' := by
  have h1 := put_any ⟨#[]⟩ W
  rw [show putE (⟨#[]⟩ : ByteArray).data.toList = (Fm.put [], 0) from rfl] at h1
  refine h1.mono ?_
  rintro e w' ⟨rfl, hb⟩
  refine ⟨_, rfl, ?_, hb⟩
  rw [mk_size, Fm.put_length]
  have := Fm.small_one 0 (by decide)
  simp at this
  simp [this]
set_option maxRecDepth 100000 in
set_option maxHeartbeats 4000000 in
theorem rows_walk (ao bo : Option Addr) (ca cb : Nat) (L M : List (List UInt8)) (w : World) (hLl : L.length ≤ maxLen) (hMl : M.length ≤ maxLen) (hLw : ∀ t ∈ L, t.length ≤ maxLen) (hMw : ∀ t ∈ M, t.length ≤ maxLen) (ha : Lies w ao L) (hb : Lies w bo M) :
    Calls Try.prog 6 #[.slice ao L.length ca, .slice bo M.length cb] w fun e w' => e = .returned (.bool true) ∧ Below w.heap.size w w' := by
  unfold maxLen at hLl hMl
  by_cases k1 : 10 < L.length
  · go_enter Try.func6, Try.ntmps6
    go_wp2_with fail
    refine (awake_any _).mono ?_
    rintro e w1 ⟨rfl, hb⟩
    go_wp2
    go_ret
    exact ⟨rfl, hb⟩
  by_cases k2 : 10 < M.length
  · go_enter Try.func6, Try.ntmps6
    go_wp2_with fail
    refine (awake_any _).mono ?_
    rintro e w1 ⟨rfl, hb⟩
    go_wp2
    go_ret
    exact ⟨rfl, hb⟩
  have HA : Hid (_) := ha
  have HB : Hid (_) := hb
  have HLW : Hid (_) := hLw
  have HMW : Hid (_) := hMw
  clear ha hb hLw hMw
  generalize hnL : L.length = nL at k1 hLl
  generalize hnM : M.length = nM at k2 hMl
  have HNL : Hid (_) := hnL
  have HNM : Hid (_) := hnM
  clear hnL hnM
  go_enter Try.func6, Try.ntmps6
  go_wp2_with fail
  go_loopw [5, 7] (fun s i wr => ∃ (k : Nat) (S : ByteArray), k ≤ nL ∧ i = .int .i64 (k : Int) ∧ s = .string S ∧ Hid (S.data.toList = Fm.puts ((cuts L).take k)) ∧ S.size ≤ 300 * k ∧ Below w.heap.size w wr) (fun _ i _ => nL - (intOf i).toNat)
  case atStart => exact ⟨0, ⟨#[]⟩, by omega, rfl, rfl, rfl, Nat.zero_le _, Below.refl _ _⟩
  case round =>
    obtain ⟨k, S, hk, rfl, rfl, HS, hSs, hbel⟩ := hrel
    by_cases hlt : k < nL
    · have hlt' : (k : Int) < nL := by omega
      have hkL : k < L.length := by rw [HNL.out]; exact hlt
      obtain ⟨b, off, rfl, hbl, hcell⟩ := HA.out.resolve_left (by omega)
      have hck : wr.cell? ⟨b, off + k, none⟩ = some (.string ⟨L[k].toArray⟩) := (hbel.cell (p := ⟨b, off + k, none⟩) hbl).trans (hcell k hkL)
      obtain ⟨n, hn, hmin⟩ := run_min2 L[k].length
      have hzl : (⟨L[k].toArray⟩ : ByteArray).size = L[k].length := mk_size _
      have hex : (⟨L[k].toArray⟩ : ByteArray).extract 0 n = ⟨((cuts L)[k]'(by rw [cuts_length]; exact hkL)).toArray⟩ := by
        have := V.extract_eq ⟨L[k].toArray⟩ 0 n
        rw [Nat.zero_add] at this
        rw [this]
        congr 2
        simp [cuts]
        omega
      have HEX : Hid (_) := hex
      have hlw := HLW.out _ (List.getElem_mem hkL)
      unfold maxLen at hlw
      rw [← hzl] at hmin hlw
      have hnz : n ≤ (⟨L[k].toArray⟩ : ByteArray).size ∧ n ≤ 200 := by omega
      obtain ⟨hn1, hn2⟩ := hnz
      clear hex hcell hzl hn
      have HST : Hid (_) := puts_step (cuts L) k (by rw [cuts_length]; exact hkL)
      generalize (cuts L)[k]'(by rw [cuts_length]; exact hkL) = T at HEX HST
      generalize hz : (⟨L[k].toArray⟩ : ByteArray) = z at hck HEX hmin hlw hn1
      clear hz hkL
      have hes : (z.extract 0 n).size = n := by simp [ByteArray.size_extract]; omega
      have HPUT : Hid (_) := fun W => putO (z.extract 0 n) (by omega) W
      rw [hes] at HPUT
      have HQ : Hid (∀ W, HeldR w b (off + k) z W → Calls Try.prog 9 #[.string (z.extract 0 n)] W fun e w' => ∃ P : ByteArray, e = .returned (.tuple #[.string P, .int .i64 0]) ∧ Hid (P.data.toList = Fm.put (z.extract 0 n).data.toList) ∧ P.size ≤ n + 14 ∧ HeldR w b (off + k) z w') :=
        fun W hW => (HPUT.out W).mono fun _ _ ⟨P, he, h1, h2, hb⟩ => ⟨P, he, h1, h2, hW.go hb⟩
      have hW0 : HeldR w b (off + k) z wr := ⟨hck, hbel, Nat.lt_of_lt_of_le hbl hbel.size⟩
      have hn0 : (0 : Int) ≤ (n : Int) := by omega
      have hn1' : (n : Int) ≤ (z.size : Int) := by omega
      clear HPUT hes hck hbel HA HB HLW HMW HNL HNM hbl
      go_wp2_with fail
      go_region_held3 (fun W => W.cell? ⟨b, off + k, none⟩ = some (.string z) ∧ Hid (Below w.heap.size w W) ∧ Hid (b < W.heap.size)) (first | assumption | exact HeldR.drew (by assumption)) (first | (go_at_call 9; refine Calls.mono (HQ.out _ (by assumption)) ?_; rintro e w7 ⟨P, rfl, HPD, hPs, hW7⟩))
      have hbel7 : Below w.heap.size w w7 := hW7.2.1
      have hSP : S.size + P.size ≤ 300 * (k + 1) := by omega
      clear hW7 hW0
      go_wp2_with (go_at_call 13; refine Calls.mono (V.err_any _ _) ?_; rintro e w8 ⟨rfl, rfl⟩)
      go_roundw
      case rel =>
        refine ⟨k + 1, S ++ P, by omega, by go_num, rfl, ?_, by rw [ByteArray.size_append]; exact hSP, hbel7⟩
        show (S ++ P).data.toList = Fm.puts ((cuts L).take (k + 1))
        rw [cat_list, HS.out, HPD.out, HST.out, HEX.out]
      case measure => simp [intOf]; omega
    · have hlt' : ¬ ((k : Int) < nL) := by omega
      have hkn : k = nL := by omega
      have HSS : Hid (S.data.toList = Fm.puts (cuts L)) := (show S.data.toList = Fm.puts (cuts L) from by rw [HS.out, List.take_of_length_le (by rw [cuts_length, HNL.out]; omega)])
      have hS2 : S.size ≤ 3000 := by omega
      have hbel1 := hbel
      clear HS hSs hk hlt hkn
      go_wp2_with fail
      go_loopw [6, 10] (fun s i wr => ∃ (k : Nat) (S2 : ByteArray), k ≤ nM ∧ i = .int .i64 (k : Int) ∧ s = .string S2 ∧ Hid (S2.data.toList = Fm.puts ((cuts M).take k)) ∧ S2.size ≤ 300 * k ∧ Below w.heap.size w wr) (fun _ i _ => nM - (intOf i).toNat)
      case atStart => exact ⟨0, ⟨#[]⟩, by omega, rfl, rfl, rfl, Nat.zero_le _, hbel⟩
      case round =>
        clear hbel hbel1 hlt'
        obtain ⟨k, S2, hk, rfl, rfl, HS2, hSs, hbel⟩ := hrel
        by_cases hlt : k < nM
        · have hlt' : (k : Int) < nM := by omega
          have hkL : k < M.length := by rw [HNM.out]; exact hlt
          obtain ⟨b, off, rfl, hbl, hcell⟩ := HB.out.resolve_left (by omega)
          have hck : wr.cell? ⟨b, off + k, none⟩ = some (.string ⟨M[k].toArray⟩) := (hbel.cell (p := ⟨b, off + k, none⟩) hbl).trans (hcell k hkL)
          obtain ⟨n, hn, hmin⟩ := run_min2 M[k].length
          have hzl : (⟨M[k].toArray⟩ : ByteArray).size = M[k].length := mk_size _
          have hex : (⟨M[k].toArray⟩ : ByteArray).extract 0 n = ⟨((cuts M)[k]'(by rw [cuts_length]; exact hkL)).toArray⟩ := by
            have := V.extract_eq ⟨M[k].toArray⟩ 0 n
            rw [Nat.zero_add] at this
            rw [this]
            congr 2
            simp [cuts]
            omega
          have HEX : Hid (_) := hex
          have hlw := HMW.out _ (List.getElem_mem hkL)
          unfold maxLen at hlw
          rw [← hzl] at hmin hlw
          have hnz : n ≤ (⟨M[k].toArray⟩ : ByteArray).size ∧ n ≤ 200 := by omega
          obtain ⟨hn1, hn2⟩ := hnz
          clear hex hcell hzl hn
          have HST : Hid (_) := puts_step (cuts M) k (by rw [cuts_length]; exact hkL)
          generalize (cuts M)[k]'(by rw [cuts_length]; exact hkL) = T at HEX HST
          generalize hz : (⟨M[k].toArray⟩ : ByteArray) = z at hck HEX hmin hlw hn1
          clear hz hkL
          have hes : (z.extract 0 n).size = n := by simp [ByteArray.size_extract]; omega
          have HPUT : Hid (_) := fun W => putO (z.extract 0 n) (by omega) W
          rw [hes] at HPUT
          have HQ : Hid (∀ W, HeldR w b (off + k) z W → Calls Try.prog 9 #[.string (z.extract 0 n)] W fun e w' => ∃ P : ByteArray, e = .returned (.tuple #[.string P, .int .i64 0]) ∧ Hid (P.data.toList = Fm.put (z.extract 0 n).data.toList) ∧ P.size ≤ n + 14 ∧ HeldR w b (off + k) z w') :=
            fun W hW => (HPUT.out W).mono fun _ _ ⟨P, he, h1, h2, hb⟩ => ⟨P, he, h1, h2, hW.go hb⟩
          have hW0 : HeldR w b (off + k) z wr := ⟨hck, hbel, Nat.lt_of_lt_of_le hbl hbel.size⟩
          have hn0 : (0 : Int) ≤ (n : Int) := by omega
          have hn1' : (n : Int) ≤ (z.size : Int) := by omega
          clear HPUT hes hck hbel HA HB HLW HMW HNL HNM hbl HSS
          go_wp2_with fail
          go_region_held3 (fun W => W.cell? ⟨b, off + k, none⟩ = some (.string z) ∧ Hid (Below w.heap.size w W) ∧ Hid (b < W.heap.size)) (first | assumption | exact HeldR.drew (by assumption)) (first | (go_at_call 9; refine Calls.mono (HQ.out _ (by assumption)) ?_; rintro e w7 ⟨P, rfl, HPD, hPs, hW7⟩))
          have hbel7 : Below w.heap.size w w7 := hW7.2.1
          have hSP : S2.size + P.size ≤ 300 * (k + 1) := by omega
          clear hW7 hW0
          go_wp2_with (go_at_call 13; refine Calls.mono (V.err_any _ _) ?_; rintro e w8 ⟨rfl, rfl⟩)
          go_roundw
          case rel =>
            refine ⟨k + 1, S2 ++ P, by omega, by go_num, rfl, ?_, by rw [ByteArray.size_append]; exact hSP, hbel7⟩
            show (S2 ++ P).data.toList = Fm.puts ((cuts M).take (k + 1))
            rw [cat_list, HS2.out, HPD.out, HST.out, HEX.out]
          case measure => simp [intOf]; omega
        · have hlt' : ¬ ((k : Int) < nM) := by omega
          have HSS2 : Hid (S2.data.toList = Fm.puts (cuts M)) := (show S2.data.toList = Fm.puts (cuts M) from by rw [HS2.out, List.take_of_length_le (by rw [cuts_length, HNM.out]; omega)])
          have hS3 : S2.size ≤ 3000 := by omega
          clear HS2 hSs hk hlt
          have hcs : ∀ t ∈ cuts L ++ cuts M, t.length ≤ 4096 := fun t ht => by
            rcases List.mem_append.1 ht with h | h
            · have := cuts_small L t h; omega
            · have := cuts_small M t h; omega
          have A1 : Hid (_) := fun W => all_lies (cuts L) S HSS.out (fun t ht => hcs t (by simp [ht])) (by omega) W
          have A2 : Hid (_) := fun W => all_lies (cuts M) S2 HSS2.out (fun t ht => hcs t (by simp [ht])) (by omega) W
          have A3 : Hid (_) := fun W => all_lies (cuts L ++ cuts M) (S ++ S2) (by rw [cat_list, HSS.out, HSS2.out, Fm.puts_append]) hcs (by rw [ByteArray.size_append]; omega) W
          rw [List.length_append, cuts_length, cuts_length, HNL.out, HNM.out] at A3
          rw [cuts_length, HNL.out] at A1
          rw [cuts_length, HNM.out] at A2
          have hcat : ((S ++ S2).size : Int) = (S.size : Int) + (S2.size : Int) := by rw [ByteArray.size_append]; omega
          clear hcs HSS HSS2
          go_wp2_with fail
          refine Calls.mono (A1.out _) ?_
          rintro e w1 ⟨a1, c1, rfl, hc1, l1, hb1⟩
          go_wp2_with fail
          refine Calls.mono (A2.out _) ?_
          rintro e w2 ⟨a2, c2, rfl, hc2, l2, hb2⟩
          go_wp2_with fail
          refine Calls.mono (A3.out _) ?_
          rintro e w3 ⟨a3, c3, rfl, hc3, l3, hb3⟩
          go_wp2_with fail
          refine Calls.mono (put_none _) ?_
          rintro e w4 ⟨P0, rfl, hP0, hb4⟩
          have L1 := (((l1.below hb2).below hb3).below hb4)
          have L2 := ((l2.below hb3).below hb4)
          have L3 := l3.below hb4
          have hW4 : Hid (_) := C.below_chain (C.below_chain (C.below_chain (C.below_chain hbel hb1) hb2) hb3) hb4
          clear l1 l2 l3 hb1 hb2 hb3 hb4 hbel
          have hal : Below w4.heap.size w4 (w4.alloc (.cells #[] 9)) := (Below.refl _ _).alloc (Nat.le_refl _) _
          have hlL := cuts_length L
          have hlM := cuts_length M
          rw [HNL.out] at hlL
          rw [HNM.out] at hlM
          obtain ⟨v5, w5, hr5, ho5, hg5⟩ := run_cat (base := w4.heap.size) (w := w4.alloc (.cells #[] 9)) (v := .slice (some ⟨w4.heap.size, 0, none⟩) 0 0) (L := []) (X := cuts L) (World.ownsRow_made w4 #[] 0 (Nat.le_refl _) (Nat.zero_le _) rfl) a1 c1 (L1.below hal) (by simp) (by simp [hlL]; omega) 29
          have hb5 : Below w4.heap.size w4 w5 := hal.grown hg5 (by simp) (fun k hk => by simp [Value.ownBlock] at hk; omega)
          obtain ⟨v6, w6, hr6, ho6, hg6⟩ := run_cat (w := w5) (X := cuts M) ho5 a2 c2 (L2.below hb5) hb5.size (by simp [hlL, hlM]; omega) 29
          have hb6 : Below w4.heap.size w4 w6 := hb5.grown hg6 hb5.size (fun k hk => (ho5.lt k hk).1)
          rw [List.nil_append] at ho6
          obtain ⟨a6, c6, rfl, hc6, l6⟩ := Lies.own ho6
          have HSM : Hid (_) := fun (W : World) (hW : Below w6.heap.size w6 W) => same_any (cuts L ++ cuts M) a3 a6 c3 c6 W (by simp [hlL, hlM]; omega) ((L3.below hb6).below hW) (l6.below hW)
          rw [List.length_append, hlL, hlM] at HSM hr6
          rw [hlL] at hr5
          have hW6 : Hid (_) := C.below_chain hW4.out hb6
          clear L1 L2 L3 hal ho5 hg5 ho6 hg6 l6 hb5 hb6 hlL hlM hc6 hW4
          go_wp2_with (first | (go_at_call 13; refine Calls.mono (V.err_any _ _) ?_; rintro e w8 ⟨rfl, rfl⟩) | (at_builtin; refine wpList_append_run _ _ 29 rfl rfl _ _ _ _ rfl rfl hr5 ?_) | (at_builtin; refine wpList_append_run _ _ 29 rfl rfl _ _ _ _ rfl rfl hr6 ?_))
          refine Calls.mono (HSM.out _ (Below.refl _ _)) ?_
          rintro e w7 ⟨rfl, hb7⟩
          go_wp2_with fail
          refine (awake_any _).mono ?_
          rintro e w9 ⟨rfl, hb9⟩
          go_wp2
          go_ret
          exact ⟨rfl, C.below_chain (C.below_chain hW6.out hb7) hb9⟩
theorem rows_call (a0 a1 : Option Addr) (len0 cap0 len1 cap1 : Nat) (z0 z1 : List ByteArray) (w : World) (h0 : IsTexts w a0 len0 cap0 z0) (h1 : IsTexts w a1 len1 cap1 z1) :
    Calls Try.prog 6 #[.slice a0 len0 cap0, .slice a1 len1 cap1] w fun e w' => e = .returned (.bool true) ∧ Below w.heap.size w w' := by
  obtain ⟨L, rfl, hl, hm, hL, hw⟩ := h0.lies
  obtain ⟨M, rfl, hl', hm', hM, hw'⟩ := h1.lies
  exact rows_walk a0 a1 cap0 cap1 L M w (Nat.le_trans hl hm) (Nat.le_trans hl' hm') hw hw' hL hM
end Go.Proofs.Ytpkeeoeghdmagaa.F
