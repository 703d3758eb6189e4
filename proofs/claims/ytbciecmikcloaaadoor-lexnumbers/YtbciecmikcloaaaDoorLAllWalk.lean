/- The law LexAll: its walk. -/
import Derived.Test.YtbciecmikcloaaaDoorLAwake
import Derived.Test.YtbciecmikcloaaaDoorLRAll
namespace Go.Proofs.YtbciecmikcloaaaDoor.L
open Go.RowKit
set_option linter.unusedVariables false
/-- What statements ask of lex, and of the reference, from a world on. -/
theorem kit_next {w : World} (hg : Sig w) (s : ByteArray) (a : Int) (hs : s.size ≤ 1000000) : ∀ W, Below w.heap.size w W → Calls Tryd.prog 10 #[.string s, .int .i64 a] W fun e w' => e = .returned (.agg (tkA (Lx.tok s.data.toList (plc a s.size)))) ∧ Below w.heap.size w w' :=
  fun W hW => (Next_any s a W hs (hg.below hW)).mono (by rintro e w' ⟨rfl, hb⟩; exact ⟨rfl, hW.trans (hb.mono hW.size)⟩)
theorem kit_awake {w : World} (hg : Sig w) : ∀ W, Below w.heap.size w W → Calls Tryd.prog 9 #[] W fun e w' => e = .returned (.bool true) ∧ Below w.heap.size w w' :=
  fun W hW => (awake_any W (hg.below hW)).mono (by rintro e w' ⟨rfl, hb⟩; exact ⟨rfl, hW.trans (hb.mono hW.size)⟩)
/-- The token of what is found. -/
theorem run_fieldF (k : Int) (t : ByteArray) (n a : Int) (ln : Bool) (E : Int) (W : World) : (Instr.field 27 (.agg #[.int .i64 k, .string t, .int .i64 n, .int .i64 a, .bool ln, .int .i64 E]) 0).run Tryd.prog W = .ok (.agg #[.int .i64 k, .string t, .int .i64 n, .int .i64 a, .bool ln]) W := by
  simp [Instr.field, go_sem]; rfl
set_option maxRecDepth 100000 in
set_option maxHeartbeats 4000000 in
theorem lexAll_core (s : ByteArray) (a : Int) (u : ByteArray) (w : World) (T : Lx.Tk) (L : List Lx.Tk) (bw : Bool) (hL : L.length ≤ 1000000)
    (HN : Hid (∀ W, Below w.heap.size w W → Calls Tryd.prog 10 #[.string s, .int .i64 a] W fun e w' => e = .returned (.agg (tkA T)) ∧ Below w.heap.size w w'))
    (HT : Hid (∀ W, Below w.heap.size w W → Calls Tryd.prog 11 #[.string s, .int .i64 a] W fun e w' => FoundT T e ∧ Below w.heap.size w w'))
    (HA : Hid (∀ W, Below w.heap.size w W → Calls Tryd.prog 13 #[.string s] W fun e w' => ∃ ad cap, e = .returned (.slice ad L.length cap) ∧ L.length ≤ cap ∧ Toks w' ad L ∧ Below w.heap.size w w'))
    (HR : Hid (∀ W, Below w.heap.size w W → Calls Tryd.prog 14 #[.string s] W fun e w' => ∃ ad cap, e = .returned (.slice ad L.length cap) ∧ L.length ≤ cap ∧ Toks w' ad L ∧ Below W.heap.size W w' ∧ Below w.heap.size w w'))
    (HI : Hid (∀ W, Calls Tryd.prog 15 #[.string u] W fun e w' => e = .returned (.bool bw) ∧ w' = W))
    (HJ : Hid (∀ W, Below w.heap.size w W → Calls Tryd.prog 16 #[.string u] W fun e w' => e = .returned (.bool bw) ∧ Below w.heap.size w w'))
    (HK : Hid (∀ W, Below w.heap.size w W → Calls Tryd.prog 9 #[] W fun e w' => e = .returned (.bool true) ∧ Below w.heap.size w w')) :
    Calls Tryd.prog 3 #[.string s, .int .i64 a, .string u] w fun e w' => e = .returned (.bool true) ∧ Below w.heap.size w w' := by
  by_cases h1 : 1000 < s.size
  · have h1' : (1000 : Int) < s.size := by omega
    clear HN HT HA HR HI HJ
    go_enter Tryd.func3, Tryd.ntmps3
    go_wp2_with fail
    refine Calls.mono (HK.out _ (Below.refl _ _)) ?_
    rintro e w1 ⟨rfl, hb1⟩
    go_wp2_with fail
    go_ret
    exact ⟨rfl, hb1⟩
  have h1' : ¬ (1000 : Int) < s.size := by omega
  by_cases h2 : 40 < u.size
  · have h2' : (40 : Int) < u.size := by omega
    clear HN HT HA HR HI HJ
    go_enter Tryd.func3, Tryd.ntmps3
    go_wp2_with fail
    refine Calls.mono (HK.out _ (Below.refl _ _)) ?_
    rintro e w1 ⟨rfl, hb1⟩
    go_wp2_with fail
    go_ret
    exact ⟨rfl, hb1⟩
  have h2' : ¬ (40 : Int) < u.size := by omega
  obtain ⟨k, t, n, at', ln, e'⟩ := T
  simp only [tkA] at HN
  have hfld := run_fieldF
  go_enter Tryd.func3, Tryd.ntmps3
  go_wp2_with fail
  refine Calls.mono (HN.out _ (Below.refl _ _)) ?_
  rintro e w1 ⟨rfl, hb1⟩
  clear HN
  go_wp2_with fail
  refine Calls.mono (HT.out _ hb1) ?_
  rintro e w2 ⟨⟨E, rfl, _⟩, hb2⟩
  clear HT hb1
  go_wp2_with fail
  refine Calls.mono (HA.out _ hb2) ?_
  rintro e w3 ⟨ad, cap, rfl, hc3, ht3, hb3⟩
  clear HA hb2
  go_wp2_with fail
  refine Calls.mono (HR.out _ hb3) ?_
  rintro e w4 ⟨ad4, cap4, rfl, hc4, ht4, hb34, hb4⟩
  have HS : Hid (_) := same_any ad ad4 L.length cap cap4 L w4 rfl hL hc3 hc4 (ht3.below hb34) ht4
  clear HR hb3 hb34 ht3 ht4
  go_wp2_with fail
  refine Calls.mono HS.out ?_
  rintro e w5 ⟨rfl, hb5⟩
  have hB5 := hb4.trans (hb5.mono hb4.size)
  clear HS hb5 hb4
  go_wp2_with fail
  refine Calls.mono (HI.out _) ?_
  rintro e w5' ⟨rfl, rfl⟩
  go_wp2_with fail
  refine Calls.mono (HJ.out _ hB5) ?_
  rintro e w6 ⟨rfl, hb6⟩
  clear HI HJ hB5
  go_wp2_with fail
  refine Calls.mono (HK.out _ hb6) ?_
  rintro e w7 ⟨rfl, hb7⟩
  go_wp2_with fail
  go_ret
  exact ⟨rfl, hb7⟩
theorem run_len (l : List UInt8) : ∀ (f p : Nat), (Lx.run l f p).length ≤ f + 1
  | 0, p => by simp [Lx.run]
  | f + 1, p => by
    have := run_len l f (Lx.tok l p).e
    unfold Lx.run; split <;> simp <;> omega
theorem all_len (s : ByteArray) (hs : s.size ≤ 10000) : (Lx.all s.data.toList).length ≤ 1000000 := by
  have := run_len s.data.toList (s.data.toList.length + 1) 0
  rw [size_list] at this
  unfold Lx.all; rw [size_list]; omega
theorem kit_all {w : World} (hg : Sig w) (s : ByteArray) (hs : s.size ≤ 1000000) : ∀ W, Below w.heap.size w W → Calls Tryd.prog 13 #[.string s] W fun e w' => ∃ ad cap, e = .returned (.slice ad (Lx.all s.data.toList).length cap) ∧ (Lx.all s.data.toList).length ≤ cap ∧ Toks w' ad (Lx.all s.data.toList) ∧ Below w.heap.size w w' :=
  fun W hW => (All_any s W hs (hg.below hW)).mono (by
    rintro e w' ⟨v, rfl, ho, hb⟩
    obtain ⟨ad, cap, rfl, h1, h2⟩ := Toks.own ho
    exact ⟨ad, cap, rfl, h1, h2, hW.trans (hb.mono hW.size)⟩)
theorem kit_rall {w : World} (s : ByteArray) (hs : s.size ≤ 1000000) : ∀ W, Below w.heap.size w W → Calls Tryd.prog 14 #[.string s] W fun e w' => ∃ ad cap, e = .returned (.slice ad (Lx.all s.data.toList).length cap) ∧ (Lx.all s.data.toList).length ≤ cap ∧ Toks w' ad (Lx.all s.data.toList) ∧ Below W.heap.size W w' ∧ Below w.heap.size w w' :=
  fun W hW => (rAll_any s W hs).mono (by
    rintro e w' ⟨v, rfl, ho, hb⟩
    obtain ⟨ad, cap, rfl, h1, h2⟩ := Toks.own ho
    exact ⟨ad, cap, rfl, h1, h2, hb, hW.trans (hb.mono hW.size)⟩)
theorem kit_token {w : World} (s : ByteArray) (a : Int) (hs : s.size ≤ 1000000) : ∀ W, Below w.heap.size w W → Calls Tryd.prog 11 #[.string s, .int .i64 a] W fun e w' => FoundT (Lx.tok s.data.toList (plc a s.size)) e ∧ Below w.heap.size w w' :=
  fun W hW => (rtoken_any s a W hs).mono (by rintro e w' ⟨h, hb⟩; exact ⟨h, hW.trans (hb.mono hW.size)⟩)
theorem lexAll_walk (s : ByteArray) (a : Int) (u : ByteArray) (w : World) (hg : Sig w) :
    Calls Tryd.prog 3 #[.string s, .int .i64 a, .string u] w fun e w' => e = .returned (.bool true) ∧ Below w.heap.size w w' := by
  by_cases h1 : s.size ≤ 1000
  · exact lexAll_core s a u w _ _ _ (all_len s (by omega)) (kit_next hg s a (by omega)) (kit_token s a (by omega)) (kit_all hg s (by omega)) (kit_rall s (by omega)) (fun W => word_any u W)
      (fun W hW => (rword_any u W).mono (by rintro e w' ⟨rfl, hb⟩; exact ⟨rfl, hW.trans (hb.mono hW.size)⟩)) (kit_awake hg)
  · have h1' : (1000 : Int) < s.size := by omega
    have HK : Hid (_) := kit_awake hg
    clear hg
    go_enter Tryd.func3, Tryd.ntmps3
    go_wp2_with fail
    refine Calls.mono (HK.out _ (Below.refl _ _)) ?_
    rintro e w1 ⟨rfl, hb1⟩
    go_wp2_with fail
    go_ret
    exact ⟨rfl, hb1⟩
end Go.Proofs.YtbciecmikcloaaaDoor.L
