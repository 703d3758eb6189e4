/- Texts: ScFu ScFw. -/
import Derived.Test.YtkaacmghgobhmaaBn17
import Derived.Deep.RegionHeld3
section
namespace Go.Proofs.Ytkaacmghgobhmaa.Rd
open Go.RowKit
open L (tkA own_block own_below info_of)
set_option linter.unusedVariables false
theorem more_len (x : List UInt8) : ∀ n l, (Sc.more x n l).length = l.length + n * x.length
  | 0, l => by simp [Sc.more]
  | n + 1, l => by rw [Sc.more, List.length_append, more_len x n l, Nat.succ_mul]; omega
/-- The tree in its box, and the spots and slots, while nodes are gone through. -/
structure FuW (w W : World) (g cap R Q B n : Nat) (l : List Ps.Nd) (S : Nat → Int × Int) (Z : Nat → Int) : Prop where
  bel : Below w.heap.size w W
  nd : Told W (.slice (some ⟨g, 0, none⟩) n cap) l
  sp : SpotsAt W R n n S
  nm : NumsAt W Q n n Z
  box : B < W.heap.size ∧ W.cell? ⟨B, 0, none⟩ = some (.slice (some ⟨g, 0, none⟩) n cap) ∧ W.cell? ⟨B, 2, none⟩ = some (.bool true)
theorem FuW.below {w W W' : World} {g cap R Q B n : Nat} {l : List Ps.Nd} {S : Nat → Int × Int} {Z : Nat → Int} (h : FuW w W g cap R Q B n l S Z) (hb : Below W.heap.size W W') : FuW w W' g cap R Q B n l S Z :=
  ⟨h.bel.trans (hb.mono h.bel.size), h.nd.below hb, h.sp.below hb, h.nm.below hb, Nat.lt_of_lt_of_le h.box.1 hb.size, (hb.cell (p := ⟨B, 0, none⟩) h.box.1).trans h.box.2.1, (hb.cell (p := ⟨B, 2, none⟩) h.box.1).trans h.box.2.2⟩
/-- The box with the tree. -/
def BoxT (B g n cap : Nat) (l : List Ps.Nd) (w W : World) : Prop := W.cell? ⟨B, 0, none⟩ = some (.slice (some ⟨g, 0, none⟩) n cap) ∧ Hid (B < W.heap.size) ∧ Hid (Told W (.slice (some ⟨g, 0, none⟩) n cap) l ∧ Below w.heap.size w W ∧ W.cell? ⟨B, 2, none⟩ = some (.bool true))
theorem BoxT.drew {B g n cap : Nat} {l : List Ps.Nd} {w W : World} (h : BoxT B g n cap l w W) : BoxT B g n cap l w W.drew := ⟨h.1, h.2.1, (show Told _ _ _ ∧ _ ∧ _ from ⟨h.2.2.out.1.below (L.below_drewN _ _ 1), h.2.2.out.2.1.trans (L.below_drewN _ _ 1), h.2.2.out.2.2⟩)⟩
theorem BoxT.below {B g n cap : Nat} {l : List Ps.Nd} {w W W' : World} (h : BoxT B g n cap l w W) (hb : Below W.heap.size W W') : BoxT B g n cap l w W' := by
  obtain ⟨h1, h2, h3⟩ := h
  exact ⟨(hb.cell (p := ⟨B, 0, none⟩) h2.out).trans h1, (show B < _ from Nat.lt_of_lt_of_le h2.out hb.size), h3.out.1.below hb, h3.out.2.1.trans (hb.mono h3.out.2.1.size), (hb.cell (p := ⟨B, 2, none⟩) h2.out).trans h3.out.2.2⟩
set_option maxRecDepth 100000 in
set_option maxHeartbeats 4000000 in
theorem funs_core (a : Int) (b : Bool) (k n : Nat) (U : List UInt8) (hU : U = Sc.funT k b) (l : List Ps.Nd) (S : Nat → Int × Int) (Z : Nat → Int) (w : World) (ha : 0 ≤ a ∧ a ≤ 255) (hm : a % 5 = (k : Int)) (hk : k < 5) (hn : l.length = n) (hnn : n ≤ 1000000)
    (HV : Hid (∀ j (h : j < l.length), l[j].k ≤ 1000000000 ∧ (l[j].k = 3 → S j = ((k : Int), 0)) ∧ (l[j].k = 10 → k = 0 ∨ Z j = (if b then 1 else 0)) ∧ (l[j].k = 24 → Z j = -1)))
    (HP : Hid (Reads U l)) (HS : Hid (Spots l S)) (HZ : Hid (Slots l Z))
    (HK : Hid (∀ W, Calls Try.prog 9 #[] W fun e w' => e = .returned (.bool true) ∧ Below W.heap.size W w')) :
    Calls Try.prog 7 #[.int .u8 a, .bool b] w fun e w' => e = .returned (.bool true) ∧ Below w.heap.size w w' := by
  have hk' : (k : Int) < 5 := by omega
  have hk0 : (0 : Int) ≤ k := by omega
  have HPP : Hid (∀ (s : ByteArray) W, s.data.toList = U → Calls Try.prog 12 #[.string s] W fun e w' => ∃ g cap, e = .returned (.agg #[.slice (some ⟨g, 0, none⟩) n cap, .int .i64 0, .bool true]) ∧ n ≤ cap ∧ Hid (NodesAt w' g l) ∧ Hid (Told w' (.slice (some ⟨g, 0, none⟩) n cap) l) ∧ Hid (Below W.heap.size W w')) := fun s W hs => by
    have := HP.out W
    rw [hn, ← hs] at this
    rw [L.mk_list] at this
    exact this
  have HSS : Hid (∀ B g cap w0 W, BoxT B g n cap l w0 W → Calls Try.prog 13 #[.slice (some ⟨g, 0, none⟩) n cap] W fun e w' => ∃ R, e = .returned (.slice (some ⟨R, 0, none⟩) n n) ∧ BoxT B g n cap l w0 w' ∧ Hid (Below W.heap.size W w' ∧ SpotsAt w' R n n S)) := fun B g cap w0 W hb => by
    have := HS.out W _ hb.2.2.out.1
    rw [hn] at this
    refine this.mono ?_
    rintro e w' ⟨R, rfl, _, h1, h2⟩
    exact ⟨R, rfl, hb.below h1.out, h1.out, h2.out⟩
  have HZZ : Hid (∀ B g cap w0 W, BoxT B g n cap l w0 W → Calls Try.prog 14 #[.slice (some ⟨g, 0, none⟩) n cap] W fun e w' => ∃ R, e = .returned (.slice (some ⟨R, 0, none⟩) n n) ∧ BoxT B g n cap l w0 w' ∧ Hid (Below W.heap.size W w' ∧ NumsAt w' R n n Z)) := fun B g cap w0 W hb => by
    have := HZ.out W _ hb.2.2.out.1
    rw [hn] at this
    refine this.mono ?_
    rintro e w' ⟨R, rfl, _, h1, h2⟩
    exact ⟨R, rfl, hb.below h1.out, h1.out, h2.out⟩
  have HUU : Hid (U = Sc.funT k b) := hU
  have HNN : Hid (l.length = n) := hn
  obtain ⟨h0, h1⟩ := ha
  clear HP HS HZ hn hU
  cases b
  · go_enter Try.func7, Try.ntmps7
    go_wp2_with fail
    go_loop [6, 7] (fun s i => ∃ (j : Nat) (s0 : ByteArray), j ≤ k ∧ s = .string s0 ∧ i = .int .i64 (j : Int) ∧ Hid (s0.data.toList = Sc.more Sc.gN j Sc.g0)) (fun _ i => k - (L.intOf i).toNat)
    case atStart => exact ⟨0, _, by omega, rfl, rfl, rfl⟩
    case round =>
      obtain ⟨j, s0, hj, rfl, rfl, hs⟩ := hrel
      have hsz : s0.size = 13 + j * 15 := by have := congrArg List.length hs.out; rw [more_len] at this; simpa [Sc.g0, Sc.gN] using this
      by_cases hlt : j < k
      · have hlt' : (j : Int) < k := by omega
        have f1 : ¬ 9223372036854775807 < s0.size + 15 := by omega
        clear hsz
        go_wp2_with fail
        go_round
        case rel => exact ⟨j + 1, _, by omega, rfl, by go_num, (show (_ : List UInt8) = _ from by rw [show Sc.more Sc.gN (j + 1) Sc.g0 = Sc.more Sc.gN j Sc.g0 ++ Sc.gN from rfl, ← hs.out]; simp [Sc.gN])⟩
        case measure => simp [L.intOf]; omega
      · have hlt' : ¬ (j : Int) < k := by omega
        have : j = k := by omega
        subst this
        have f1 : ¬ 9223372036854775807 < s0.size + 3 := by omega
        have hs0 : s0.size ≤ 200 := by omega
        clear hsz
        go_wp2_with fail
        go_loop [6, 8] (fun s i => ∃ (q : Nat) (s1 : ByteArray), q ≤ j ∧ s = .string s1 ∧ i = .int .i64 (q : Int) ∧ Hid (s1.data.toList = Sc.more Sc.gE q (Sc.more Sc.gN j Sc.g0 ++ Sc.gF))) (fun _ i => j - (L.intOf i).toNat)
        case atStart => exact ⟨0, _, by omega, rfl, rfl, (show (_ : List UInt8) = _ from by rw [Sc.more, ← hs.out]; simp [Sc.gF])⟩
        case round =>
          obtain ⟨q, s1, hq, rfl, rfl, hs1⟩ := hrel
          have hsz : s1.size = 13 + j * 15 + 3 + q * 3 := by have := congrArg List.length hs1.out; rw [more_len, List.length_append, more_len] at this; simpa [Sc.g0, Sc.gF, Sc.gE, Sc.gN] using this
          by_cases hlq : q < j
          · have hlq' : (q : Int) < j := by omega
            have f2 : ¬ 9223372036854775807 < s1.size + 3 := by omega
            clear hsz
            go_wp2_with fail
            go_round
            case rel => exact ⟨q + 1, _, by omega, rfl, by go_num, (show (_ : List UInt8) = _ from by rw [show Sc.more Sc.gE (q + 1) (Sc.more Sc.gN j Sc.g0 ++ Sc.gF) = Sc.more Sc.gE q (Sc.more Sc.gN j Sc.g0 ++ Sc.gF) ++ Sc.gE from rfl, ← hs1.out]; simp [Sc.gE])⟩
            case measure => simp [L.intOf]; omega
          · have hlq' : ¬ (q : Int) < j := by omega
            have : q = j := by omega
            subst this
            have hsU : s1.data.toList = U := by rw [HUU.out]; exact hs1.out
            have HPS : Hid (_) := HPP.out s1 w hsU
            clear hsz hsU hs1 hs hs0 f1 HUU HPP
            go_wp2_with fail
            refine Calls.mono HPS.out ?_
            rintro e w3 ⟨g, cap, rfl, hc, hN0, hT, hb3⟩
            clear hN0
            have hb30 : Below w3.heap.size w3 (w3.alloc (.cells #[.slice (some ⟨g, 0, none⟩) n cap, .int .i64 0, .bool true] 31)) := (Below.refl _ _).alloc (Nat.le_refl _) _
            have hA := MapKept.heap_alloc w3 (.cells #[.slice (some ⟨g, 0, none⟩) n cap, .int .i64 0, .bool true] 31)
            have hX : BoxT w3.heap.size g n cap l w (w3.alloc (.cells #[.slice (some ⟨g, 0, none⟩) n cap, .int .i64 0, .bool true] 31)) := ⟨by unfold World.cell?; rw [hA.1]; rfl, (show w3.heap.size < _ from lt_of_some hA.1), (show Told _ _ _ ∧ _ ∧ _ from ⟨hT.out.below hb30, hb3.out.trans (hb30.mono hb3.out.size), by unfold World.cell?; rw [hA.1]; rfl⟩)⟩
            have HSB : Hid (_) := HSS.out w3.heap.size g cap w
            have HZB : Hid (_) := HZZ.out w3.heap.size g cap w
            clear hb3 hT hb30 hA HPS HSS HZZ
            go_upto_region 15 with fail
            generalize w3.heap.size = B at *
            generalize w3.alloc (.cells #[.slice (some ⟨g, 0, none⟩) n cap, .int .i64 0, .bool true] 31) = w4 at *
            clear w3
            go_region_held3 (fun W => W.cell? ⟨B, 0, none⟩ = some (.slice (some ⟨g, 0, none⟩) n cap) ∧ Hid (B < W.heap.size) ∧ Hid (Told W (.slice (some ⟨g, 0, none⟩) n cap) l ∧ Below w.heap.size w W ∧ W.cell? ⟨B, 2, none⟩ = some (.bool true))) (first | assumption | exact BoxT.drew (by assumption)) (first | (go_at_call 13; refine Calls.mono (HSB.out _ (by first | assumption | exact BoxT.drew (by assumption))) ?_; rintro e w8 ⟨R, rfl, hS8, HQ8⟩) | (go_at_call 14; refine Calls.mono (HZB.out _ (by first | assumption | exact BoxT.drew (by assumption))) ?_; rintro e w9 ⟨Q, rfl, hS9, HQ9⟩))
            have HF9 : Hid (FuW w w9 g cap R Q B n l S Z) := ⟨hS9.2.2.out.2.1, hS9.2.2.out.1, HQ8.out.2.below HQ9.out.1, HQ9.out.2, hS9.2.1.out, hS9.1, hS9.2.2.out.2.2⟩
            have b0 := hS9.2.1.out
            have b1 := hS9.1
            have b2 := hS9.2.2.out.2.2
            clear HSB HZB hX hS8 HQ8 hS9 HQ9
            have H0 : Hid (Below w9.heap.size w9 w9) := Below.refl _ _
            go_wp2_with fail
            go_loopw [12] (fun i W => ∃ j : Nat, j ≤ n ∧ i = .int .i64 (j : Int) ∧ Hid (Below w9.heap.size w9 W)) (fun i _ => n - (L.intOf i).toNat)
            case atStart => exact ⟨0, by omega, rfl, H0⟩
            case round =>
              obtain ⟨j, hj, rfl, HW⟩ := hrel
              clear H0 b0 b1 b2
              have hF := HF9.out.below HW.out
              obtain ⟨b0, b1, b2⟩ := hF.box
              by_cases hjn : j < n
              · have hjn' : (j : Int) < n := by omega
                have hj0 : (0 : Int) ≤ j := by omega
                have hjl : j < l.length := by rw [HNN.out]; exact hjn
                obtain ⟨hv1, hv3, hv10, hv24⟩ := HV.out j hjl
                obtain ⟨g', cap', an, ak, cn, ck, hv, hg, hc', hn6, hrst⟩ := hF.nd.node j hjl
                simp only [Value.slice.injEq, Option.some.injEq, Addr.mk.injEq, and_true] at hv
                obtain ⟨rfl, _, rfl⟩ := hv
                have d0 := hn6 0 (by omega)
                have d1 := hn6 1 (by omega)
                have d2 := hn6 2 (by omega)
                have d3 := hn6 3 (by omega)
                have d4 := hn6 4 (by omega)
                have d5 := hn6 5 (by omega)
                simp only [ndA, Nat.add_zero, List.getElem?_toArray, List.getElem?_cons_zero, List.getElem?_cons_succ] at d0 d1 d2 d3 d4 d5
                obtain ⟨s0, s1⟩ := hF.sp.cells hjn
                have hRl := hF.sp.lt
                have zc := hF.nm.cells hjn
                have hQl := hF.nm.lt
                have HBA : Hid (∀ o, Below w9.heap.size w9 (wr.alloc o)) := fun o => HW.out.alloc HW.out.size o
                clear hF hn6 hrst HW HF9 HV
                generalize l[j].k = kj at *
                generalize l[j].n = x1 at *
                generalize l[j].t = x2 at *
                generalize l[j].names.length = x3 at *
                generalize l[j].kids.length = x4 at *
                generalize l[j].a = x5 at *
                by_cases h3 : kj = 3
                · subst h3
                  have e1 := hv3 rfl
                  rw [e1] at s0 s1
                  clear hv3 hv10 hv24 e1
                  go_wp2_with fail
                  go_roundw
                  case rel => exact ⟨j + 1, by omega, by go_num, HBA.out _⟩
                  case measure => simp [L.intOf] <;> omega
                · by_cases h10 : kj = 10
                  · subst h10
                    have e1 := hv10 rfl
                    by_cases hq0 : q = 0
                    · have hqn : ¬ (0 : Int) < q := by omega
                      clear hq0
                      by_cases hz1 : Z j = 1
                      · rw [hz1] at zc
                        clear hv3 hv10 hv24 e1 h3
                        go_wp2_with fail
                        go_roundw
                        case rel => exact ⟨j + 1, by omega, by go_num, HBA.out _⟩
                        case measure => simp [L.intOf] <;> omega
                      · have hz1b : (Z j == 1) = false := by rw [beq_eq_false_iff_ne]; exact hz1
                        clear hv3 hv10 hv24 e1 h3
                        generalize Z j = zj at *
                        go_wp2_with fail
                        go_roundw
                        case rel => exact ⟨j + 1, by omega, by go_num, HBA.out _⟩
                        case measure => simp [L.intOf] <;> omega
                    · have e2 : Z j = 0 := by rcases e1 with e1 | e1 <;> first | exact absurd e1 hq0 | exact e1
                      rw [e2] at zc
                      have hq00 : ¬ (q : Int) = 0 := by omega
                      have hqp : (0 : Int) < q := by omega
                      clear hv3 hv10 hv24 e1 e2 h3
                      go_wp2_with fail
                      go_roundw
                      case rel => exact ⟨j + 1, by omega, by go_num, HBA.out _⟩
                      case measure => simp [L.intOf] <;> omega
                  · by_cases h24 : kj = 24
                    · subst h24
                      have e1 := hv24 rfl
                      rw [e1] at zc
                      clear hv3 hv10 hv24 e1 h3 h10
                      go_wp2_with fail
                      go_roundw
                      case rel => exact ⟨j + 1, by omega, by go_num, HBA.out _⟩
                      case measure => simp [L.intOf] <;> omega
                    · have i3 : ¬ (kj : Int) = 3 := by omega
                      have i10 : ¬ (kj : Int) = 10 := by omega
                      have i24 : ¬ (kj : Int) = 24 := by omega
                      have i3b : ((kj : Int) == 3) = false := by rw [beq_eq_false_iff_ne]; exact i3
                      have i10b : ((kj : Int) == 10) = false := by rw [beq_eq_false_iff_ne]; exact i10
                      have i24b : ((kj : Int) == 24) = false := by rw [beq_eq_false_iff_ne]; exact i24
                      clear hv3 hv10 hv24 h3 h10 h24
                      generalize Z j = zj at *
                      go_wp2_with fail
                      go_roundw
                      case rel => exact ⟨j + 1, by omega, by go_num, HBA.out _⟩
                      case measure => simp [L.intOf] <;> omega
              · have hjn' : ¬ (j : Int) < n := by omega
                have HBW : Hid (Below w.heap.size w wr) := hF.bel
                clear HV HF9 HW hF
                go_wp2_with fail
                refine Calls.mono (HK.out _) ?_
                rintro e w5 ⟨rfl, hb5⟩
                have HB5 : Hid (_) := HBW.out.trans (hb5.mono HBW.out.size)
                clear hb5
                go_wp2_with fail
                go_ret
                exact ⟨rfl, HB5.out⟩
  · go_enter Try.func7, Try.ntmps7
    go_wp2_with fail
    go_loop [6, 7] (fun s i => ∃ (j : Nat) (s0 : ByteArray), j ≤ k ∧ s = .string s0 ∧ i = .int .i64 (j : Int) ∧ Hid (s0.data.toList = Sc.more Sc.gP j Sc.g0)) (fun _ i => k - (L.intOf i).toNat)
    case atStart => exact ⟨0, _, by omega, rfl, rfl, rfl⟩
    case round =>
      obtain ⟨j, s0, hj, rfl, rfl, hs⟩ := hrel
      have hsz : s0.size = 13 + j * 16 := by have := congrArg List.length hs.out; rw [more_len] at this; simpa [Sc.g0, Sc.gP] using this
      by_cases hlt : j < k
      · have hlt' : (j : Int) < k := by omega
        have f1 : ¬ 9223372036854775807 < s0.size + 16 := by omega
        clear hsz
        go_wp2_with fail
        go_round
        case rel => exact ⟨j + 1, _, by omega, rfl, by go_num, (show (_ : List UInt8) = _ from by rw [show Sc.more Sc.gP (j + 1) Sc.g0 = Sc.more Sc.gP j Sc.g0 ++ Sc.gP from rfl, ← hs.out]; simp [Sc.gP])⟩
        case measure => simp [L.intOf]; omega
      · have hlt' : ¬ (j : Int) < k := by omega
        have : j = k := by omega
        subst this
        have f1 : ¬ 9223372036854775807 < s0.size + 3 := by omega
        have hs0 : s0.size ≤ 200 := by omega
        clear hsz
        go_wp2_with fail
        go_loop [6, 8] (fun s i => ∃ (q : Nat) (s1 : ByteArray), q ≤ j ∧ s = .string s1 ∧ i = .int .i64 (q : Int) ∧ Hid (s1.data.toList = Sc.more Sc.gE q (Sc.more Sc.gP j Sc.g0 ++ Sc.gF))) (fun _ i => j - (L.intOf i).toNat)
        case atStart => exact ⟨0, _, by omega, rfl, rfl, (show (_ : List UInt8) = _ from by rw [Sc.more, ← hs.out]; simp [Sc.gF])⟩
        case round =>
          obtain ⟨q, s1, hq, rfl, rfl, hs1⟩ := hrel
          have hsz : s1.size = 13 + j * 16 + 3 + q * 3 := by have := congrArg List.length hs1.out; rw [more_len, List.length_append, more_len] at this; simpa [Sc.g0, Sc.gF, Sc.gE, Sc.gP] using this
          by_cases hlq : q < j
          · have hlq' : (q : Int) < j := by omega
            have f2 : ¬ 9223372036854775807 < s1.size + 3 := by omega
            clear hsz
            go_wp2_with fail
            go_round
            case rel => exact ⟨q + 1, _, by omega, rfl, by go_num, (show (_ : List UInt8) = _ from by rw [show Sc.more Sc.gE (q + 1) (Sc.more Sc.gP j Sc.g0 ++ Sc.gF) = Sc.more Sc.gE q (Sc.more Sc.gP j Sc.g0 ++ Sc.gF) ++ Sc.gE from rfl, ← hs1.out]; simp [Sc.gE])⟩
            case measure => simp [L.intOf]; omega
          · have hlq' : ¬ (q : Int) < j := by omega
            have : q = j := by omega
            subst this
            have hsU : s1.data.toList = U := by rw [HUU.out]; exact hs1.out
            have HPS : Hid (_) := HPP.out s1 w hsU
            clear hsz hsU hs1 hs hs0 f1 HUU HPP
            go_wp2_with fail
            refine Calls.mono HPS.out ?_
            rintro e w3 ⟨g, cap, rfl, hc, hN0, hT, hb3⟩
            clear hN0
            have hb30 : Below w3.heap.size w3 (w3.alloc (.cells #[.slice (some ⟨g, 0, none⟩) n cap, .int .i64 0, .bool true] 31)) := (Below.refl _ _).alloc (Nat.le_refl _) _
            have hA := MapKept.heap_alloc w3 (.cells #[.slice (some ⟨g, 0, none⟩) n cap, .int .i64 0, .bool true] 31)
            have hX : BoxT w3.heap.size g n cap l w (w3.alloc (.cells #[.slice (some ⟨g, 0, none⟩) n cap, .int .i64 0, .bool true] 31)) := ⟨by unfold World.cell?; rw [hA.1]; rfl, (show w3.heap.size < _ from lt_of_some hA.1), (show Told _ _ _ ∧ _ ∧ _ from ⟨hT.out.below hb30, hb3.out.trans (hb30.mono hb3.out.size), by unfold World.cell?; rw [hA.1]; rfl⟩)⟩
            have HSB : Hid (_) := HSS.out w3.heap.size g cap w
            have HZB : Hid (_) := HZZ.out w3.heap.size g cap w
            clear hb3 hT hb30 hA HPS HSS HZZ
            go_upto_region 15 with fail
            generalize w3.heap.size = B at *
            generalize w3.alloc (.cells #[.slice (some ⟨g, 0, none⟩) n cap, .int .i64 0, .bool true] 31) = w4 at *
            clear w3
            go_region_held3 (fun W => W.cell? ⟨B, 0, none⟩ = some (.slice (some ⟨g, 0, none⟩) n cap) ∧ Hid (B < W.heap.size) ∧ Hid (Told W (.slice (some ⟨g, 0, none⟩) n cap) l ∧ Below w.heap.size w W ∧ W.cell? ⟨B, 2, none⟩ = some (.bool true))) (first | assumption | exact BoxT.drew (by assumption)) (first | (go_at_call 13; refine Calls.mono (HSB.out _ (by first | assumption | exact BoxT.drew (by assumption))) ?_; rintro e w8 ⟨R, rfl, hS8, HQ8⟩) | (go_at_call 14; refine Calls.mono (HZB.out _ (by first | assumption | exact BoxT.drew (by assumption))) ?_; rintro e w9 ⟨Q, rfl, hS9, HQ9⟩))
            have HF9 : Hid (FuW w w9 g cap R Q B n l S Z) := ⟨hS9.2.2.out.2.1, hS9.2.2.out.1, HQ8.out.2.below HQ9.out.1, HQ9.out.2, hS9.2.1.out, hS9.1, hS9.2.2.out.2.2⟩
            have b0 := hS9.2.1.out
            have b1 := hS9.1
            have b2 := hS9.2.2.out.2.2
            clear HSB HZB hX hS8 HQ8 hS9 HQ9
            have H0 : Hid (Below w9.heap.size w9 w9) := Below.refl _ _
            go_wp2_with fail
            go_loopw [12] (fun i W => ∃ j : Nat, j ≤ n ∧ i = .int .i64 (j : Int) ∧ Hid (Below w9.heap.size w9 W)) (fun i _ => n - (L.intOf i).toNat)
            case atStart => exact ⟨0, by omega, rfl, H0⟩
            case round =>
              obtain ⟨j, hj, rfl, HW⟩ := hrel
              clear H0 b0 b1 b2
              have hF := HF9.out.below HW.out
              obtain ⟨b0, b1, b2⟩ := hF.box
              by_cases hjn : j < n
              · have hjn' : (j : Int) < n := by omega
                have hj0 : (0 : Int) ≤ j := by omega
                have hjl : j < l.length := by rw [HNN.out]; exact hjn
                obtain ⟨hv1, hv3, hv10, hv24⟩ := HV.out j hjl
                obtain ⟨g', cap', an, ak, cn, ck, hv, hg, hc', hn6, hrst⟩ := hF.nd.node j hjl
                simp only [Value.slice.injEq, Option.some.injEq, Addr.mk.injEq, and_true] at hv
                obtain ⟨rfl, _, rfl⟩ := hv
                have d0 := hn6 0 (by omega)
                have d1 := hn6 1 (by omega)
                have d2 := hn6 2 (by omega)
                have d3 := hn6 3 (by omega)
                have d4 := hn6 4 (by omega)
                have d5 := hn6 5 (by omega)
                simp only [ndA, Nat.add_zero, List.getElem?_toArray, List.getElem?_cons_zero, List.getElem?_cons_succ] at d0 d1 d2 d3 d4 d5
                obtain ⟨s0, s1⟩ := hF.sp.cells hjn
                have hRl := hF.sp.lt
                have zc := hF.nm.cells hjn
                have hQl := hF.nm.lt
                have HBA : Hid (∀ o, Below w9.heap.size w9 (wr.alloc o)) := fun o => HW.out.alloc HW.out.size o
                clear hF hn6 hrst HW HF9 HV
                generalize l[j].k = kj at *
                generalize l[j].n = x1 at *
                generalize l[j].t = x2 at *
                generalize l[j].names.length = x3 at *
                generalize l[j].kids.length = x4 at *
                generalize l[j].a = x5 at *
                by_cases h3 : kj = 3
                · subst h3
                  have e1 := hv3 rfl
                  rw [e1] at s0 s1
                  clear hv3 hv10 hv24 e1
                  go_wp2_with fail
                  go_roundw
                  case rel => exact ⟨j + 1, by omega, by go_num, HBA.out _⟩
                  case measure => simp [L.intOf] <;> omega
                · by_cases h10 : kj = 10
                  · subst h10
                    have e1 := hv10 rfl
                    by_cases hq0 : q = 0
                    · have hqn : ¬ (0 : Int) < q := by omega
                      clear hq0
                      by_cases hz1 : Z j = 1
                      · rw [hz1] at zc
                        clear hv3 hv10 hv24 e1 h3
                        go_wp2_with fail
                        go_roundw
                        case rel => exact ⟨j + 1, by omega, by go_num, HBA.out _⟩
                        case measure => simp [L.intOf] <;> omega
                      · have hz1b : (Z j == 1) = false := by rw [beq_eq_false_iff_ne]; exact hz1
                        clear hv3 hv10 hv24 e1 h3
                        generalize Z j = zj at *
                        go_wp2_with fail
                        go_roundw
                        case rel => exact ⟨j + 1, by omega, by go_num, HBA.out _⟩
                        case measure => simp [L.intOf] <;> omega
                    · have e2 : Z j = 1 := by rcases e1 with e1 | e1 <;> first | exact absurd e1 hq0 | exact e1
                      rw [e2] at zc
                      have hq00 : ¬ (q : Int) = 0 := by omega
                      have hqp : (0 : Int) < q := by omega
                      clear hv3 hv10 hv24 e1 e2 h3
                      go_wp2_with fail
                      go_roundw
                      case rel => exact ⟨j + 1, by omega, by go_num, HBA.out _⟩
                      case measure => simp [L.intOf] <;> omega
                  · by_cases h24 : kj = 24
                    · subst h24
                      have e1 := hv24 rfl
                      rw [e1] at zc
                      clear hv3 hv10 hv24 e1 h3 h10
                      go_wp2_with fail
                      go_roundw
                      case rel => exact ⟨j + 1, by omega, by go_num, HBA.out _⟩
                      case measure => simp [L.intOf] <;> omega
                    · have i3 : ¬ (kj : Int) = 3 := by omega
                      have i10 : ¬ (kj : Int) = 10 := by omega
                      have i24 : ¬ (kj : Int) = 24 := by omega
                      have i3b : ((kj : Int) == 3) = false := by rw [beq_eq_false_iff_ne]; exact i3
                      have i10b : ((kj : Int) == 10) = false := by rw [beq_eq_false_iff_ne]; exact i10
                      have i24b : ((kj : Int) == 24) = false := by rw [beq_eq_false_iff_ne]; exact i24
                      clear hv3 hv10 hv24 h3 h10 h24
                      generalize Z j = zj at *
                      go_wp2_with fail
                      go_roundw
                      case rel => exact ⟨j + 1, by omega, by go_num, HBA.out _⟩
                      case measure => simp [L.intOf] <;> omega
              · have hjn' : ¬ (j : Int) < n := by omega
                have HBW : Hid (Below w.heap.size w wr) := hF.bel
                clear HV HF9 HW hF
                go_wp2_with fail
                refine Calls.mono (HK.out _) ?_
                rintro e w5 ⟨rfl, hb5⟩
                have HB5 : Hid (_) := HBW.out.trans (hb5.mono HBW.out.size)
                clear hb5
                go_wp2_with fail
                go_ret
                exact ⟨rfl, HB5.out⟩
end Go.Proofs.Ytkaacmghgobhmaa.Rd
end
section
namespace Go.Proofs.Ytkaacmghgobhmaa.Rd
open Go.RowKit
set_option linter.unusedVariables false
theorem funs_facts {k : Nat} {b : Bool} (h : Sc.okFun k b = true) : ∃ l, Rp.rparse (Sc.funT k b) = (l, 0, true) ∧ Sc.fitB l = true ∧ ∀ j (h : j < l.length), (l[j].k = 3 → Sc.spot l (Sc.found l) j = ((k : Int), 0)) ∧ (l[j].k = 10 → k = 0 ∨ Sc.slotAt (Sc.found l) j = (if b then 1 else 0)) ∧ (l[j].k = 24 → Sc.slotAt (Sc.found l) j = -1) := by
  unfold Sc.okFun at h
  rcases e : Rp.rparse (Sc.funT k b) with ⟨l, a, ok⟩
  rw [e] at h
  simp only [Bool.and_eq_true, decide_eq_true_eq] at h
  obtain ⟨⟨⟨h1, h2⟩, h3⟩, h4⟩ := h
  subst h1 h2
  refine ⟨l, rfl, h3, fun j hj => ?_⟩
  have h5 := List.all_eq_true.1 h4 j (List.mem_range.2 hj)
  rw [List.getElem?_eq_getElem hj] at h5
  simp only [Bool.and_eq_true] at h5
  obtain ⟨⟨a1, a2⟩, a3⟩ := h5
  refine ⟨fun e => ?_, fun e => ?_, fun e => ?_⟩
  · rw [if_pos e] at a1; exact of_decide_eq_true a1
  · rw [if_pos e] at a2; exact of_decide_eq_true a2
  · rw [if_pos e] at a3; exact of_decide_eq_true a3
theorem scopeFuns_walk (a : Int) (b : Bool) (w : World) (ha : 0 ≤ a ∧ a ≤ 255) : Calls Try.prog 7 #[.int .u8 a, .bool b] w fun e w' => e = .returned (.bool true) ∧ Below w.heap.size w w' := by
  obtain ⟨k, hm⟩ : ∃ k : Nat, a % 5 = (k : Int) := ⟨(a % 5).toNat, by omega⟩
  have hk : k < 5 := by omega
  have o := List.all_eq_true.1 Sc.funs_ok k (List.mem_range.2 hk)
  simp only [Bool.and_eq_true] at o
  have o1 : Sc.okFun k b = true := by cases b; exact o.2; exact o.1
  obtain ⟨l, e, hf, hv⟩ := funs_facts o1
  have hfit := fit_of hf
  have hlen : (Sc.funT k b).length ≤ 4096 := by
    unfold Sc.funT
    rw [more_len, List.length_append, more_len]
    have h1 : Sc.gE.length = 3 := rfl
    have h2 : Sc.gF.length = 3 := rfl
    have h3 : Sc.g0.length = 13 := rfl
    have h4 : (if b then Sc.gP else Sc.gN).length ≤ 16 := by cases b <;> decide
    rw [h1, h2, h3]
    have h5 : k * (if b then Sc.gP else Sc.gN).length ≤ 4 * 16 := Nat.mul_le_mul (by omega) h4
    omega
  exact funs_core a b k l.length (Sc.funT k b) rfl l _ (fun j => slotOf (Sc.found l) ((Sc.found l).own.getD j 0)) w ha hm hk rfl hfit.few (fun j hj => ⟨hfit.kinds _ (List.getElem_mem hj), (hv j hj).1, (hv j hj).2.1, (hv j hj).2.2⟩) (reads_of hlen e hfit.ne) (spots_of hf) (slots_of hf) (fun W => awake_any W)
end Go.Proofs.Ytkaacmghgobhmaa.Rd
end
