/- Texts: ScNe. -/
import Derived.Test.YtkaacmghgobhmaaBn17
namespace Go.Proofs.Ytkaacmghgobhmaa.Sc
theorem opens_snoc : ∀ (l : List Bool) (b : Bool), opensT (l ++ [b]) = opensT l ++ ([123, 32] ++ (if b then bA else bX))
  | [], b => by simp [opensT]
  | c :: l, b => by simp only [List.cons_append, opensT, opens_snoc l b, List.append_assoc]
theorem closes_snoc : ∀ n, closesT n ++ [32, 125] = closesT (n + 1)
  | 0 => rfl
  | n + 1 => by rw [closesT, List.append_assoc, closes_snoc n]; rfl
theorem near_snoc : ∀ (l : List Bool) (n : Nat) (b : Bool), nearOf n (l ++ [b]) = if b then 0 else nearOf n l + 1
  | [], n, b => by cases b <;> rfl
  | c :: l, n, b => by simp only [List.cons_append, nearOf]; exact near_snoc l _ b
/-- The first k of what came in. -/
def bitsOf (z : List Bool) (k : Nat) : List Bool := (List.range k).map fun i => z.getD i false
theorem bits_snoc (z : List Bool) (k : Nat) : bitsOf z (k + 1) = bitsOf z k ++ [z.getD k false] := by
  unfold bitsOf; rw [List.range_succ, List.map_append]; rfl
theorem bits_len (z : List Bool) (k : Nat) : (bitsOf z k).length = k := by unfold bitsOf; simp
theorem near_le : ∀ (l : List Bool) (n : Nat), nearOf n l ≤ n + l.length
  | [], n => Nat.le_refl _
  | c :: l, n => by
    have := near_le l (if c then 0 else n + 1)
    rw [nearOf, List.length_cons]
    cases c <;> simp at this ⊢ <;> omega
theorem allA_at {l : List Ps.Nd} {S : Nat → Int × Int} {q : Int × Int} : ∀ n, allA l S q n = true → ∀ j (h : j < l.length), j < n → l[j].k = 3 → l[j].t = [97] → S j = q
  | 0, _, j, h, hn, _, _ => by omega
  | n + 1, ha, j, h, hn, hk, ht => by
    rw [allA, Bool.and_eq_true] at ha
    by_cases e : j = n
    · subst e
      have := ha.1
      rw [List.getElem?_eq_getElem h] at this
      simp only [hk, ht, if_true] at this
      exact of_decide_eq_true this
    · exact allA_at n ha.2 j h (by omega) hk ht
end Go.Proofs.Ytkaacmghgobhmaa.Sc
namespace Go.Proofs.Ytkaacmghgobhmaa.Rd
open Go.RowKit
open L (tkA own_block own_below info_of)
set_option linter.unusedVariables false
/-- The tree in its box, and the spots, while nodes are gone through. -/
structure NeW (w W : World) (g cap R B n : Nat) (l : List Ps.Nd) (S : Nat → Int × Int) : Prop where
  bel : Below w.heap.size w W
  nd : NodesAt W g l
  sp : SpotsAt W R n n S
  box : B < W.heap.size ∧ W.cell? ⟨B, 0, none⟩ = some (.slice (some ⟨g, 0, none⟩) n cap) ∧ W.cell? ⟨B, 2, none⟩ = some (.bool true)
theorem NeW.below {w W W' : World} {g cap R B n : Nat} {l : List Ps.Nd} {S : Nat → Int × Int} (h : NeW w W g cap R B n l S) (hb : Below W.heap.size W W') : NeW w W' g cap R B n l S :=
  ⟨h.bel.trans (hb.mono h.bel.size), h.nd.below hb, h.sp.below hb, Nat.lt_of_lt_of_le h.box.1 hb.size, (hb.cell (p := ⟨B, 0, none⟩) h.box.1).trans h.box.2.1, (hb.cell (p := ⟨B, 2, none⟩) h.box.1).trans h.box.2.2⟩
set_option maxRecDepth 100000 in
set_option maxHeartbeats 4000000 in
theorem nests_core (a : Int) (ad : Option Addr) (len cap0 : Nat) (z : List Bool) (k n : Nat) (w : World) (ha : 0 ≤ a ∧ a ≤ 255) (hm : a % 10 = (k : Int)) (hk : k < 10) (hz : Ob.IsBools w ad len cap0 z)
    (U : List UInt8) (hU : U = Sc.nestT (Sc.bitsOf z k)) (l : List Ps.Nd) (S : Nat → Int × Int) (hn : l.length = n) (hnn : n ≤ 1000000)
    (HV : Hid (∀ j (h : j < l.length), l[j].k ≤ 1000000000 ∧ (l[j].k = 3 → l[j].t = [97] → S j = (((Sc.nearOf 0 (Sc.bitsOf z k) : Nat) : Int), 0))))
    (HP : Hid (Reads U l)) (HS : Hid (Spots l S))
    (HK : Hid (∀ W, Calls Try.prog 9 #[] W fun e w' => e = .returned (.bool true) ∧ Below W.heap.size W w')) :
    Calls Try.prog 5 #[.int .u8 a, .slice ad len cap0] w fun e w' => e = .returned (.bool true) ∧ Below w.heap.size w w' := by
  have hk' : (k : Int) < 10 := by omega
  have hk0 : (0 : Int) ≤ k := by omega
  have HPP : Hid (∀ (s : ByteArray) W, s.data.toList = U → Calls Try.prog 12 #[.string s] W fun e w' => ∃ g cap, e = .returned (.agg #[.slice (some ⟨g, 0, none⟩) n cap, .int .i64 0, .bool true]) ∧ n ≤ cap ∧ Hid (NodesAt w' g l) ∧ Hid (Told w' (.slice (some ⟨g, 0, none⟩) n cap) l) ∧ Hid (Below W.heap.size W w')) := fun s W hs => by
    have := HP.out W
    rw [hn, ← hs] at this
    rw [L.mk_list] at this
    exact this
  have HSS : Hid (∀ W v, Told W v l → Calls Try.prog 13 #[v] W fun e w' => ∃ R, e = .returned (.slice (some ⟨R, 0, none⟩) n n) ∧ W.heap.size ≤ R ∧ Hid (Below W.heap.size W w') ∧ Hid (SpotsAt w' R n n S)) := by rw [← hn]; exact HS.out
  have HUU : Hid (U = Sc.nestT (Sc.bitsOf z k)) := hU
  have HNN : Hid (l.length = n) := hn
  obtain ⟨h0, h1⟩ := ha
  obtain ⟨hzl, hlc, hcm, hzz⟩ := hz
  have HZ : Hid (_) := hzz
  have hlm : len ≤ 9223372036854775807 := by unfold maxLen at hcm; omega
  clear HP HS hn hU hzz hcm
  go_enter Try.func5, Try.ntmps5
  go_wp2_with fail
  go_loop [6, 7, 8, 9] (fun s dp nr i => ∃ (j d : Nat) (s0 : ByteArray), j ≤ k ∧ d ≤ 1 ∧ s = .string s0 ∧ dp = .int .i64 (d : Int) ∧ nr = .int .i64 ((Sc.nearOf 0 (Sc.bitsOf z j) : Nat) : Int) ∧ i = .int .i64 (j : Int) ∧ Hid (s0.data.toList = Sc.b0 ++ Sc.opensT (Sc.bitsOf z j))) (fun _ _ _ i => k - (L.intOf i).toNat)
  case atStart => exact ⟨0, 0, _, by omega, by omega, rfl, rfl, rfl, rfl, rfl⟩
  case round =>
    obtain ⟨j, d, s0, hj, hd, rfl, rfl, rfl, rfl, hs⟩ := hrel
    have hsz : s0.size = 11 + 13 * j := by
      have := congrArg List.length hs.out
      rw [List.length_append, Sc.len_opens, Sc.bits_len] at this
      simpa [Sc.b0] using this
    have hnr := Sc.near_le (Sc.bitsOf z j) 0
    rw [Sc.bits_len] at hnr
    by_cases hlt : j < k
    · have hlt' : (j : Int) < k := by omega
      have f1 : ¬ 9223372036854775807 < s0.size + 2 := by omega
      have f2 : ¬ 9223372036854775807 < s0.size + 2 + 11 := by omega
      have HS1 : Hid (∀ (b : Bool) (s1 : ByteArray), b = z.getD j false → s1.data.toList = s0.data.toList ++ [123, 32] ++ (if b then Sc.bA else Sc.bX) → s1.data.toList = Sc.b0 ++ Sc.opensT (Sc.bitsOf z (j + 1))) := fun b s1 hb h => by
        rw [h, hs.out, Sc.bits_snoc, Sc.opens_snoc, ← hb]; simp only [List.append_assoc]
      have hns := Sc.near_snoc (Sc.bitsOf z j) 0 (z.getD j false)
      rw [← Sc.bits_snoc] at hns
      clear hs hsz
      by_cases hjl : j < len
      · have hjl' : (j : Int) < len := by omega
        obtain ⟨b, off, rfl, hb, hc⟩ := HZ.out.resolve_left (by omega)
        have cz := hc j (by omega)
        have eb : z.getD j false = z[j]'(by omega) := by rw [List.getD_eq_getElem?_getD, List.getElem?_eq_getElem (by omega)]; rfl
        rw [eb] at hns
        clear hc HZ
        cases hzj : z[j]'(by omega) with
        | true =>
          rw [hzj] at cz eb hns
          rw [if_pos rfl] at hns
          clear hnr
          generalize Sc.nearOf 0 (Sc.bitsOf z j) = nr at *
          go_wp2_with fail
          go_round
          case rel => exact ⟨j + 1, 1, _, by omega, by omega, rfl, rfl, by rw [hns]; rfl, by go_num, (show (_ : List UInt8) = _ from HS1.out true _ eb.symm (by simp [Sc.bA]))⟩
          case measure => simp [L.intOf]; omega
        | false =>
          rw [hzj] at cz eb hns
          rw [if_neg (by decide)] at hns
          generalize Sc.nearOf 0 (Sc.bitsOf z j) = nr at *
          go_wp2_with fail
          go_round
          case rel => exact ⟨j + 1, d, _, by omega, hd, rfl, rfl, by rw [hns]; go_num, by go_num, (show (_ : List UInt8) = _ from HS1.out false _ eb.symm (by simp [Sc.bX]))⟩
          case measure => simp [L.intOf]; omega
      · have hjl' : ¬ (j : Int) < len := by omega
        have eb : z.getD j false = false := by rw [List.getD_eq_getElem?_getD, List.getElem?_eq_none (by omega)]; rfl
        rw [eb, if_neg (by decide)] at hns
        clear HZ
        generalize Sc.nearOf 0 (Sc.bitsOf z j) = nr at *
        go_wp2_with fail
        go_round
        case rel => exact ⟨j + 1, d, _, by omega, hd, rfl, rfl, by rw [hns]; go_num, by go_num, (show (_ : List UInt8) = _ from HS1.out false _ eb.symm (by simp [Sc.bX]))⟩
        case measure => simp [L.intOf]; omega
    · have hlt' : ¬ (j : Int) < k := by omega
      have : j = k := by omega
      subst this
      have f1 : ¬ 9223372036854775807 < s0.size + 1 := by omega
      have hs0 : s0.size ≤ 200 := by omega
      have hd1 : ¬ (1 : Int) < d := by omega
      clear hsz
      go_wp2_with fail
      go_loop [6, 10] (fun s i => ∃ (q : Nat) (s1 : ByteArray), q ≤ j ∧ s = .string s1 ∧ i = .int .i64 (q : Int) ∧ Hid (s1.data.toList = Sc.b0 ++ (Sc.opensT (Sc.bitsOf z j) ++ (97 :: Sc.closesT q)))) (fun _ i => j - (L.intOf i).toNat)
      case atStart => exact ⟨0, _, by omega, rfl, rfl, (show (_ : List UInt8) = _ from by simp only [ByteArray.data_append, Array.toList_append, hs.out, Sc.closesT, List.append_assoc])⟩
      case round =>
        obtain ⟨q, s1, hq, rfl, rfl, hs1⟩ := hrel
        have hsz : s1.size ≤ 300 := by
          have := congrArg List.length hs1.out
          rw [List.length_append, List.length_append, Sc.len_opens, Sc.bits_len, List.length_cons, Sc.len_closes] at this
          have h2 : Sc.b0.length = 11 := rfl
          have h3 : s1.data.toList.length = s1.size := rfl
          omega
        by_cases hlq : q < j
        · have hlq' : (q : Int) < j := by omega
          have f2 : ¬ 9223372036854775807 < s1.size + 2 := by omega
          clear hsz
          go_wp2_with fail
          go_round
          case rel => exact ⟨q + 1, _, by omega, rfl, by go_num, (show (_ : List UInt8) = _ from by simp only [ByteArray.data_append, Array.toList_append, hs1.out, ← Sc.closes_snoc, List.append_assoc, List.cons_append])⟩
          case measure => simp [L.intOf]; omega
        · have hlq' : ¬ (q : Int) < j := by omega
          have : q = j := by omega
          subst this
          have hsU : s1.data.toList = U := by rw [HUU.out, hs1.out, Sc.nestT, Sc.bits_len]
          have HPS : Hid (_) := HPP.out s1 w hsU
          clear hsz hsU hs1 hs hs0 f1 HUU HPP HZ
          generalize Sc.nearOf 0 (Sc.bitsOf z q) = nr at *
          go_wp2_with fail
          refine Calls.mono HPS.out ?_
          rintro e w3 ⟨g, cap, rfl, hc, hN, hT, hb3⟩
          have hb30 : Below w3.heap.size w3 (w3.alloc (.cells #[.slice (some ⟨g, 0, none⟩) n cap, .int .i64 0, .bool true] 31)) := (Below.refl _ _).alloc (Nat.le_refl _) _
          have hA := MapKept.heap_alloc w3 (.cells #[.slice (some ⟨g, 0, none⟩) n cap, .int .i64 0, .bool true] 31)
          have HS4 : Hid (_) := HSS.out (w3.alloc (.cells #[.slice (some ⟨g, 0, none⟩) n cap, .int .i64 0, .bool true] 31)) _ (hT.out.below hb30)
          have HW3 : Hid (∀ W R, Below (w3.alloc (.cells #[.slice (some ⟨g, 0, none⟩) n cap, .int .i64 0, .bool true] 31)).heap.size (w3.alloc (.cells #[.slice (some ⟨g, 0, none⟩) n cap, .int .i64 0, .bool true] 31)) W → SpotsAt W R n n S → NeW w W g cap R w3.heap.size n l S) := fun W R hW hR => by
            have hW0 : Below w3.heap.size w3 W := hb30.trans (hW.mono hb30.size)
            have hbx : W.heap[w3.heap.size]? = _ := (hW.block w3.heap.size (lt_of_some hA.1)).trans hA.1
            exact ⟨hb3.out.trans (hW0.mono hb3.out.size), hN.out.below hW0, hR, lt_of_some hbx, by unfold World.cell?; rw [hbx]; rfl, by unfold World.cell?; rw [hbx]; rfl⟩
          clear hb3 hT hN HPS HSS hb30 hA
          go_wp2_with fail
          refine Calls.mono HS4.out ?_
          rintro e w4 ⟨R, rfl, hR, hb4, hS4⟩
          have HF4 : Hid (NeW w w4 g cap R w3.heap.size n l S) := HW3.out w4 R hb4.out hS4.out
          clear HS4 HW3 hb4 hS4 hR
          obtain ⟨b0, b1, b2⟩ := HF4.out.box
          generalize w3.heap.size = B at *
          clear w3
          have H0 : Hid (Below w4.heap.size w4 w4) := Below.refl _ _
          go_wp2_with fail
          go_loopw [13] (fun i W => ∃ j : Nat, j ≤ n ∧ i = .int .i64 (j : Int) ∧ Hid (Below w4.heap.size w4 W)) (fun i _ => n - (L.intOf i).toNat)
          case atStart => exact ⟨0, by omega, rfl, H0⟩
          case round =>
            obtain ⟨j, hj, rfl, HW⟩ := hrel
            clear H0 b0 b1 b2
            have hF := HF4.out.below HW.out
            obtain ⟨b0, b1, b2⟩ := hF.box
            by_cases hjn : j < n
            · have hjn' : (j : Int) < n := by omega
              have hj0 : (0 : Int) ≤ j := by omega
              have hjl : j < l.length := by rw [HNN.out]; exact hjn
              obtain ⟨hv1, hv3⟩ := HV.out j hjl
              obtain ⟨hg, hnd⟩ := hF.nd
              obtain ⟨d0, d2⟩ := hnd j hjl
              obtain ⟨s0, s1⟩ := hF.sp.cells hjn
              have hRl := hF.sp.lt
              clear hF hnd HF4 HV
              by_cases h3 : l[j].k = 3
              · rw [h3] at d0
                by_cases ht : l[j].t = [97]
                · have e1 := hv3 h3 ht
                  rw [e1] at s0 s1
                  rw [ht] at d2
                  clear hv1 hv3 e1 h3 ht
                  go_wp2_with fail
                  go_roundw
                  case rel => exact ⟨j + 1, by omega, by go_num, HW⟩
                  case measure => simp [L.intOf] <;> omega
                · have htb : (l[j].t == [97]) = false := by rw [beq_eq_false_iff_ne]; exact ht
                  clear hv1 hv3 h3 ht
                  generalize l[j].t = tj at *
                  go_wp2_with fail
                  go_roundw
                  case rel => exact ⟨j + 1, by omega, by go_num, HW⟩
                  case measure => simp [L.intOf] <;> omega
              · have i3 : ¬ (l[j].k : Int) = 3 := by omega
                have i3b : ((l[j].k : Int) == 3) = false := by rw [beq_eq_false_iff_ne]; exact i3
                clear hv3 h3
                generalize l[j].t = tj at *
                generalize l[j].k = kj at *
                go_wp2_with fail
                go_roundw
                case rel => exact ⟨j + 1, by omega, by go_num, HW⟩
                case measure => simp [L.intOf] <;> omega
            · have hjn' : ¬ (j : Int) < n := by omega
              have HBW : Hid (Below w.heap.size w wr) := hF.bel
              clear HV HF4 HW hF
              go_wp2_with fail
              refine Calls.mono (HK.out _) ?_
              rintro e w5 ⟨rfl, hb5⟩
              have HB5 : Hid (_) := HBW.out.trans (hb5.mono HBW.out.size)
              clear hb5
              go_wp2_with fail
              go_ret
              exact ⟨rfl, HB5.out⟩
end Go.Proofs.Ytkaacmghgobhmaa.Rd
