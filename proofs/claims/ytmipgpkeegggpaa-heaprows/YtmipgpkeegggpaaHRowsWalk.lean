-- PROVED: HeapRows, walked.
import Derived.Test.YtmipgpkeegggpaaHRow
import Derived.Deep.DeepCutAuto
import Derived.Deep.CutBlock
namespace Go.Proofs.Ytmipgpkeegggpaa.P
open Go.RowKit Hq
set_option linter.unusedVariables false
/-- The i-th cell of a row: it leads to the next one. -/
def rowC (K i : Nat) : Cl :=
  if K = 0 then ⟨2, 0, 0, [], [⟨3, 1, ⟨#[]⟩⟩, ⟨5, ((i + 1 : Nat) : Int), ⟨#[]⟩⟩]⟩
  else if K = 1 then ⟨1, ((i + 1 : Nat) : Int), 0, [], []⟩
  else if K = 2 then ⟨3, 1, ((i + 1 : Nat) : Int), [], []⟩
  else ⟨5, 0, 0, [], [⟨6, ((i + 1 : Nat) : Int), ⟨#[114, 101, 115, 111, 108, 118, 101]⟩⟩]⟩
theorem rowC_out (K i : Nat) : outC (rowC K i) = [((i + 1 : Nat) : Int)] := by
  unfold rowC
  split
  · simp [outC, tv, to1]
  · split
    · simp [outC, tv]
    · split
      · simp [outC, tv]
      · simp [outC, tv, to1]
theorem rowC_vals (K i : Nat) : (rowC K i).vals.length ≤ 2 := by
  unfold rowC
  split
  · simp
  · split
    · simp
    · split <;> simp
def rowL (K i : Nat) : List Cl := (List.range i).map fun j => rowC K (j + 1)
theorem rowL_len (K i : Nat) : (rowL K i).length = i := by simp [rowL]
theorem rowL_succ (K i : Nat) : rowL K (i + 1) = rowL K i ++ [rowC K (i + 1)] := by simp [rowL, List.range_succ]
theorem rowL_out (K n y : Nat) (h1 : 1 ≤ y) (h2 : y ≤ n) : outL (rowL K n) y = [((y + 1 : Nat) : Int)] := by
  rw [outL_at (c := rowC K y), rowC_out]
  unfold rowL
  rw [List.getElem?_map, List.getElem?_range (by omega), Option.map_some, Nat.sub_add_cancel h1]
theorem rowW0 {base q0 : Nat} {w1 : World} (hb : base ≤ w1.heap.size) (i : Nat) (h : w1.heap[q0]? = some (.cells #[.int .i64 2, .int .i64 0, .int .i64 0, .slice none 0 0, .slice none 0 0] 30 (0, 0))) :
    ((w1.setCell ⟨q0, 4, none⟩ (.slice (some ⟨w1.heap.size, 0, none⟩) 2 2)).alloc (.cells #[.int .i64 3, .int .i64 1, .string ⟨#[]⟩, .int .i64 5, .int .i64 ((i : Int) + 1), .string ⟨#[]⟩] 46)).heap[q0]? = some (.cells #[.int .i64 (rowC 0 i).kind, .int .i64 (rowC 0 i).a, .int .i64 (rowC 0 i).b, .slice none 0 0, .slice (some ⟨w1.heap.size, 0, none⟩) 2 2] 30 (0, 0)) ∧
    Parts base ((w1.setCell ⟨q0, 4, none⟩ (.slice (some ⟨w1.heap.size, 0, none⟩) 2 2)).alloc (.cells #[.int .i64 3, .int .i64 1, .string ⟨#[]⟩, .int .i64 5, .int .i64 ((i : Int) + 1), .string ⟨#[]⟩] 46)) (.slice none 0 0) (.slice (some ⟨w1.heap.size, 0, none⟩) 2 2) (rowC 0 i) := by
  have lx := heap_lt h
  have hV := vals_new (base := base) (w := w1.setCell ⟨q0, 4, none⟩ (.slice (some ⟨w1.heap.size, 0, none⟩) 2 2)) (arr := #[.int .i64 3, .int .i64 1, .string ⟨#[]⟩, .int .i64 5, .int .i64 ((i : Int) + 1), .string ⟨#[]⟩]) (L := (rowC 0 i).vals) (by rw [size_set]; exact hb) 2 rfl (fun t ht => by
    match t, ht with
    | 0, _ => exact ⟨rfl, rfl, rfl⟩
    | 1, _ => exact ⟨rfl, rfl, rfl⟩
    | n + 2, ht => exact absurd ht (by simp [rowC]))
  rw [size_set] at hV
  refine ⟨?_, Texts.nil _ _, hV, by simp [rowC], by simp [rowC]⟩
  rw [Below.heap_alloc _ _ _ (by rw [size_set]; exact lx), Lib.heap_setCell_same h]
  rfl
theorem rowW3 {base q0 : Nat} {w1 : World} (hb : base ≤ w1.heap.size) (i : Nat) (h : w1.heap[q0]? = some (.cells #[.int .i64 2, .int .i64 0, .int .i64 0, .slice none 0 0, .slice none 0 0] 30 (0, 0))) :
    (((w1.setCell ⟨q0, 0, none⟩ (.int .i64 5)).setCell ⟨q0, 4, none⟩ (.slice (some ⟨w1.heap.size, 0, none⟩) 1 1)).alloc (.cells #[.int .i64 6, .int .i64 ((i : Int) + 1), .string ⟨#[114, 101, 115, 111, 108, 118, 101]⟩] 46)).heap[q0]? = some (.cells #[.int .i64 (rowC 3 i).kind, .int .i64 (rowC 3 i).a, .int .i64 (rowC 3 i).b, .slice none 0 0, .slice (some ⟨w1.heap.size, 0, none⟩) 1 1] 30 (0, 0)) ∧
    Parts base (((w1.setCell ⟨q0, 0, none⟩ (.int .i64 5)).setCell ⟨q0, 4, none⟩ (.slice (some ⟨w1.heap.size, 0, none⟩) 1 1)).alloc (.cells #[.int .i64 6, .int .i64 ((i : Int) + 1), .string ⟨#[114, 101, 115, 111, 108, 118, 101]⟩] 46)) (.slice none 0 0) (.slice (some ⟨w1.heap.size, 0, none⟩) 1 1) (rowC 3 i) := by
  have lx := heap_lt h
  have hV := vals_new (base := base) (w := (w1.setCell ⟨q0, 0, none⟩ (.int .i64 5)).setCell ⟨q0, 4, none⟩ (.slice (some ⟨w1.heap.size, 0, none⟩) 1 1)) (arr := #[.int .i64 6, .int .i64 ((i : Int) + 1), .string ⟨#[114, 101, 115, 111, 108, 118, 101]⟩]) (L := (rowC 3 i).vals) (by rw [size_set, size_set]; exact hb) 1 rfl (fun t ht => by
    match t, ht with
    | 0, _ => exact ⟨rfl, rfl, rfl⟩
    | n + 1, ht => exact absurd ht (by simp [rowC]))
  rw [size_set, size_set] at hV
  refine ⟨?_, Texts.nil _ _, hV, by simp [rowC], by simp [rowC]⟩
  rw [Below.heap_alloc _ _ _ (by rw [size_set, size_set]; exact lx), Lib.heap_setCell_same (Lib.heap_setCell_same h _)]
  rfl
theorem rowA {k K at_ : Nat} {S : List Bool} (h0 : 1 ≤ at_) (h1 : at_ ≤ k) (hl : S.length = (rowL K k).length) (h : ∀ x, On S x ↔ Rch (rowL K k).length (tv [⟨5, (at_ : Int), ⟨#[]⟩⟩, ⟨3, 1, ⟨#[]⟩⟩, ⟨5, (k : Int) + 5, ⟨#[]⟩⟩]) (outL (rowL K k)) x) : addrs S = (List.range (k + 1 - at_)).map (at_ + ·) := by
  rw [rowL_len] at *
  have e : tv [⟨5, (at_ : Int), ⟨#[]⟩⟩, ⟨3, 1, ⟨#[]⟩⟩, ⟨5, (k : Int) + 5, ⟨#[]⟩⟩] = [(at_ : Int), (k : Int) + 5] := by simp [tv, to1]
  refine addrs_of h0 (by omega) fun x => ?_
  rw [h x, e]
  exact row_reach h0 h1 (rowL_out K k) (fun x h2 h3 => by simp; omega) x
theorem rowN {k K : Nat} {S : List Bool} (h : ∀ x, On S x ↔ Rch (rowL K k).length (tv []) (outL (rowL K k)) x) : addrs S = [] := by
  refine addrs_none fun x hx => ?_
  have := (h x).1 hx
  have key : ∀ x, ¬ Rch (rowL K k).length (tv []) (outL (rowL K k)) x := fun x hx => by
    induction hx with
    | root a b c => simp [tv] at a
    | step a b c d ih => exact ih
  exact key x this
set_option maxRecDepth 100000 in
set_option maxHeartbeats 4000000 in
theorem hrows_walk (n m q : Int) (w : World) (hn : 0 ≤ n ∧ n ≤ 255) (hm : 0 ≤ m ∧ m ≤ 255) (hq : 0 ≤ q ∧ q ≤ 255) :
    Calls Try.prog 5 #[.int .u8 n, .int .u8 m, .int .u8 q] w fun e w' => e = .returned (.bool true) ∧ Below w.heap.size w w' := by
  obtain ⟨hn0, hn1⟩ := hn
  obtain ⟨hm0, hm1⟩ := hm
  obtain ⟨hq0, hq1⟩ := hq
  obtain ⟨k0, hk0⟩ := Int.eq_ofNat_of_zero_le (show 0 ≤ n % 40 by omega)
  obtain ⟨m0, rfl⟩ := Int.eq_ofNat_of_zero_le hm0
  obtain ⟨K, hK⟩ := Int.eq_ofNat_of_zero_le (show 0 ≤ q % 4 by omega)
  have hK4 : K < 4 := by omega
  have HQ : Hid (q % 4 = (K : Int)) := hK
  have hk1 : k0 < 40 := by omega
  have HN : Hid (n % 40 = (k0 : Int)) := hk0
  clear hk0 hK
  obtain ⟨k, hk, hka, hkb⟩ : ∃ k : Nat, 1 + (k0 : Int) = (k : Int) ∧ 1 ≤ k ∧ k ≤ 40 := ⟨1 + k0, by push_cast; rfl, by omega, by omega⟩
  have HK0 : Hid (1 + (k0 : Int) = (k : Int)) := hk
  have hkk : (k : Int) ≠ 0 := by omega
  obtain ⟨at_, hat, hata, hatb⟩ : ∃ at_ : Nat, 1 + (m0 : Int) % (k : Int) = (at_ : Int) ∧ 1 ≤ at_ ∧ at_ ≤ k := ⟨1 + m0 % k, by push_cast; rfl, by omega, by have := Nat.mod_lt m0 (show 0 < k by omega); omega⟩
  have HAT : Hid (1 + (m0 : Int) % (k : Int) = (at_ : Int)) := hat
  have hmod1 : 0 ≤ (m0 : Int) % (k : Int) := by omega
  have hmod2 : (m0 : Int) % (k : Int) < 40 := by omega
  clear hk hk1 hat
  go_enter Try.func5, Try.ntmps5
  go_upto_region 2 with fail
  rw [HN.out, HK0.out]
  go_wp2_with fail
  rw [HAT.out]
  clear HN HK0 HAT hn0 hn1 hmod1 hmod2
  go_loopw [9, 10] (fun v i wr => ∃ j : Nat, i = .int .i64 ((j : Int) + 1) ∧ j ≤ k ∧ Hid (OC w.heap.size wr v (rowL K j)) ∧ Hid (Below w.heap.size w wr)) (fun _ i _ => k + 1 - (intOf i).toNat)
  case atStart => exact ⟨0, rfl, by omega, OC.nil _ _, Below.refl _ _⟩
  case round =>
    obtain ⟨j, rfl, hj, HO, HB⟩ := hrel
    obtain ⟨a, cap, rfl⟩ := HO.out.form
    rw [rowL_len] at *
    by_cases hlt : j < k
    · have hlt' : (j : Int) + 1 ≤ (k : Int) := by omega
      have hx := heap_alloc_new wr (.cells #[.int .i64 2, .int .i64 0, .int .i64 0, .slice none 0 0, .slice none 0 0] 30)
      have HB1 : Hid (Below wr.heap.size wr (wr.alloc (.cells #[.int .i64 2, .int .i64 0, .int .i64 0, .slice none 0 0, .slice none 0 0] 30))) := (Below.refl _ _).alloc (Nat.le_refl _) _
      have HX : Hid ((wr.alloc (.cells #[.int .i64 2, .int .i64 0, .int .i64 0, .slice none 0 0, .slice none 0 0] 30)).heap[wr.heap.size]? = some (.cells #[.int .i64 2, .int .i64 0, .int .i64 0, .slice none 0 0, .slice none 0 0] 30 (0, 0))) := hx
      have HZ : Hid (w.heap.size ≤ wr.heap.size) := HB.out.size
      have HO1 : Hid (∀ W, Below wr.heap.size wr W → OC w.heap.size W (.slice a j cap) (rowL K j)) := fun W hW => HO.out.keep (S := []) (keepB HB.out.size hW) (by simp) (by simp)
      clear hx
      go_upto_block 2 with fail
      rw [HQ.out]
      generalize hw1 : (wr.alloc (.cells #[.int .i64 2, .int .i64 0, .int .i64 0, .slice none 0 0, .slice none 0 0] 30)) = w1 at *
      generalize hq0 : wr.heap.size = q0 at *
      have HS1 : Hid (w1.heap.size = q0 + 1) := (show _ = _ from by rw [← hw1, ← hq0]; simp)
      have HQ0 : Hid (wr.heap.size = q0) := hq0
      clear hw1 hq0
      obtain ⟨x0, x1, x2, x3, x4, y0, y1, y2, y3, y4, lx⟩ := blk5 HX.out
      go_cut [] (fun wx => ∃ vK vV, Hid (wx.heap[q0]? = some (.cells #[.int .i64 (rowC K (j + 1)).kind, .int .i64 (rowC K (j + 1)).a, .int .i64 (rowC K (j + 1)).b, vK, vV] 30 (0, 0))) ∧ Hid (Parts w.heap.size wx vK vV (rowC K (j + 1))) ∧ Hid (Below q0 wr wx))
      case first =>
        obtain rfl | rfl | rfl | rfl : K = 0 ∨ K = 1 ∨ K = 2 ∨ K = 3 := by omega
        · go_wp2_with fail
          go_meet
          case rel =>
            obtain ⟨r1, r2⟩ := rowW0 (base := w.heap.size) (by have := HS1.out; have := HZ.out; omega) (j + 1) HX.out
            rw [show ((j + 1 : Nat) : Int) = (j : Int) + 1 by push_cast; rfl] at r1 r2
            exact ⟨_, _, r1, r2, (HB1.out.setCell (Nat.le_refl _) _).alloc (by rw [size_set, HS1.out]; omega) _⟩
        · go_wp2_with fail
          go_meet
          case rel => exact ⟨.slice none 0 0, .slice none 0 0, (show _ = _ from by rw [Lib.heap_setCell_same (Lib.heap_setCell_same HX.out _)]; simp [rowC]), Parts.nil _ _ _ _ _, (HB1.out.setCell (Nat.le_refl _) _).setCell (Nat.le_refl _) _⟩
        · go_wp2_with fail
          go_meet
          case rel => exact ⟨.slice none 0 0, .slice none 0 0, (show _ = _ from by rw [Lib.heap_setCell_same (Lib.heap_setCell_same (Lib.heap_setCell_same HX.out _) _)]; simp [rowC]), Parts.nil _ _ _ _ _, ((HB1.out.setCell (Nat.le_refl _) _).setCell (Nat.le_refl _) _).setCell (Nat.le_refl _) _⟩
        · go_wp2_with fail
          go_meet
          case rel =>
            obtain ⟨r1, r2⟩ := rowW3 (base := w.heap.size) (by have := HS1.out; have := HZ.out; omega) (j + 1) HX.out
            rw [show ((j + 1 : Nat) : Int) = (j : Int) + 1 by push_cast; rfl] at r1 r2
            exact ⟨_, _, r1, r2, ((HB1.out.setCell (Nat.le_refl _) _).setCell (Nat.le_refl _) _).alloc (by rw [size_set, size_set, HS1.out]; omega) _⟩
      case rest =>
        clear x0 x1 x2 x3 x4 y0 y1 y2 y3 y4 lx HX HB1
        obtain ⟨vK, vV, HXc, HPc, HBc⟩ := hcut
        have hoc := HO1.out wc HBc.out
        obtain ⟨aK, kK, rfl, -⟩ := id HPc.out.1
        obtain ⟨aV, kV, rfl, -⟩ := id HPc.out.2.1
        have HBw : Hid (Below w.heap.size w wc) := HB.out.trans (HBc.out.mono HZ.out)
        obtain ⟨x0, x1, x2, x3, x4, y0, y1, y2, y3, y4, lx⟩ := blk5 HXc.out
        have k1 : Keep [] w.heap.size wc (wc.alloc (.cells #[.int .i64 (rowC K (j + 1)).kind, .int .i64 (rowC K (j + 1)).a, .int .i64 (rowC K (j + 1)).b, .slice aK (rowC K (j + 1)).keys.length kK, .slice aV (rowC K (j + 1)).vals.length kV] 30)) := keepB HBw.out.size ((Below.refl _ _).alloc (Nat.le_refl _) _)
        obtain ⟨a3, cap3, w3, hr, ho, hk⟩ := (hoc.keep k1 (by simp) (by simp)).push (Nat.le_trans HBw.out.size k1.size) (by rw [rowL_len]; omega) (c := rowC K (j + 1)) (heap_alloc_new _ _) (HPc.out.keep k1 (by simp)) 22
        rw [rowL_len] at hr ho
        have HR : Hid (_) := hr
        have HO3 : Hid (OC w.heap.size w3 (.slice a3 (j + 1) cap3) (rowL K (j + 1))) := (show OC _ _ _ _ from by rw [rowL_succ]; exact ho)
        have HB3 : Hid (Below w.heap.size w w3) := (HBw.out.trans k1.bel).trans hk.bel
        clear hr ho hk k1 hoc HO HB HO1 HXc HPc HBc HBw
        generalize rowC K (j + 1) = c at *
        generalize c.keys.length = nK at *
        generalize c.vals.length = nV at *
        go_wp2_with (at_builtin; refine wpList_append_run _ _ 22 rfl rfl _ _ _ _ rfl rfl HR.out ?_)
        go_roundw
        case rel => exact ⟨j + 1, by go_num, by omega, HO3, HB3⟩
        case measure => simp [intOf]; omega
    · have hj2 : j = k := by omega
      subst hj2
      have hlt' : ¬ ((j : Int) + 1 ≤ (j : Int)) := by omega
      have k4 : Keep [] w.heap.size wr (wr.alloc (.cells #[.int .i64 5, .int .i64 (at_ : Int), .string ⟨#[]⟩, .int .i64 3, .int .i64 1, .string ⟨#[]⟩, .int .i64 5, .int .i64 ((j : Int) + 5), .string ⟨#[]⟩] 46)) := keepB HB.out.size ((Below.refl _ _).alloc (Nat.le_refl _) _)
      have hO4 := HO.out.keep k4 (by simp) (by simp)
      have hV4 := vals_new (base := w.heap.size) (w := wr) (arr := #[.int .i64 5, .int .i64 (at_ : Int), .string ⟨#[]⟩, .int .i64 3, .int .i64 1, .string ⟨#[]⟩, .int .i64 5, .int .i64 ((j : Int) + 5), .string ⟨#[]⟩]) (L := [⟨5, (at_ : Int), ⟨#[]⟩⟩, ⟨3, 1, ⟨#[]⟩⟩, ⟨5, (j : Int) + 5, ⟨#[]⟩⟩]) HB.out.size 3 rfl (fun i hi => by
        match i, hi with
        | 0, _ => exact ⟨rfl, rfl, rfl⟩
        | 1, _ => exact ⟨rfl, rfl, rfl⟩
        | 2, _ => exact ⟨rfl, rfl, rfl⟩
        | n + 3, hi => exact absurd hi (by simp))
      have hall : ∀ c, c ∈ rowL K j → c.vals.length ≤ 100000 := fun c hc => by
        unfold rowL at hc
        rw [List.mem_map] at hc
        obtain ⟨i, _, rfl⟩ := hc
        have := rowC_vals K (i + 1)
        omega
      have HR4 : Hid (_) := reach_any rfl hO4.cs (by rw [rowL_len]; omega) hall hV4.all (by simp)
      have HO4 : Hid (OC w.heap.size (wr.alloc (.cells #[.int .i64 5, .int .i64 (at_ : Int), .string ⟨#[]⟩, .int .i64 3, .int .i64 1, .string ⟨#[]⟩, .int .i64 5, .int .i64 ((j : Int) + 5), .string ⟨#[]⟩] 46)) (.slice a j cap) (rowL K j)) := hO4
      have HB4 : Hid (Below w.heap.size w (wr.alloc (.cells #[.int .i64 5, .int .i64 (at_ : Int), .string ⟨#[]⟩, .int .i64 3, .int .i64 1, .string ⟨#[]⟩, .int .i64 5, .int .i64 ((j : Int) + 5), .string ⟨#[]⟩] 46))) := HB.out.trans k4.bel
      have HALL : Hid (∀ c, c ∈ rowL K j → c.vals.length ≤ 100000) := hall
      clear k4 hO4 hV4 hall HO HB
      go_wp2_with fail
      generalize (wr.alloc (.cells #[.int .i64 5, .int .i64 (at_ : Int), .string ⟨#[]⟩, .int .i64 3, .int .i64 1, .string ⟨#[]⟩, .int .i64 5, .int .i64 ((j : Int) + 5), .string ⟨#[]⟩] 46)) = w4 at *
      generalize wr.heap.size = q3 at *
      refine Calls.mono HR4.out ?_
      rintro e w5 ⟨r5, A5, rfl, hN5, hA5, hB5⟩
      obtain ⟨S5, e5, l5, o5⟩ := hA5.out
      rw [rowA hata hatb l5 o5] at e5
      subst e5
      obtain ⟨g5, cap5, rfl, hg5, hl5, hc5⟩ := (nums_at hN5.out).resolve_left (fun h => by have := congrArg List.length h.1; simp at this; omega)
      have HL5 : Hid (((List.range (j + 1 - at_)).map (at_ + ·)).length = j + 1 - at_) := (show _ = _ from by simp)
      rw [HL5.out]
      have HC5 : Hid (∀ t : Nat, t < j + 1 - at_ → w5.cell? ⟨g5, t, none⟩ = some (.int .i64 ((at_ + t : Nat) : Int))) := fun t ht => hc5 t (at_ + t) (span_at ht)
      have HO5 : Hid (OC w.heap.size w5 (.slice a j cap) (rowL K j)) := HO4.out.keep (S := []) (keepB HB4.out.size hB5.out) (by simp) (by simp)
      have HB5 : Hid (Below w.heap.size w w5) := Below.chain HB4.out hB5.out HB4.out.size
      clear hc5 hN5 hA5 hB5 o5 l5 HR4 HO4 HB4 HL5
      have hsz : (j : Int) - (at_ : Int) + 1 = ((j + 1 - at_ : Nat) : Int) := by omega
      have hsub : (j : Int) - (at_ : Int) = ((j - at_ : Nat) : Int) := by omega
      obtain ⟨N, hN⟩ : ∃ N, j + 1 - at_ = N := ⟨_, rfl⟩
      have hN2 : N ≤ 40 := by omega
      have hN3 : ((j - at_ : Nat) : Int) + 1 = (N : Int) := by omega
      have HN' : Hid (j + 1 - at_ = N) := hN
      rw [hN] at *
      have HR6 : Hid (_) := reach_any rfl HO5.out.cs (by rw [rowL_len]; omega) HALL.out (Vals.nil _ _) (by simp)
      clear hN hsz
      go_wp2_with fail
      go_loop [13] (fun i => ∃ t : Nat, i = .int .i64 (t : Int) ∧ t ≤ N) (fun i => N - (intOf i).toNat)
      case atStart => exact ⟨0, rfl, by omega⟩
      case round =>
        obtain ⟨t, rfl, ht⟩ := hrel
        by_cases hlt3 : t < N
        · have hlt4 : (t : Int) < (N : Int) := by omega
          have c0 := HC5.out t (by have := HN'.out; omega)
          rw [show ((at_ + t : Nat) : Int) = (at_ : Int) + (t : Int) by push_cast; rfl] at c0
          go_wp2_with fail
          go_round
          case rel => exact ⟨t + 1, by go_num, by omega⟩
          case measure => simp [intOf]; omega
        · have ht2 : t = N := by omega
          subst ht2
          have hlt4 : ¬ ((t : Int) < (t : Int)) := by omega
          go_wp2_with fail
          refine Calls.mono HR6.out ?_
          rintro e w7 ⟨r7, A7, rfl, hN7, hA7, hB7⟩
          obtain ⟨S7, e7, l7, o7⟩ := hA7.out
          rw [rowN o7] at e7
          subst e7
          obtain ⟨a7, cap7, rfl⟩ := nums_form hN7.out
          have HB7 : Hid (Below w.heap.size w w7) := Below.chain HB5.out hB7.out HB5.out.size
          clear hN7 hA7 hB7 o7 l7 HR6 HB5 HO5
          go_wp2_with (first | (go_at_call 10; refine Calls.mono (hawake_any _) ?_; rintro e w12 ⟨rfl, HB12⟩))
          go_ret
          exact ⟨rfl, Below.chain HB7.out HB12 HB7.out.size⟩
end Go.Proofs.Ytmipgpkeegggpaa.P
