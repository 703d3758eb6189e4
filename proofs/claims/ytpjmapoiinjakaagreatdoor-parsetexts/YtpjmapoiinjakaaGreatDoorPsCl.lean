/- Texts: PsCl. -/
import Derived.Test.YtpjmapoiinjakaaGreatDoorBn09
namespace Go.Proofs.YtpjmapoiinjakaaGreatDoor.R
open Go.RowKit
open L (tkA)
set_option linter.unusedVariables false
/-- A row of levels of one sign each lies from an address on. -/
def LgIn (F : Nat → Prop) (W : World) (g off : Nat) (R : List (List UInt8 × Nat)) : Prop := F g ∧ g < W.heap.size ∧ ∀ j (h : j < R.length), W.cell? ⟨g, off + 2 * j, none⟩ = some (.string ⟨R[j].1.toArray⟩) ∧ W.cell? ⟨g, off + 2 * j + 1, none⟩ = some (.int .i64 (R[j].2 : Int))
theorem LgIn.same {F : Nat → Prop} {W W' : World} {g off : Nat} {R : List (List UInt8 × Nat)} (h : LgIn F W g off R) (hs : W.heap.size ≤ W'.heap.size) (hb : ∀ k, F k → k < W.heap.size → W'.heap[k]? = W.heap[k]?) : LgIn F W' g off R :=
  ⟨h.1, Nat.lt_of_lt_of_le h.2.1 hs, fun j hj => ⟨(cell_of_block (hb g h.1 h.2.1) _).trans (h.2.2 j hj).1, (cell_of_block (hb g h.1 h.2.1) _).trans (h.2.2 j hj).2⟩⟩
theorem LgIn.tail {F : Nat → Prop} {W : World} {g off : Nat} {x : List UInt8 × Nat} {R : List (List UInt8 × Nat)} (h : LgIn F W g off (x :: R)) : LgIn F W g (off + 2) R :=
  ⟨h.1, h.2.1, fun j hj => by
    have := h.2.2 (j + 1) (by simpa using hj)
    rw [show off + 2 + 2 * j = off + 2 * (j + 1) by omega]
    simpa using this⟩
theorem LgIn.more {F F' : Nat → Prop} {W : World} {g off : Nat} {R : List (List UInt8 × Nat)} (h : LgIn F W g off R) (hF : ∀ k, F k → F' k) : LgIn F' W g off R := ⟨hF _ h.1, h.2⟩
/-- What is held while a node is asked for. -/
def HeldL (g off : Nat) (x0 x1 : Value) (wr W : World) : Prop := W.cell? ⟨g, off, none⟩ = some x0 ∧ W.cell? ⟨g, off + 1, none⟩ = some x1 ∧ Hid (g < wr.heap.size ∧ Below wr.heap.size wr W)
theorem HeldL.go {g off : Nat} {x0 x1 : Value} {wr W W' : World} (h : HeldL g off x0 x1 wr W) (hb : Below W.heap.size W W') : HeldL g off x0 x1 wr W' := by
  obtain ⟨a, b, c⟩ := h
  have hg : g < W.heap.size := Nat.lt_of_lt_of_le c.out.1 c.out.2.size
  exact ⟨(hb.cell (p := ⟨g, off, none⟩) hg).trans a, (hb.cell (p := ⟨g, off + 1, none⟩) hg).trans b, ⟨c.out.1, c.out.2.trans (hb.mono c.out.2.size)⟩⟩
theorem HeldL.bel {g off : Nat} {x0 x1 : Value} {wr W : World} (h : HeldL g off x0 x1 wr W) : Below wr.heap.size wr W := h.2.2.out.2
theorem HeldL.drew {g off : Nat} {x0 x1 : Value} {wr W : World} (h : HeldL g off x0 x1 wr W) : HeldL g off x0 x1 wr W.drew := h.go (Below.refl _ _).drew
theorem HeldL.alloc {g off : Nat} {x0 x1 : Value} {wr W : World} (h : HeldL g off x0 x1 wr W) (o : Obj) : HeldL g off x0 x1 wr (W.alloc o) := h.go ((Below.refl _ _).alloc (Nat.le_refl _) _)
theorem HeldL.set6 {g off : Nat} {x0 x1 : Value} {wr W : World} (h : HeldL g off x0 x1 wr W) {X : Nat} (hX : wr.heap.size ≤ X) (y0 y1 y2 y3 y4 y5 : Value) : HeldL g off x0 x1 wr ((((((W.setCell ⟨X, 0, none⟩ y0).setCell ⟨X, 1, none⟩ y1).setCell ⟨X, 2, none⟩ y2).setCell ⟨X, 3, none⟩ y3).setCell ⟨X, 4, none⟩ y4).setCell ⟨X, 5, none⟩ y5) := by
  obtain ⟨a, b, c⟩ := h
  have hk : ∀ (W : World) i y, (W.setCell ⟨X, i, none⟩ y).heap[g]? = W.heap[g]? := fun W i y => Below.heap_setCell W ⟨X, i, none⟩ y g (by show g ≠ X; have := c.out.1; omega)
  have hc : ∀ o, ((((((W.setCell ⟨X, 0, none⟩ y0).setCell ⟨X, 1, none⟩ y1).setCell ⟨X, 2, none⟩ y2).setCell ⟨X, 3, none⟩ y3).setCell ⟨X, 4, none⟩ y4).setCell ⟨X, 5, none⟩ y5).cell? ⟨g, o, none⟩ = W.cell? ⟨g, o, none⟩ := fun o => cell_of_block (by rw [hk, hk, hk, hk, hk, hk]) o
  exact ⟨(hc _).trans a, (hc _).trans b, ⟨c.out.1, below_set6 c.out.2 hX y0 y1 y2 y3 y4 y5⟩⟩
/-- The row's value. -/
def LgV (F : Nat → Prop) (W : World) (rv : Value) : List (List UInt8 × Nat) → Prop
  | [] => ∃ ad, rv = .slice ad 0 0
  | x :: R' => ∃ g off, rv = .slice (some ⟨g, off, none⟩) (R'.length + 1) (R'.length + 1) ∧ LgIn F W g off (x :: R')
/-- Where the loop of a chain stands. -/
structure LgL (F : Nat → Prop) (base B dep : Nat) (lv : List UInt8 → Option Ps.Nd) (sub : Ps.M Nat) (nv : Value) (w W : World) (g off : Nat) (R : List (List UInt8 × Nat)) (left : Nat) (s1 : Ps.St) (r : Nat) (s' : Ps.St) : Prop where
  som : Som F base B dep s1 nv w W
  row : LgIn F W g off R
  run : ∃ f, Ru (Ps.chainLoop lv sub f left) s1 r s' ∧ s1.toks.length ≤ f
  lt : left < s1.nodes.length
set_option maxRecDepth 100000 in
set_option maxHeartbeats 4000000 in
/-- One level, out of the levels behind it (last). -/
theorem logic_last {base B dep : Nat} {part : Ps.M Nat} (gr : Ps.Gr part) (ix : Ps.Ix part) (sh : Ps.Sh part) {x : (List UInt8 × Nat)} {R : List (List UInt8 × Nat)} {n : Nat} (hne : x.1 ≠ []) (hn : R.length = n) (hn1 : n = 0) (hn2 : n ≤ 10) {F : Nat → Prop} {s s' : Ps.St} {r : Nat} {nv : Value} {w : World} {g off : Nat}
    (IH : Hid (∀ {F : Nat → Prop} {s s' : Ps.St} {r : Nat} {nv : Value} {w : World}, Ru (Ps.chain part (R.map fun x => Ps.logic x.1 x.2)) s r s' → RS F base B dep s nv w → LgIn F w g off (x :: R) → Calls Tryz.prog 116 #[.pointer (some ⟨B, 0, none⟩), .slice (some ⟨g, off, none⟩) 0 0, .func (.func 118) #[.pointer (some ⟨B, 0, none⟩)] #[]] w (Tells F base B dep nv w s' (.int .i64 (r : Int)))))
    (E : Ru (Ps.chain part ((x :: R).map fun x => Ps.logic x.1 x.2)) s r s') (h : RS F base B dep s nv w) (hrow : LgIn F w g off (x :: R)) :
    Calls Tryz.prog 116 #[.pointer (some ⟨B, 0, none⟩), .slice (some ⟨g, off, none⟩) 1 1, .func (.func 118) #[.pointer (some ⟨B, 0, none⟩)] #[]] w (Tells F base B dep nv w s' (.int .i64 (r : Int))) := by
  obtain ⟨y0, s1, E0, E1⟩ := chain_ru gr E
  have H : Hid (_) := h
  have HROW : Hid (LgIn F w g off (x :: R)) := hrow
  have HMT : ∀ (v : Value) (W : World), (method 235 108 v "boomerang/parse.node").run Tryz.prog W = .ok (151, v) W := fun _ _ => by kernel_rfl
  skip
  go_enter Tryz.func116, Tryz.ntmps116
  go_wp2_with fail
  refine Calls.mono (IH.out E0 H.out HROW.out) ?_
  rintro e w1 ⟨rfl, nv1, hr1, hc1⟩
  have HSTART : Hid (LgL F base B dep (Ps.logic x.1 x.2) (Ps.chain part (R.map fun x => Ps.logic x.1 x.2)) nv w w1 g off (x :: R) y0 s1 r s') := (show LgL _ _ _ _ _ _ _ _ _ _ _ _ _ _ _ _ from ⟨⟨nv1, hr1, hc1⟩, HROW.out.same hc1.size (fun k hk _ => H.out.keepF hc1 hk), ⟨_, E1, Nat.le_refl _⟩, by
    have := Ps.ix_chain ix (R.map fun x => Ps.logic x.1 x.2) s
    rw [E0.eq] at this; exact this⟩)
  clear hr1 hc1 E0 E1 E h hrow
  go_wp2_with fail
  go_loopw [7] (fun l W => ∃ (left : Nat) (s1 : Ps.St), l = .int .i64 (left : Int) ∧ Hid (LgL F base B dep (Ps.logic x.1 x.2) (Ps.chain part (R.map fun x => Ps.logic x.1 x.2)) nv w W g off (x :: R) left s1 r s')) (fun _ W => tokN B W)
  case atStart => exact ⟨y0, s1, rfl, HSTART⟩
  case round =>
    obtain ⟨left, s2, rfl, HI⟩ := hrel
    clear HSTART
    obtain ⟨nv2, hr2, hc2⟩ := HI.out.som
    obtain ⟨f, hrun, hf⟩ := HI.out.run
    have hg := hr2.good
    have HT0 : Hid (_) := hr2.tokN
    obtain ⟨f, rfl⟩ : ∃ f', f = f' + 1 := ⟨f - 1, by have := hg.one; omega⟩
    have hR := chainLoop_ru (Ps.gr_chain gr _) hrun
    have hrow := HI.out.row.2.2 0 (by simp)
    have hc0 := hrow.1
    have hc1 := hrow.2
    simp only [Nat.mul_zero, Nat.add_zero, List.getElem_cons_zero] at hc0 hc1
    have HR2 : Hid (_) := hr2
    have HC2 : Hid (_) := hc2
    have HLT : Hid (_) := HI.out.lt
    have HRW : Hid (LgIn F wr g off (x :: R)) := HI.out.row
    have HG : Hid (_) := hg
    generalize hm : Ps.mark s2 = m at *
    obtain ⟨x1, x2⟩ := x
    simp only at *
    have HM : Hid (∀ W, HeldL g off (.string ⟨x1.toArray⟩) (.int .i64 (x2 : Int)) wr W → Calls Tryz.prog 52 #[.pointer (some ⟨B, 0, none⟩)] W fun e w' => e = .returned (.string ⟨m.toArray⟩) ∧ HeldL g off (.string ⟨x1.toArray⟩) (.int .i64 (x2 : Int)) wr w' ∧ (∀ p : Addr, p.block < W.heap.size → w'.cell? p = W.cell? p) ∧ (∀ p : Addr, p.block < W.heap.size → w'.frozen? p = W.frozen? p) ∧ W.heap.size ≤ w'.heap.size ∧ Hid (Below W.heap.size W w')) := fun W hW => by
      refine (mark_any (HR2.out.below hW.bel)).mono ?_
      rintro e w' ⟨rfl, hb⟩
      rw [hm]
      exact ⟨rfl, hW.go hb, fun p hp => hb.cell hp, fun p hp => hb.frozen hp, hb.size, hb⟩
    have HN : Hid (∀ W, HeldL g off (.string ⟨x1.toArray⟩) (.int .i64 (x2 : Int)) wr W → Calls Tryz.prog 151 #[.agg #[.string ⟨x1.toArray⟩, .int .i64 (x2 : Int)], .string ⟨m.toArray⟩] W fun e w' => e = .returned (.tuple #[(.agg #[.int .i64 (x2 : Int), .int .i64 0, .string ⟨#[]⟩, .slice none 0 0, .slice none 0 0, .int .i64 0]), .bool (decide (m = x1))]) ∧ HeldL g off (.string ⟨x1.toArray⟩) (.int .i64 (x2 : Int)) wr w' ∧ (∀ p : Addr, p.block < W.heap.size → w'.cell? p = W.cell? p) ∧ (∀ p : Addr, p.block < W.heap.size → w'.frozen? p = W.frozen? p) ∧ W.heap.size ≤ w'.heap.size ∧ Hid (Below W.heap.size W w')) := fun W hW => by
      refine (logic_any (w := W) x1 x2 m).mono ?_
      rintro e w' ⟨rfl, hb⟩
      exact ⟨rfl, hW.go hb, fun p hp => hb.cell hp, fun p hp => hb.frozen hp, hb.size, hb⟩
    have hS0 : HeldL g off (.string ⟨x1.toArray⟩) (.int .i64 (x2 : Int)) wr wr := ⟨hc0, hc1, ⟨HRW.out.2.1, Below.refl _ _⟩⟩
    clear hrun hr2 hc2 hg hc0 hc1 HI
    by_cases hcm : m = x1
    · obtain ⟨nd, T, s3, y, s4, o, s5, hl, E1, E2, E3, E4⟩ := hR.resolve_left (fun h => by
        have := h.1
        rw [show (Ps.logic x1 x2) m = some _ from (by unfold Ps.logic; rw [if_pos hcm])] at this; cases this)
      have hnd : nd = { k := x2 } := by
        rw [show (Ps.logic x1 x2) m = some _ from (by unfold Ps.logic; rw [if_pos hcm])] at hl
        exact (Option.some.inj hl).symm
      subst hnd
      have HNE : Hid (m ≠ []) := (show m ≠ [] from by rw [hcm]; exact hne)
      have HF : Hid (_) := hf
      rw [decide_eq_true hcm] at HN
      clear hR hl hf hcm
      go_upto_region 4 with fail
      go_cut [8, 9] (fun p b wx => ∃ X, p = .pointer (some ⟨X, 0, none⟩) ∧ b = .bool true ∧ Hid (CutR wr wx X #[.int .i64 (x2 : Int), .int .i64 0, .string ⟨#[]⟩, .slice none 0 0, .slice none 0 0, .int .i64 0]))
      case first =>
        go_region_held3 (fun W => W.cell? ⟨g, off, none⟩ = some (.string ⟨x1.toArray⟩) ∧ W.cell? ⟨g, off + 1, none⟩ = some (.int .i64 (x2 : Int)) ∧ Hid (g < wr.heap.size ∧ Below wr.heap.size wr W)) ((show HeldL g off (.string ⟨x1.toArray⟩) (.int .i64 (x2 : Int)) wr _; repeat (first | with_reducible assumption | with_reducible refine HeldL.drew ?_ | with_reducible refine HeldL.alloc ?_ _ | with_reducible refine HeldL.set6 ?_ (by first | exact Nat.le_refl _ | assumption | simp) _ _ _ _ _ _))) (first | (go_at_call 52; refine Calls.mono (HM.out _ (by repeat (first | with_reducible assumption | with_reducible refine HeldL.drew ?_ | with_reducible refine HeldL.alloc ?_ _))) ?_; rintro e w7 ⟨rfl, hW7, hp7, hf7, hs7, HB7⟩; have hq7 := hW7.bel.size; first | (have hl7 := lt_alloc hs7) | skip) | (go_at_call 151; refine Calls.mono (HN.out _ (by repeat (first | with_reducible assumption | with_reducible refine HeldL.drew ?_ | with_reducible refine HeldL.alloc ?_ _))) ?_; rintro e w8 ⟨rfl, hW8, hp8, hf8, hs8, HB8⟩; first | (have hl8 := lt_alloc hs8) | (have hl8 := Nat.lt_of_lt_of_le hl7 hs8) | skip))
        all_goals
          go_wp2_with fail
          go_meet
          case rel => exact ⟨_, rfl, rfl, (show CutR _ _ _ _ from by first | with_reducible exact CutR.new hW8.bel _ | with_reducible exact CutR.old hW8.bel hq7 ((BoxAt.new _ _).below HB8.out) rfl _ _ _ _ _ _ | with_reducible exact CutR.old hW8.bel (Nat.le_refl _) (((BoxAt.new _ _).below HB7.out).below HB8.out) rfl _ _ _ _ _ _ | with_reducible exact CutR.old hW8.bel (Nat.le_refl _) (((BoxAt.new _ _).drew.below HB7.out).below HB8.out) rfl _ _ _ _ _ _)⟩
      case rest =>
        obtain ⟨X, rfl, rfl, HCUT⟩ := hcut
        obtain ⟨nv3, hr3, hc3⟩ := Som.beside ⟨_, HR2.out, HC2.out⟩ HCUT.out.2.2.2 HCUT.out.1 HCUT.out.2.1
        have HX : Hid (Six (fun k => F k ∨ k = X) X (.int .i64 (x2 : Int)) (.int .i64 0) (.string ⟨#[]⟩) (.slice none 0 0) (.slice none 0 0) (.int .i64 0) wc) := Six.of HCUT.out.2.2.1 (.inr rfl)
        have HRW3 : Hid (LgIn F wc g off ((x1, x2) :: R)) := HRW.out.same HCUT.out.2.2.2.size (fun k _ hk => HCUT.out.2.2.2.block k hk)
        have HR3 : Hid (_) := hr3
        have HC3 : Hid (_) := hc3
        clear hr3 hc3 HCUT HM HN hS0 HMT HR2 HC2 HRW
        go_wp2_with fail
        refine Calls.mono (c_skip E1 HR3.out) ?_
        rintro e w3 ⟨rfl, nv4, hr4, hc4⟩
        have hX4 : Six (fun k => F k ∨ k = X) X (.int .i64 (x2 : Int)) (.int .i64 0) (.string ⟨#[]⟩) (.slice none 0 0) (.slice none 0 0) (.int .i64 0) w3 := HX.out.call HR3.out hc4
        have HP4 : Hid (Som (fun k => F k ∨ k = X) base B dep s3 nv w w3 ∧ LgIn F w3 g off ((x1, x2) :: R)) := ⟨⟨nv4, hr4, HC3.out.trans hc4⟩, HRW3.out.same hc4.size (fun k hF _ => HR3.out.keepF hc4 (.inl hF))⟩
        have HCH : Hid (∀ W, Hid (Som (fun k => F k ∨ k = X) base B dep s3 nv w W ∧ LgIn F W g off ((x1, x2) :: R)) → Six (fun k => F k ∨ k = X) X (.int .i64 (x2 : Int)) (.int .i64 0) (.string ⟨#[]⟩) (.slice none 0 0) (.slice none 0 0) (.int .i64 0) W → Calls Tryz.prog 116 #[.pointer (some ⟨B, 0, none⟩), .slice (some ⟨g, off, none⟩) 0 0, .func (.func 118) #[.pointer (some ⟨B, 0, none⟩)] #[]] W fun e w' => e = .returned (.int .i64 (y : Int)) ∧ Six (fun k => F k ∨ k = X) X (.int .i64 (x2 : Int)) (.int .i64 0) (.string ⟨#[]⟩) (.slice none 0 0) (.slice none 0 0) (.int .i64 0) w' ∧ Hid (Som (fun k => F k ∨ k = X) base B dep s4 nv w w' ∧ LgIn F w' g off ((x1, x2) :: R))) := fun W hP hX => by
          obtain ⟨⟨nv5, hr5, hc5⟩, hrw⟩ := hP.out
          refine (IH.out E2 hr5 (hrw.more fun k hk => .inl hk)).mono ?_
          rintro e w' ⟨rfl, nv6, hr6, hc6⟩
          exact ⟨rfl, hX.call hr5 hc6, ⟨⟨nv6, hr6, hc5.trans hc6⟩, hrw.same hc6.size (fun k hF _ => hr5.keepF hc6 (.inl hF))⟩⟩
        have HOV : Hid (∀ W, Hid (Som (fun k => F k ∨ k = X) base B dep s4 nv w W ∧ LgIn F W g off ((x1, x2) :: R)) → Six (fun k => F k ∨ k = X) X (.int .i64 (x2 : Int)) (.int .i64 0) (.string ⟨#[]⟩) (.slice none 0 0) (.slice none 0 0) (.int .i64 0) W → Calls Tryz.prog 103 #[.pointer (some ⟨B, 0, none⟩), (.agg #[.int .i64 (x2 : Int), .int .i64 0, .string ⟨#[]⟩, .slice none 0 0, .slice none 0 0, .int .i64 0]), .slice (some ⟨W.heap.size, 0, none⟩) 2 2] (W.alloc (.cells #[.int .i64 (left : Int), .int .i64 (y : Int)] 3)) fun e w' => e = .returned (.int .i64 (o : Int)) ∧ Six (fun k => F k ∨ k = X) X (.int .i64 (x2 : Int)) (.int .i64 0) (.string ⟨#[]⟩) (.slice none 0 0) (.slice none 0 0) (.int .i64 0) w' ∧ Hid (Som (fun k => F k ∨ k = X) base B dep s5 nv w w' ∧ LgIn F w' g off ((x1, x2) :: R))) := fun W hP hX => by
          obtain ⟨⟨nv5, hr5, hc5⟩, hrw⟩ := hP.out
          refine (c_over (k := x2) (t := []) E3 hr5 (by
            have h1 := HLT.out
            have h2 : s3.nodes = s2.nodes := by have := Ps.skip_n s2; rw [E1.eq] at this; exact this
            have h3 := Ps.gr_chain gr (R.map fun x => Ps.logic x.1 x.2) s3
            rw [E2.eq, h2] at h3
            exact Nat.lt_of_lt_of_le h1 h3) #[.int .i64 (left : Int), .int .i64 (y : Int)] 2 rfl (fun j hj => by
            have : j = 0 ∨ j = 1 := by simp at hj; omega
            rcases this with rfl | rfl <;> rfl)).mono ?_
          rintro e w' ⟨rfl, nv6, hr6, hc6⟩
          exact ⟨rfl, hX.call hr5 hc6, ⟨⟨nv6, hr6, hc5.trans hc6⟩, hrw.same hc6.size (fun k hF _ => hr5.keepF hc6 (.inl hF))⟩⟩
        have hX4' := hX4
        obtain ⟨p0, p1, p2, p3, p4, p5, hpf⟩ := hX4'
        clear hr4 hc4 HR3 HC3 HRW3 HX
        go_wp2_with fail
        go_region_held3 (fun W => W.cell? ⟨X, 0, none⟩ = some (.int .i64 (x2 : Int)) ∧ W.cell? ⟨X, 1, none⟩ = some (.int .i64 0) ∧ W.cell? ⟨X, 2, none⟩ = some (.string ⟨#[]⟩) ∧ W.cell? ⟨X, 3, none⟩ = some (.slice none 0 0) ∧ W.cell? ⟨X, 4, none⟩ = some (.slice none 0 0) ∧ W.cell? ⟨X, 5, none⟩ = some (.int .i64 0) ∧ Hid (FarX (fun k => F k ∨ k = X) X W)) ((show Six (fun k => F k ∨ k = X) X (.int .i64 (x2 : Int)) (.int .i64 0) (.string ⟨#[]⟩) (.slice none 0 0) (.slice none 0 0) (.int .i64 0) _; repeat (first | with_reducible assumption | with_reducible refine Six.drew ?_ | with_reducible refine Six.alloc ?_ _))) (first | (go_at_call 116; refine Calls.mono (HCH.out _ (by first | exact HP4 | exact ⟨HP4.out.1.drew, HP4.out.2⟩) (by repeat (first | with_reducible assumption | with_reducible refine Six.drew ?_))) ?_; rintro e w5 ⟨rfl, hX5, HP5⟩) | (go_at_call 103; refine Calls.mono (HOV.out _ HP5 hX5) ?_; rintro e w6 ⟨rfl, hX6, HP6⟩))
        go_wp2_with fail
        have HFU : Hid (s5.toks.length + 1 ≤ s2.toks.length ∧ s5.toks.length ≤ f ∧ o < s5.nodes.length) := (show _ ∧ _ ∧ _ from by
          have h1 := skip_fewer HG.out (hm ▸ HNE.out) E1.eq
          have g3 : Ps.Good s3 := by have := Ps.sh_skip s2 HG.out; rw [E1.eq] at this; exact this.good
          have h2 := Ps.sh_chain sh (R.map fun x => Ps.logic x.1 x.2) s3 g3
          rw [E2.eq] at h2
          have h3 := Ps.sh_over { k := x2 } [left, y] s4 h2.good
          rw [E3.eq] at h3
          have h4 := Ps.ix_over { k := x2 } [left, y] s4
          rw [E3.eq] at h4
          have h5 := h2.le
          have h6 := h3.le
          have h7 := HF.out
          simp only at h5 h6
          exact ⟨by omega, by omega, h4⟩)
        go_roundw
        case rel => exact ⟨o, s5, rfl, (show LgL _ _ _ _ _ _ _ _ _ _ _ _ _ _ _ _ from ⟨HP6.out.1.less (fun k hk => .inl hk), HP6.out.2, ⟨f, E4, HFU.out.2.1⟩, HFU.out.2.2⟩)⟩
        case measure =>
          obtain ⟨⟨nv6, hr6, _⟩, _⟩ := HP6.out
          have h1 := hr6.tokN
          have h2 := HT0.out
          have := HFU.out.1
          show _ < _
          rw [h1, h2]; omega
    · have hR' : r = left ∧ s' = s2 := by
        rcases hR with h | ⟨nd, T, s3, y, s4, o, s5, hl, _⟩
        · exact h.2
        · rw [show (Ps.logic x1 x2) m = none from (by unfold Ps.logic; rw [if_neg hcm])] at hl; cases hl
      obtain ⟨rfl, rfl⟩ := hR'
      rw [decide_eq_false hcm] at HN
      clear hR hcm hf
      go_upto_region 4 with fail
      go_cut [8, 9] (fun p b wx => ∃ X, p = .pointer (some ⟨X, 0, none⟩) ∧ b = .bool false ∧ Hid (CutR wr wx X #[.int .i64 (x2 : Int), .int .i64 0, .string ⟨#[]⟩, .slice none 0 0, .slice none 0 0, .int .i64 0]))
      case first =>
        go_region_held3 (fun W => W.cell? ⟨g, off, none⟩ = some (.string ⟨x1.toArray⟩) ∧ W.cell? ⟨g, off + 1, none⟩ = some (.int .i64 (x2 : Int)) ∧ Hid (g < wr.heap.size ∧ Below wr.heap.size wr W)) ((show HeldL g off (.string ⟨x1.toArray⟩) (.int .i64 (x2 : Int)) wr _; repeat (first | with_reducible assumption | with_reducible refine HeldL.drew ?_ | with_reducible refine HeldL.alloc ?_ _ | with_reducible refine HeldL.set6 ?_ (by first | exact Nat.le_refl _ | assumption | simp) _ _ _ _ _ _))) (first | (go_at_call 52; refine Calls.mono (HM.out _ (by repeat (first | with_reducible assumption | with_reducible refine HeldL.drew ?_ | with_reducible refine HeldL.alloc ?_ _))) ?_; rintro e w7 ⟨rfl, hW7, hp7, hf7, hs7, HB7⟩; have hq7 := hW7.bel.size; first | (have hl7 := lt_alloc hs7) | skip) | (go_at_call 151; refine Calls.mono (HN.out _ (by repeat (first | with_reducible assumption | with_reducible refine HeldL.drew ?_ | with_reducible refine HeldL.alloc ?_ _))) ?_; rintro e w8 ⟨rfl, hW8, hp8, hf8, hs8, HB8⟩; first | (have hl8 := lt_alloc hs8) | (have hl8 := Nat.lt_of_lt_of_le hl7 hs8) | skip))
        all_goals
          go_wp2_with fail
          go_meet
          case rel => exact ⟨_, rfl, rfl, (show CutR _ _ _ _ from by first | with_reducible exact CutR.new hW8.bel _ | with_reducible exact CutR.old hW8.bel hq7 ((BoxAt.new _ _).below HB8.out) rfl _ _ _ _ _ _ | with_reducible exact CutR.old hW8.bel (Nat.le_refl _) (((BoxAt.new _ _).below HB7.out).below HB8.out) rfl _ _ _ _ _ _ | with_reducible exact CutR.old hW8.bel (Nat.le_refl _) (((BoxAt.new _ _).drew.below HB7.out).below HB8.out) rfl _ _ _ _ _ _)⟩
      case rest =>
        obtain ⟨X, rfl, rfl, HCUT⟩ := hcut
        have HE : Hid (Som F base B dep s' nv w wc) := Som.below ⟨_, HR2.out, HC2.out⟩ HCUT.out.2.2.2
        clear HM HN hS0 HMT HR2 HC2 HRW
        go_wp2_with fail
        go_ret
        obtain ⟨nv9, hr9, hc9⟩ := HE.out
        exact ⟨rfl, nv9, hr9, hc9⟩
set_option maxRecDepth 100000 in
set_option maxHeartbeats 4000000 in
/-- One level, out of the levels behind it (more). -/
theorem logic_more {base B dep : Nat} {part : Ps.M Nat} (gr : Ps.Gr part) (ix : Ps.Ix part) (sh : Ps.Sh part) {x : (List UInt8 × Nat)} {R : List (List UInt8 × Nat)} {n : Nat} (hne : x.1 ≠ []) (hn : R.length = n) (hn1 : 1 ≤ n) (hn2 : n ≤ 10) {F : Nat → Prop} {s s' : Ps.St} {r : Nat} {nv : Value} {w : World} {g off : Nat}
    (IH : Hid (∀ {F : Nat → Prop} {s s' : Ps.St} {r : Nat} {nv : Value} {w : World}, Ru (Ps.chain part (R.map fun x => Ps.logic x.1 x.2)) s r s' → RS F base B dep s nv w → LgIn F w g off (x :: R) → Calls Tryz.prog 116 #[.pointer (some ⟨B, 0, none⟩), .slice (some ⟨g, off + 2, none⟩) n n, .func (.func 118) #[.pointer (some ⟨B, 0, none⟩)] #[]] w (Tells F base B dep nv w s' (.int .i64 (r : Int)))))
    (E : Ru (Ps.chain part ((x :: R).map fun x => Ps.logic x.1 x.2)) s r s') (h : RS F base B dep s nv w) (hrow : LgIn F w g off (x :: R)) :
    Calls Tryz.prog 116 #[.pointer (some ⟨B, 0, none⟩), .slice (some ⟨g, off, none⟩) (n + 1) (n + 1), .func (.func 118) #[.pointer (some ⟨B, 0, none⟩)] #[]] w (Tells F base B dep nv w s' (.int .i64 (r : Int))) := by
  obtain ⟨y0, s1, E0, E1⟩ := chain_ru gr E
  have H : Hid (_) := h
  have HROW : Hid (LgIn F w g off (x :: R)) := hrow
  have HMT : ∀ (v : Value) (W : World), (method 235 108 v "boomerang/parse.node").run Tryz.prog W = .ok (151, v) W := fun _ _ => by kernel_rfl
  have hz : ((n : Int) + 1 == 0) = false := by rw [beq_eq_false_iff_ne]; omega
  have hi0 : (0 : Int) < (n : Int) + 1 := by omega
  have hi1 : (1 : Int) ≤ (n : Int) + 1 := by omega
  have hz0 : (n == 0) = false := by rw [beq_eq_false_iff_ne]; omega
  have hn0 : ¬ n = 0 := by omega
  go_enter Tryz.func116, Tryz.ntmps116
  go_wp2_with fail
  refine Calls.mono (IH.out E0 H.out HROW.out) ?_
  rintro e w1 ⟨rfl, nv1, hr1, hc1⟩
  have HSTART : Hid (LgL F base B dep (Ps.logic x.1 x.2) (Ps.chain part (R.map fun x => Ps.logic x.1 x.2)) nv w w1 g off (x :: R) y0 s1 r s') := (show LgL _ _ _ _ _ _ _ _ _ _ _ _ _ _ _ _ from ⟨⟨nv1, hr1, hc1⟩, HROW.out.same hc1.size (fun k hk _ => H.out.keepF hc1 hk), ⟨_, E1, Nat.le_refl _⟩, by
    have := Ps.ix_chain ix (R.map fun x => Ps.logic x.1 x.2) s
    rw [E0.eq] at this; exact this⟩)
  clear hr1 hc1 E0 E1 E h hrow
  go_wp2_with fail
  go_loopw [7] (fun l W => ∃ (left : Nat) (s1 : Ps.St), l = .int .i64 (left : Int) ∧ Hid (LgL F base B dep (Ps.logic x.1 x.2) (Ps.chain part (R.map fun x => Ps.logic x.1 x.2)) nv w W g off (x :: R) left s1 r s')) (fun _ W => tokN B W)
  case atStart => exact ⟨y0, s1, rfl, HSTART⟩
  case round =>
    obtain ⟨left, s2, rfl, HI⟩ := hrel
    clear HSTART
    obtain ⟨nv2, hr2, hc2⟩ := HI.out.som
    obtain ⟨f, hrun, hf⟩ := HI.out.run
    have hg := hr2.good
    have HT0 : Hid (_) := hr2.tokN
    obtain ⟨f, rfl⟩ : ∃ f', f = f' + 1 := ⟨f - 1, by have := hg.one; omega⟩
    have hR := chainLoop_ru (Ps.gr_chain gr _) hrun
    have hrow := HI.out.row.2.2 0 (by simp)
    have hc0 := hrow.1
    have hc1 := hrow.2
    simp only [Nat.mul_zero, Nat.add_zero, List.getElem_cons_zero] at hc0 hc1
    have HR2 : Hid (_) := hr2
    have HC2 : Hid (_) := hc2
    have HLT : Hid (_) := HI.out.lt
    have HRW : Hid (LgIn F wr g off (x :: R)) := HI.out.row
    have HG : Hid (_) := hg
    generalize hm : Ps.mark s2 = m at *
    obtain ⟨x1, x2⟩ := x
    simp only at *
    have HM : Hid (∀ W, HeldL g off (.string ⟨x1.toArray⟩) (.int .i64 (x2 : Int)) wr W → Calls Tryz.prog 52 #[.pointer (some ⟨B, 0, none⟩)] W fun e w' => e = .returned (.string ⟨m.toArray⟩) ∧ HeldL g off (.string ⟨x1.toArray⟩) (.int .i64 (x2 : Int)) wr w' ∧ (∀ p : Addr, p.block < W.heap.size → w'.cell? p = W.cell? p) ∧ (∀ p : Addr, p.block < W.heap.size → w'.frozen? p = W.frozen? p) ∧ W.heap.size ≤ w'.heap.size ∧ Hid (Below W.heap.size W w')) := fun W hW => by
      refine (mark_any (HR2.out.below hW.bel)).mono ?_
      rintro e w' ⟨rfl, hb⟩
      rw [hm]
      exact ⟨rfl, hW.go hb, fun p hp => hb.cell hp, fun p hp => hb.frozen hp, hb.size, hb⟩
    have HN : Hid (∀ W, HeldL g off (.string ⟨x1.toArray⟩) (.int .i64 (x2 : Int)) wr W → Calls Tryz.prog 151 #[.agg #[.string ⟨x1.toArray⟩, .int .i64 (x2 : Int)], .string ⟨m.toArray⟩] W fun e w' => e = .returned (.tuple #[(.agg #[.int .i64 (x2 : Int), .int .i64 0, .string ⟨#[]⟩, .slice none 0 0, .slice none 0 0, .int .i64 0]), .bool (decide (m = x1))]) ∧ HeldL g off (.string ⟨x1.toArray⟩) (.int .i64 (x2 : Int)) wr w' ∧ (∀ p : Addr, p.block < W.heap.size → w'.cell? p = W.cell? p) ∧ (∀ p : Addr, p.block < W.heap.size → w'.frozen? p = W.frozen? p) ∧ W.heap.size ≤ w'.heap.size ∧ Hid (Below W.heap.size W w')) := fun W hW => by
      refine (logic_any (w := W) x1 x2 m).mono ?_
      rintro e w' ⟨rfl, hb⟩
      exact ⟨rfl, hW.go hb, fun p hp => hb.cell hp, fun p hp => hb.frozen hp, hb.size, hb⟩
    have hS0 : HeldL g off (.string ⟨x1.toArray⟩) (.int .i64 (x2 : Int)) wr wr := ⟨hc0, hc1, ⟨HRW.out.2.1, Below.refl _ _⟩⟩
    clear hrun hr2 hc2 hg hc0 hc1 HI
    by_cases hcm : m = x1
    · obtain ⟨nd, T, s3, y, s4, o, s5, hl, E1, E2, E3, E4⟩ := hR.resolve_left (fun h => by
        have := h.1
        rw [show (Ps.logic x1 x2) m = some _ from (by unfold Ps.logic; rw [if_pos hcm])] at this; cases this)
      have hnd : nd = { k := x2 } := by
        rw [show (Ps.logic x1 x2) m = some _ from (by unfold Ps.logic; rw [if_pos hcm])] at hl
        exact (Option.some.inj hl).symm
      subst hnd
      have HNE : Hid (m ≠ []) := (show m ≠ [] from by rw [hcm]; exact hne)
      have HF : Hid (_) := hf
      rw [decide_eq_true hcm] at HN
      clear hR hl hf hcm
      go_upto_region 4 with fail
      go_cut [8, 9] (fun p b wx => ∃ X, p = .pointer (some ⟨X, 0, none⟩) ∧ b = .bool true ∧ Hid (CutR wr wx X #[.int .i64 (x2 : Int), .int .i64 0, .string ⟨#[]⟩, .slice none 0 0, .slice none 0 0, .int .i64 0]))
      case first =>
        go_region_held3 (fun W => W.cell? ⟨g, off, none⟩ = some (.string ⟨x1.toArray⟩) ∧ W.cell? ⟨g, off + 1, none⟩ = some (.int .i64 (x2 : Int)) ∧ Hid (g < wr.heap.size ∧ Below wr.heap.size wr W)) ((show HeldL g off (.string ⟨x1.toArray⟩) (.int .i64 (x2 : Int)) wr _; repeat (first | with_reducible assumption | with_reducible refine HeldL.drew ?_ | with_reducible refine HeldL.alloc ?_ _ | with_reducible refine HeldL.set6 ?_ (by first | exact Nat.le_refl _ | assumption | simp) _ _ _ _ _ _))) (first | (go_at_call 52; refine Calls.mono (HM.out _ (by repeat (first | with_reducible assumption | with_reducible refine HeldL.drew ?_ | with_reducible refine HeldL.alloc ?_ _))) ?_; rintro e w7 ⟨rfl, hW7, hp7, hf7, hs7, HB7⟩; have hq7 := hW7.bel.size; first | (have hl7 := lt_alloc hs7) | skip) | (go_at_call 151; refine Calls.mono (HN.out _ (by repeat (first | with_reducible assumption | with_reducible refine HeldL.drew ?_ | with_reducible refine HeldL.alloc ?_ _))) ?_; rintro e w8 ⟨rfl, hW8, hp8, hf8, hs8, HB8⟩; first | (have hl8 := lt_alloc hs8) | (have hl8 := Nat.lt_of_lt_of_le hl7 hs8) | skip))
        all_goals
          go_wp2_with fail
          go_meet
          case rel => exact ⟨_, rfl, rfl, (show CutR _ _ _ _ from by first | with_reducible exact CutR.new hW8.bel _ | with_reducible exact CutR.old hW8.bel hq7 ((BoxAt.new _ _).below HB8.out) rfl _ _ _ _ _ _ | with_reducible exact CutR.old hW8.bel (Nat.le_refl _) (((BoxAt.new _ _).below HB7.out).below HB8.out) rfl _ _ _ _ _ _ | with_reducible exact CutR.old hW8.bel (Nat.le_refl _) (((BoxAt.new _ _).drew.below HB7.out).below HB8.out) rfl _ _ _ _ _ _)⟩
      case rest =>
        obtain ⟨X, rfl, rfl, HCUT⟩ := hcut
        obtain ⟨nv3, hr3, hc3⟩ := Som.beside ⟨_, HR2.out, HC2.out⟩ HCUT.out.2.2.2 HCUT.out.1 HCUT.out.2.1
        have HX : Hid (Six (fun k => F k ∨ k = X) X (.int .i64 (x2 : Int)) (.int .i64 0) (.string ⟨#[]⟩) (.slice none 0 0) (.slice none 0 0) (.int .i64 0) wc) := Six.of HCUT.out.2.2.1 (.inr rfl)
        have HRW3 : Hid (LgIn F wc g off ((x1, x2) :: R)) := HRW.out.same HCUT.out.2.2.2.size (fun k _ hk => HCUT.out.2.2.2.block k hk)
        have HR3 : Hid (_) := hr3
        have HC3 : Hid (_) := hc3
        clear hr3 hc3 HCUT HM HN hS0 HMT HR2 HC2 HRW
        go_wp2_with fail
        refine Calls.mono (c_skip E1 HR3.out) ?_
        rintro e w3 ⟨rfl, nv4, hr4, hc4⟩
        have hX4 : Six (fun k => F k ∨ k = X) X (.int .i64 (x2 : Int)) (.int .i64 0) (.string ⟨#[]⟩) (.slice none 0 0) (.slice none 0 0) (.int .i64 0) w3 := HX.out.call HR3.out hc4
        have HP4 : Hid (Som (fun k => F k ∨ k = X) base B dep s3 nv w w3 ∧ LgIn F w3 g off ((x1, x2) :: R)) := ⟨⟨nv4, hr4, HC3.out.trans hc4⟩, HRW3.out.same hc4.size (fun k hF _ => HR3.out.keepF hc4 (.inl hF))⟩
        have HCH : Hid (∀ W, Hid (Som (fun k => F k ∨ k = X) base B dep s3 nv w W ∧ LgIn F W g off ((x1, x2) :: R)) → Six (fun k => F k ∨ k = X) X (.int .i64 (x2 : Int)) (.int .i64 0) (.string ⟨#[]⟩) (.slice none 0 0) (.slice none 0 0) (.int .i64 0) W → Calls Tryz.prog 116 #[.pointer (some ⟨B, 0, none⟩), .slice (some ⟨g, off + 2, none⟩) n n, .func (.func 118) #[.pointer (some ⟨B, 0, none⟩)] #[]] W fun e w' => e = .returned (.int .i64 (y : Int)) ∧ Six (fun k => F k ∨ k = X) X (.int .i64 (x2 : Int)) (.int .i64 0) (.string ⟨#[]⟩) (.slice none 0 0) (.slice none 0 0) (.int .i64 0) w' ∧ Hid (Som (fun k => F k ∨ k = X) base B dep s4 nv w w' ∧ LgIn F w' g off ((x1, x2) :: R))) := fun W hP hX => by
          obtain ⟨⟨nv5, hr5, hc5⟩, hrw⟩ := hP.out
          refine (IH.out E2 hr5 (hrw.more fun k hk => .inl hk)).mono ?_
          rintro e w' ⟨rfl, nv6, hr6, hc6⟩
          exact ⟨rfl, hX.call hr5 hc6, ⟨⟨nv6, hr6, hc5.trans hc6⟩, hrw.same hc6.size (fun k hF _ => hr5.keepF hc6 (.inl hF))⟩⟩
        have HOV : Hid (∀ W, Hid (Som (fun k => F k ∨ k = X) base B dep s4 nv w W ∧ LgIn F W g off ((x1, x2) :: R)) → Six (fun k => F k ∨ k = X) X (.int .i64 (x2 : Int)) (.int .i64 0) (.string ⟨#[]⟩) (.slice none 0 0) (.slice none 0 0) (.int .i64 0) W → Calls Tryz.prog 103 #[.pointer (some ⟨B, 0, none⟩), (.agg #[.int .i64 (x2 : Int), .int .i64 0, .string ⟨#[]⟩, .slice none 0 0, .slice none 0 0, .int .i64 0]), .slice (some ⟨W.heap.size, 0, none⟩) 2 2] (W.alloc (.cells #[.int .i64 (left : Int), .int .i64 (y : Int)] 3)) fun e w' => e = .returned (.int .i64 (o : Int)) ∧ Six (fun k => F k ∨ k = X) X (.int .i64 (x2 : Int)) (.int .i64 0) (.string ⟨#[]⟩) (.slice none 0 0) (.slice none 0 0) (.int .i64 0) w' ∧ Hid (Som (fun k => F k ∨ k = X) base B dep s5 nv w w' ∧ LgIn F w' g off ((x1, x2) :: R))) := fun W hP hX => by
          obtain ⟨⟨nv5, hr5, hc5⟩, hrw⟩ := hP.out
          refine (c_over (k := x2) (t := []) E3 hr5 (by
            have h1 := HLT.out
            have h2 : s3.nodes = s2.nodes := by have := Ps.skip_n s2; rw [E1.eq] at this; exact this
            have h3 := Ps.gr_chain gr (R.map fun x => Ps.logic x.1 x.2) s3
            rw [E2.eq, h2] at h3
            exact Nat.lt_of_lt_of_le h1 h3) #[.int .i64 (left : Int), .int .i64 (y : Int)] 2 rfl (fun j hj => by
            have : j = 0 ∨ j = 1 := by simp at hj; omega
            rcases this with rfl | rfl <;> rfl)).mono ?_
          rintro e w' ⟨rfl, nv6, hr6, hc6⟩
          exact ⟨rfl, hX.call hr5 hc6, ⟨⟨nv6, hr6, hc5.trans hc6⟩, hrw.same hc6.size (fun k hF _ => hr5.keepF hc6 (.inl hF))⟩⟩
        have hX4' := hX4
        obtain ⟨p0, p1, p2, p3, p4, p5, hpf⟩ := hX4'
        clear hr4 hc4 HR3 HC3 HRW3 HX
        go_wp2_with fail
        go_region_held3 (fun W => W.cell? ⟨X, 0, none⟩ = some (.int .i64 (x2 : Int)) ∧ W.cell? ⟨X, 1, none⟩ = some (.int .i64 0) ∧ W.cell? ⟨X, 2, none⟩ = some (.string ⟨#[]⟩) ∧ W.cell? ⟨X, 3, none⟩ = some (.slice none 0 0) ∧ W.cell? ⟨X, 4, none⟩ = some (.slice none 0 0) ∧ W.cell? ⟨X, 5, none⟩ = some (.int .i64 0) ∧ Hid (FarX (fun k => F k ∨ k = X) X W)) ((show Six (fun k => F k ∨ k = X) X (.int .i64 (x2 : Int)) (.int .i64 0) (.string ⟨#[]⟩) (.slice none 0 0) (.slice none 0 0) (.int .i64 0) _; repeat (first | with_reducible assumption | with_reducible refine Six.drew ?_ | with_reducible refine Six.alloc ?_ _))) (first | (go_at_call 116; refine Calls.mono (HCH.out _ (by first | exact HP4 | exact ⟨HP4.out.1.drew, HP4.out.2⟩) (by repeat (first | with_reducible assumption | with_reducible refine Six.drew ?_))) ?_; rintro e w5 ⟨rfl, hX5, HP5⟩) | (go_at_call 103; refine Calls.mono (HOV.out _ HP5 hX5) ?_; rintro e w6 ⟨rfl, hX6, HP6⟩))
        go_wp2_with fail
        have HFU : Hid (s5.toks.length + 1 ≤ s2.toks.length ∧ s5.toks.length ≤ f ∧ o < s5.nodes.length) := (show _ ∧ _ ∧ _ from by
          have h1 := skip_fewer HG.out (hm ▸ HNE.out) E1.eq
          have g3 : Ps.Good s3 := by have := Ps.sh_skip s2 HG.out; rw [E1.eq] at this; exact this.good
          have h2 := Ps.sh_chain sh (R.map fun x => Ps.logic x.1 x.2) s3 g3
          rw [E2.eq] at h2
          have h3 := Ps.sh_over { k := x2 } [left, y] s4 h2.good
          rw [E3.eq] at h3
          have h4 := Ps.ix_over { k := x2 } [left, y] s4
          rw [E3.eq] at h4
          have h5 := h2.le
          have h6 := h3.le
          have h7 := HF.out
          simp only at h5 h6
          exact ⟨by omega, by omega, h4⟩)
        go_roundw
        case rel => exact ⟨o, s5, rfl, (show LgL _ _ _ _ _ _ _ _ _ _ _ _ _ _ _ _ from ⟨HP6.out.1.less (fun k hk => .inl hk), HP6.out.2, ⟨f, E4, HFU.out.2.1⟩, HFU.out.2.2⟩)⟩
        case measure =>
          obtain ⟨⟨nv6, hr6, _⟩, _⟩ := HP6.out
          have h1 := hr6.tokN
          have h2 := HT0.out
          have := HFU.out.1
          show _ < _
          rw [h1, h2]; omega
    · have hR' : r = left ∧ s' = s2 := by
        rcases hR with h | ⟨nd, T, s3, y, s4, o, s5, hl, _⟩
        · exact h.2
        · rw [show (Ps.logic x1 x2) m = none from (by unfold Ps.logic; rw [if_neg hcm])] at hl; cases hl
      obtain ⟨rfl, rfl⟩ := hR'
      rw [decide_eq_false hcm] at HN
      clear hR hcm hf
      go_upto_region 4 with fail
      go_cut [8, 9] (fun p b wx => ∃ X, p = .pointer (some ⟨X, 0, none⟩) ∧ b = .bool false ∧ Hid (CutR wr wx X #[.int .i64 (x2 : Int), .int .i64 0, .string ⟨#[]⟩, .slice none 0 0, .slice none 0 0, .int .i64 0]))
      case first =>
        go_region_held3 (fun W => W.cell? ⟨g, off, none⟩ = some (.string ⟨x1.toArray⟩) ∧ W.cell? ⟨g, off + 1, none⟩ = some (.int .i64 (x2 : Int)) ∧ Hid (g < wr.heap.size ∧ Below wr.heap.size wr W)) ((show HeldL g off (.string ⟨x1.toArray⟩) (.int .i64 (x2 : Int)) wr _; repeat (first | with_reducible assumption | with_reducible refine HeldL.drew ?_ | with_reducible refine HeldL.alloc ?_ _ | with_reducible refine HeldL.set6 ?_ (by first | exact Nat.le_refl _ | assumption | simp) _ _ _ _ _ _))) (first | (go_at_call 52; refine Calls.mono (HM.out _ (by repeat (first | with_reducible assumption | with_reducible refine HeldL.drew ?_ | with_reducible refine HeldL.alloc ?_ _))) ?_; rintro e w7 ⟨rfl, hW7, hp7, hf7, hs7, HB7⟩; have hq7 := hW7.bel.size; first | (have hl7 := lt_alloc hs7) | skip) | (go_at_call 151; refine Calls.mono (HN.out _ (by repeat (first | with_reducible assumption | with_reducible refine HeldL.drew ?_ | with_reducible refine HeldL.alloc ?_ _))) ?_; rintro e w8 ⟨rfl, hW8, hp8, hf8, hs8, HB8⟩; first | (have hl8 := lt_alloc hs8) | (have hl8 := Nat.lt_of_lt_of_le hl7 hs8) | skip))
        all_goals
          go_wp2_with fail
          go_meet
          case rel => exact ⟨_, rfl, rfl, (show CutR _ _ _ _ from by first | with_reducible exact CutR.new hW8.bel _ | with_reducible exact CutR.old hW8.bel hq7 ((BoxAt.new _ _).below HB8.out) rfl _ _ _ _ _ _ | with_reducible exact CutR.old hW8.bel (Nat.le_refl _) (((BoxAt.new _ _).below HB7.out).below HB8.out) rfl _ _ _ _ _ _ | with_reducible exact CutR.old hW8.bel (Nat.le_refl _) (((BoxAt.new _ _).drew.below HB7.out).below HB8.out) rfl _ _ _ _ _ _)⟩
      case rest =>
        obtain ⟨X, rfl, rfl, HCUT⟩ := hcut
        have HE : Hid (Som F base B dep s' nv w wc) := Som.below ⟨_, HR2.out, HC2.out⟩ HCUT.out.2.2.2
        clear HM HN hS0 HMT HR2 HC2 HRW
        go_wp2_with fail
        go_ret
        obtain ⟨nv9, hr9, hc9⟩ := HE.out
        exact ⟨rfl, nv9, hr9, hc9⟩
set_option maxRecDepth 100000 in
set_option maxHeartbeats 2000000 in
/-- A chain over a row of levels. -/
theorem c_chain_logic {base B dep : Nat} {part : Ps.M Nat} (gr : Ps.Gr part) (ix : Ps.Ix part) (sh : Ps.Sh part)
    (HP : ∀ {F : Nat → Prop} {s s' : Ps.St} {r : Nat} {nv : Value} {w : World}, Ru part s r s' → RS F base B dep s nv w → Calls Tryz.prog 118 #[.pointer (some ⟨B, 0, none⟩)] w (Tells F base B dep nv w s' (.int .i64 (r : Int)))) :
    ∀ (R : List (List UInt8 × Nat)), (∀ x ∈ R, x.1 ≠ []) → R.length ≤ 10 → ∀ {F : Nat → Prop} {s s' : Ps.St} {r : Nat} {nv : Value} {w : World} {rv : Value}, Ru (Ps.chain part (R.map fun x => Ps.logic x.1 x.2)) s r s' → RS F base B dep s nv w → LgV F w rv R →
      Calls Tryz.prog 116 #[.pointer (some ⟨B, 0, none⟩), rv, .func (.func 118) #[.pointer (some ⟨B, 0, none⟩)] #[]] w (Tells F base B dep nv w s' (.int .i64 (r : Int))) := by
  intro R
  induction R with
  | nil =>
    intro _ _ F s s' r nv w rv E h hv
    obtain ⟨ad, rfl⟩ := hv
    have HPE : Hid (_) := HP E h
    clear h E HP
    go_enter Tryz.func116, Tryz.ntmps116
    go_wp2_with fail
    refine Calls.mono HPE.out ?_
    rintro e w1 ⟨rfl, nv1, hr1, hc1⟩
    go_wp2_with fail
    go_ret
    exact ⟨rfl, nv1, hr1, hc1⟩
  | cons x R ih =>
    intro hne hlen F s s' r nv w rv E h hv
    obtain ⟨g, off, rfl, hrow⟩ := hv
    rw [List.length_cons] at hlen
    rcases R with _ | ⟨y, R⟩
    · exact logic_last gr ix sh (hne x (List.mem_cons_self ..)) rfl rfl (by omega) (fun E h hv => ih (fun y hy => hne y (List.mem_cons_of_mem _ hy)) (by omega) E h ⟨_, rfl⟩) E h hrow
    · exact logic_more (n := R.length + 1) gr ix sh (hne x (List.mem_cons_self ..)) rfl (by omega) (by simpa using (by simp at hlen; omega : R.length + 1 ≤ 10)) (fun E h hv => ih (fun y hy => hne y (List.mem_cons_of_mem _ hy)) (by omega) E h ⟨_, _, rfl, hv.tail⟩) E h hrow
end Go.Proofs.YtpjmapoiinjakaaGreatDoor.R
