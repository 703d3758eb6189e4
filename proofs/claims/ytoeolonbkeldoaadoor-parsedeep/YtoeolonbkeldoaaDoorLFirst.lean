/- lex.first over the five kinds: the first that takes what stands there. -/
import Derived.Test.YtoeolonbkeldoaaDoorLSign
import Derived.Test.YtoeolonbkeldoaaDoorLText
namespace Go.Proofs.YtoeolonbkeldoaaDoor.L
open Go.RowKit
set_option linter.unusedVariables false
/-- What is still to be asked, from a kind on. -/
def rem (l : List UInt8) : Nat → Option Lx.Pc
  | 0 => Lx.piece l
  | 1 => (Lx.pNum l).or ((Lx.pTxt l).or ((Lx.pNam l).or (Lx.pSgn l)))
  | 2 => (Lx.pTxt l).or ((Lx.pNam l).or (Lx.pSgn l))
  | 3 => (Lx.pNam l).or (Lx.pSgn l)
  | 4 => Lx.pSgn l
  | _ => none
/-- What is told: the piece, or the zero one. -/
def pcOf : Option Lx.Pc → Lx.Pc
  | some p => p
  | none => ⟨0, [], 0, 0⟩
def ToldZ (r : Option Lx.Pc) (e : Ending) : Prop := e = .returned (.tuple #[.agg #[.int .i64 ((pcOf r).k : Int), .string ⟨(pcOf r).t.toArray⟩, .int .i64 ((pcOf r).n : Int), .int .i64 0, .bool false, .int .i64 ((pcOf r).z : Int)], .bool r.isSome])
abbrev zeroO : Obj := .cells #[.int .i64 0, .string ⟨#[]⟩, .int .i64 0, .int .i64 0, .bool false, .int .i64 0] 58
/-- The five kinds, as they lie. -/
def Kinds (g : Nat) (w : World) : Prop := g < w.heap.size ∧ w.cell? ⟨g, 0, none⟩ = some (.func (.func 25) #[] #[]) ∧ w.cell? ⟨g, 1, none⟩ = some (.func (.func 26) #[] #[]) ∧ w.cell? ⟨g, 2, none⟩ = some (.func (.func 27) #[] #[]) ∧ w.cell? ⟨g, 3, none⟩ = some (.func (.func 28) #[] #[]) ∧ w.cell? ⟨g, 4, none⟩ = some (.func (.func 29) #[] #[])
theorem Kinds.below {g : Nat} {w w' : World} (h : Kinds g w) (hb : Below w.heap.size w w') : Kinds g w' :=
  ⟨Nat.lt_of_lt_of_le h.1 hb.size, by rw [hb.cell h.1]; exact h.2.1, by rw [hb.cell h.1]; exact h.2.2.1, by rw [hb.cell h.1]; exact h.2.2.2.1, by rw [hb.cell h.1]; exact h.2.2.2.2.1, by rw [hb.cell h.1]; exact h.2.2.2.2.2⟩
set_option maxRecDepth 100000 in
set_option maxHeartbeats 4000000 in
theorem first_core (s : ByteArray) (w : World) (g : Nat) (r : Nat → Option Lx.Pc) (Q : Nat → Option Lx.Pc) (h0 : g < w.heap.size)
    (HS : Hid (∀ W, Below (w.heap.size + 1) (w.alloc zeroO) W → Sig W ∧ Kinds g W ∧ w.heap.size < W.heap.size ∧ Below w.heap.size w W))
    (HQ : Hid (∀ k : Nat, k < 5 → Q k = (r k).or (Q (k + 1)))) (HQ5 : Hid (Q 5 = none))
    (H0 : Hid (∀ W, Sig W → Calls Tryd.prog 25 #[.string s] W fun e w' => Told (r 0) e ∧ Below W.heap.size W w'))
    (H1 : Hid (∀ W, Sig W → Calls Tryd.prog 26 #[.string s] W fun e w' => Told (r 1) e ∧ Below W.heap.size W w'))
    (H2 : Hid (∀ W, Sig W → Calls Tryd.prog 27 #[.string s] W fun e w' => Told (r 2) e ∧ Below W.heap.size W w'))
    (H3 : Hid (∀ W, Sig W → Calls Tryd.prog 28 #[.string s] W fun e w' => Told (r 3) e ∧ Below W.heap.size W w'))
    (H4 : Hid (∀ W, Sig W → Calls Tryd.prog 29 #[.string s] W fun e w' => Told (r 4) e ∧ Below W.heap.size W w')) :
    Calls Tryd.prog 24 #[.string s, .slice (some ⟨g, 0, none⟩) 5 5] w fun e w' => ToldZ (Q 0) e ∧ Below w.heap.size w w' := by
  go_enter Tryd.func24, Tryd.ntmps24
  go_wp2_with fail
  go_loopw [12] (fun i W => ∃ (k : Nat), k ≤ 5 ∧ i = .int .i64 k ∧ Hid (Q k = Q 0) ∧ Hid (Below (w.heap.size + 1) (w.alloc zeroO) W)) (fun i _ => 5 - (intOf i).toNat)
  case atStart => exact ⟨0, by omega, rfl, rfl, (show Below _ _ _ from Below.refl _ _)⟩
  case round =>
    obtain ⟨k, hk, rfl, HR, HW⟩ := hrel
    obtain ⟨hG, ⟨hgl, c0, c1, c2, c3, c4⟩, hlt, hWW⟩ := HS.out _ HW.out
    obtain hk5 | hk5 : k < 5 ∨ k = 5 := by omega
    · have HN := HQ.out k hk5
      clear HQ HQ5 HS hWW
      obtain rfl | rfl | rfl | rfl | rfl : k = 0 ∨ k = 1 ∨ k = 2 ∨ k = 3 ∨ k = 4 := by omega
      · have HK : Hid (_) := H0.out _ hG
        clear hG H0 H1 H2 H3 H4
        go_wp2_with fail
        refine Calls.mono HK.out ?_
        rintro e w1 ⟨⟨kk, n, z, t, ok, rfl, hr⟩, hb1⟩
        have hW1 := HW.out.trans (hb1.mono (by omega))
        clear HK hb1 c0 c1 c2 c3 c4
        rw [hr] at HN
        have hlt1 : w.heap.size < w1.heap.size := by have := hW1.size; rw [alloc_size] at this; omega
        cases ok
        · have HR' : Hid (Q 1 = Q 0) := HN.symm
          have HB1 : Hid (Below _ _ _) := hW1
          clear hW1 hr HR HW HN
          go_wp2_with fail
          go_roundw
          case rel =>
            refine ⟨1, by omega, by go_num, HR', ?_⟩
            show Below _ _ _
            repeat (first | with_reducible exact HB1.out | (with_reducible refine Below.drew ?_) | (with_reducible refine Below.setCell ?_ (by first | exact Nat.le_refl _ | omega) _) | (with_reducible refine Below.alloc ?_ (by first | omega | (simp; omega)) _))
          case measure => simp [intOf]
        · have HR' : Hid (Q 0 = some ⟨kk, t, n, z⟩) := HN
          obtain ⟨q0, q1, q2, q3, q4, q5, f0, f1, f2, f3, f4, f5⟩ := cells6 rfl hW1
          have hBB := ((Below.refl w.heap.size w).alloc (Nat.le_refl _) zeroO).trans (hW1.mono (by omega))
          clear hW1 hr HR HW HN
          go_wp2_with fail
          refine bodyPost_ret (v := .tuple #[.agg #[.int .i64 (kk : Int), .string ⟨t.toArray⟩, .int .i64 (n : Int), .int .i64 0, .bool false, .int .i64 (z : Int)], .bool true]) (by simp [results, Tryd.results24, go_sem, *]) rfl ⟨by unfold ToldZ; rw [HR'.out]; rfl, ?_⟩
          repeat (first | with_reducible exact hBB | (with_reducible refine Below.drew ?_) | (with_reducible refine Below.setCell ?_ (by first | exact Nat.le_refl _ | omega) _) | (with_reducible refine Below.alloc ?_ (by first | omega | (simp; omega)) _))
      · have HK : Hid (_) := H1.out _ hG
        clear hG H0 H1 H2 H3 H4
        go_wp2_with fail
        refine Calls.mono HK.out ?_
        rintro e w1 ⟨⟨kk, n, z, t, ok, rfl, hr⟩, hb1⟩
        have hW1 := HW.out.trans (hb1.mono (by omega))
        clear HK hb1 c0 c1 c2 c3 c4
        rw [hr] at HN
        have hlt1 : w.heap.size < w1.heap.size := by have := hW1.size; rw [alloc_size] at this; omega
        cases ok
        · have HR' : Hid (Q 2 = Q 0) := HN.symm.trans HR.out
          have HB1 : Hid (Below _ _ _) := hW1
          clear hW1 hr HR HW HN
          go_wp2_with fail
          go_roundw
          case rel =>
            refine ⟨2, by omega, by go_num, HR', ?_⟩
            show Below _ _ _
            repeat (first | with_reducible exact HB1.out | (with_reducible refine Below.drew ?_) | (with_reducible refine Below.setCell ?_ (by first | exact Nat.le_refl _ | omega) _) | (with_reducible refine Below.alloc ?_ (by first | omega | (simp; omega)) _))
          case measure => simp [intOf]
        · have HR' : Hid (Q 0 = some ⟨kk, t, n, z⟩) := HR.out.symm.trans HN
          obtain ⟨q0, q1, q2, q3, q4, q5, f0, f1, f2, f3, f4, f5⟩ := cells6 rfl hW1
          have hBB := ((Below.refl w.heap.size w).alloc (Nat.le_refl _) zeroO).trans (hW1.mono (by omega))
          clear hW1 hr HR HW HN
          go_wp2_with fail
          refine bodyPost_ret (v := .tuple #[.agg #[.int .i64 (kk : Int), .string ⟨t.toArray⟩, .int .i64 (n : Int), .int .i64 0, .bool false, .int .i64 (z : Int)], .bool true]) (by simp [results, Tryd.results24, go_sem, *]) rfl ⟨by unfold ToldZ; rw [HR'.out]; rfl, ?_⟩
          repeat (first | with_reducible exact hBB | (with_reducible refine Below.drew ?_) | (with_reducible refine Below.setCell ?_ (by first | exact Nat.le_refl _ | omega) _) | (with_reducible refine Below.alloc ?_ (by first | omega | (simp; omega)) _))
      · have HK : Hid (_) := H2.out _ hG
        clear hG H0 H1 H2 H3 H4
        go_wp2_with fail
        refine Calls.mono HK.out ?_
        rintro e w1 ⟨⟨kk, n, z, t, ok, rfl, hr⟩, hb1⟩
        have hW1 := HW.out.trans (hb1.mono (by omega))
        clear HK hb1 c0 c1 c2 c3 c4
        rw [hr] at HN
        have hlt1 : w.heap.size < w1.heap.size := by have := hW1.size; rw [alloc_size] at this; omega
        cases ok
        · have HR' : Hid (Q 3 = Q 0) := HN.symm.trans HR.out
          have HB1 : Hid (Below _ _ _) := hW1
          clear hW1 hr HR HW HN
          go_wp2_with fail
          go_roundw
          case rel =>
            refine ⟨3, by omega, by go_num, HR', ?_⟩
            show Below _ _ _
            repeat (first | with_reducible exact HB1.out | (with_reducible refine Below.drew ?_) | (with_reducible refine Below.setCell ?_ (by first | exact Nat.le_refl _ | omega) _) | (with_reducible refine Below.alloc ?_ (by first | omega | (simp; omega)) _))
          case measure => simp [intOf]
        · have HR' : Hid (Q 0 = some ⟨kk, t, n, z⟩) := HR.out.symm.trans HN
          obtain ⟨q0, q1, q2, q3, q4, q5, f0, f1, f2, f3, f4, f5⟩ := cells6 rfl hW1
          have hBB := ((Below.refl w.heap.size w).alloc (Nat.le_refl _) zeroO).trans (hW1.mono (by omega))
          clear hW1 hr HR HW HN
          go_wp2_with fail
          refine bodyPost_ret (v := .tuple #[.agg #[.int .i64 (kk : Int), .string ⟨t.toArray⟩, .int .i64 (n : Int), .int .i64 0, .bool false, .int .i64 (z : Int)], .bool true]) (by simp [results, Tryd.results24, go_sem, *]) rfl ⟨by unfold ToldZ; rw [HR'.out]; rfl, ?_⟩
          repeat (first | with_reducible exact hBB | (with_reducible refine Below.drew ?_) | (with_reducible refine Below.setCell ?_ (by first | exact Nat.le_refl _ | omega) _) | (with_reducible refine Below.alloc ?_ (by first | omega | (simp; omega)) _))
      · have HK : Hid (_) := H3.out _ hG
        clear hG H0 H1 H2 H3 H4
        go_wp2_with fail
        refine Calls.mono HK.out ?_
        rintro e w1 ⟨⟨kk, n, z, t, ok, rfl, hr⟩, hb1⟩
        have hW1 := HW.out.trans (hb1.mono (by omega))
        clear HK hb1 c0 c1 c2 c3 c4
        rw [hr] at HN
        have hlt1 : w.heap.size < w1.heap.size := by have := hW1.size; rw [alloc_size] at this; omega
        cases ok
        · have HR' : Hid (Q 4 = Q 0) := HN.symm.trans HR.out
          have HB1 : Hid (Below _ _ _) := hW1
          clear hW1 hr HR HW HN
          go_wp2_with fail
          go_roundw
          case rel =>
            refine ⟨4, by omega, by go_num, HR', ?_⟩
            show Below _ _ _
            repeat (first | with_reducible exact HB1.out | (with_reducible refine Below.drew ?_) | (with_reducible refine Below.setCell ?_ (by first | exact Nat.le_refl _ | omega) _) | (with_reducible refine Below.alloc ?_ (by first | omega | (simp; omega)) _))
          case measure => simp [intOf]
        · have HR' : Hid (Q 0 = some ⟨kk, t, n, z⟩) := HR.out.symm.trans HN
          obtain ⟨q0, q1, q2, q3, q4, q5, f0, f1, f2, f3, f4, f5⟩ := cells6 rfl hW1
          have hBB := ((Below.refl w.heap.size w).alloc (Nat.le_refl _) zeroO).trans (hW1.mono (by omega))
          clear hW1 hr HR HW HN
          go_wp2_with fail
          refine bodyPost_ret (v := .tuple #[.agg #[.int .i64 (kk : Int), .string ⟨t.toArray⟩, .int .i64 (n : Int), .int .i64 0, .bool false, .int .i64 (z : Int)], .bool true]) (by simp [results, Tryd.results24, go_sem, *]) rfl ⟨by unfold ToldZ; rw [HR'.out]; rfl, ?_⟩
          repeat (first | with_reducible exact hBB | (with_reducible refine Below.drew ?_) | (with_reducible refine Below.setCell ?_ (by first | exact Nat.le_refl _ | omega) _) | (with_reducible refine Below.alloc ?_ (by first | omega | (simp; omega)) _))
      · have HK : Hid (_) := H4.out _ hG
        clear hG H0 H1 H2 H3 H4
        go_wp2_with fail
        refine Calls.mono HK.out ?_
        rintro e w1 ⟨⟨kk, n, z, t, ok, rfl, hr⟩, hb1⟩
        have hW1 := HW.out.trans (hb1.mono (by omega))
        clear HK hb1 c0 c1 c2 c3 c4
        rw [hr] at HN
        have hlt1 : w.heap.size < w1.heap.size := by have := hW1.size; rw [alloc_size] at this; omega
        cases ok
        · have HR' : Hid (Q 5 = Q 0) := HN.symm.trans HR.out
          have HB1 : Hid (Below _ _ _) := hW1
          clear hW1 hr HR HW HN
          go_wp2_with fail
          go_roundw
          case rel =>
            refine ⟨5, by omega, by go_num, HR', ?_⟩
            show Below _ _ _
            repeat (first | with_reducible exact HB1.out | (with_reducible refine Below.drew ?_) | (with_reducible refine Below.setCell ?_ (by first | exact Nat.le_refl _ | omega) _) | (with_reducible refine Below.alloc ?_ (by first | omega | (simp; omega)) _))
          case measure => simp [intOf]
        · have HR' : Hid (Q 0 = some ⟨kk, t, n, z⟩) := HR.out.symm.trans HN
          obtain ⟨q0, q1, q2, q3, q4, q5, f0, f1, f2, f3, f4, f5⟩ := cells6 rfl hW1
          have hBB := ((Below.refl w.heap.size w).alloc (Nat.le_refl _) zeroO).trans (hW1.mono (by omega))
          clear hW1 hr HR HW HN
          go_wp2_with fail
          refine bodyPost_ret (v := .tuple #[.agg #[.int .i64 (kk : Int), .string ⟨t.toArray⟩, .int .i64 (n : Int), .int .i64 0, .bool false, .int .i64 (z : Int)], .bool true]) (by simp [results, Tryd.results24, go_sem, *]) rfl ⟨by unfold ToldZ; rw [HR'.out]; rfl, ?_⟩
          repeat (first | with_reducible exact hBB | (with_reducible refine Below.drew ?_) | (with_reducible refine Below.setCell ?_ (by first | exact Nat.le_refl _ | omega) _) | (with_reducible refine Below.alloc ?_ (by first | omega | (simp; omega)) _))
    · subst hk5
      have HR' : Hid (Q 0 = none) := HR.out.symm.trans HQ5.out
      obtain ⟨q0, q1, q2, q3, q4, q5, f0, f1, f2, f3, f4, f5⟩ := cells6 rfl HW.out
      clear hG HR c0 c1 c2 c3 c4 HQ HQ5 HS H0 H1 H2 H3 H4 HW
      go_wp2_with fail
      refine bodyPost_ret (v := .tuple #[zeroP, .bool false]) (by simp [results, Tryd.results24, go_sem, zeroP, *]) rfl ⟨by unfold ToldZ; rw [HR'.out]; rfl, ?_⟩
      repeat (first | with_reducible exact hWW | (with_reducible refine Below.drew ?_) | (with_reducible refine Below.setCell ?_ (by exact Nat.le_refl _) _) | (with_reducible refine Below.alloc ?_ (by first | omega | (simp; omega)) _))
theorem first_any (s : ByteArray) (w : World) (g : Nat) (hs : s.size ≤ 1000000) (hg : Sig w) (hk : Kinds g w) :
    Calls Tryd.prog 24 #[.string s, .slice (some ⟨g, 0, none⟩) 5 5] w fun e w' => ToldZ (Lx.piece s.data.toList) e ∧ Below w.heap.size w w' := by
  have HS : ∀ W, Below (w.heap.size + 1) (w.alloc zeroO) W → Sig W ∧ Kinds g W ∧ w.heap.size < W.heap.size ∧ Below w.heap.size w W := fun W hb => by
    have h1 : Below w.heap.size w W := ((Below.refl _ _).alloc (Nat.le_refl _) zeroO).trans (hb.mono (by omega))
    have h2 := hb.size
    rw [alloc_size] at h2
    exact ⟨hg.below h1, hk.below h1, by omega, h1⟩
  refine first_core s w g (fun | 0 => Lx.pEnd s.data.toList | 1 => Lx.pNum s.data.toList | 2 => Lx.pTxt s.data.toList | 3 => Lx.pNam s.data.toList | _ => Lx.pSgn s.data.toList) (rem s.data.toList) hk.1 HS (fun k h => ?_) rfl (fun W _ => end_any s W) (fun W _ => number_any s W hs) (fun W _ => text_any s W hs) (fun W _ => name_any s W hs) (fun W h => sign_any s W hs h)
  obtain rfl | rfl | rfl | rfl | rfl : k = 0 ∨ k = 1 ∨ k = 2 ∨ k = 3 ∨ k = 4 := by omega
  · rfl
  · rfl
  · rfl
  · rfl
  · show Lx.pSgn _ = (Lx.pSgn _).or none
    cases Lx.pSgn s.data.toList <;> rfl
end Go.Proofs.YtoeolonbkeldoaaDoor.L
