/- lex.next alone by its contract: the token that begins first, from a place on, and the place behind it. -/
import Derived.Test.YtoeolonbkeldoaaDoorLFirst
import Derived.BigRegion
import Derived.Test.YtoeolonbkeldoaaDoorLxM
namespace Go.Proofs.YtoeolonbkeldoaaDoor.L
open Go.RowKit
set_option linter.unusedVariables false
/-- A token's five cells. -/
abbrev tkA (t : Lx.Tk) : Array Value := #[.int .i64 (t.k : Int), .string ⟨t.t.toArray⟩, .int .i64 (t.n : Int), .int .i64 (t.a : Int), .bool t.ln]
set_option maxRecDepth 100000 in
set_option maxHeartbeats 4000000 in
theorem next_core (s : ByteArray) (w : World) (p b : Nat) (ln : Bool) (r : Option Lx.Pc) (hb : (b : Int) ≤ s.size) (hs : s.size ≤ 1000000) (hz : Hid (∀ q, r = some q → q.z ≤ 1000000)) (h0 : w.heap.size ≠ 0)
    (H1 : Hid (∀ W, Calls Tryd.prog 23 #[.string s, .int .i64 (p : Int)] W fun e w' => e = .returned (.tuple #[.int .i64 (b : Int), .bool ln]) ∧ w' = W))
    (H2 : Hid (∀ W g, Below w.heap.size w W → Kinds g W → Calls Tryd.prog 24 #[.string (s.extract b s.size), .slice (some ⟨g, 0, none⟩) 5 5] W fun e w' => ToldZ r e ∧ Below W.heap.size W w')) :
    Calls Tryd.prog 17 #[.string s, .int .i64 (p : Int)] w fun e w' => e = .returned (.tuple #[.agg (tkA (Lx.tokOf b ln r)), .int .i64 ((Lx.tokOf b ln r).e : Int)]) ∧ Below w.heap.size w w' := by
  cases r with
  | none =>
    go_enter Tryd.func17, Tryd.ntmps17
    go_wp2_with (go_at_call 23; refine Calls.mono (H1.out _) ?_; rintro e w' ⟨rfl, rfl⟩)
    refine Calls.mono (H2.out _ _ (((Below.refl _ _).alloc (Nat.le_refl _) _).alloc (by simp) _) (by simp [Kinds])) ?_
    rintro e w1 ⟨hr, hb1⟩
    have hr' : e = .returned (.tuple #[.agg #[.int .i64 0, .string ⟨#[]⟩, .int .i64 0, .int .i64 0, .bool false, .int .i64 0], .bool false]) := hr
    subst hr'
    obtain ⟨q0, q1, q2, q3, q4, f0, f1, f2, f3, f4⟩ := cells5 rfl (((Below.refl (w.heap.size + 1) _).alloc (by simp) _).trans (hb1.mono (by simp)))
    have hlt1 : w.heap.size < w1.heap.size := by have := hb1.size; simp at this; omega
    have hBB := (((Below.refl w.heap.size w).alloc (Nat.le_refl _) _).alloc (by simp) _).trans (hb1.mono (by simp; omega))
    clear hb1 H1 H2 hr
    go_wp2_with fail
    go_region
    go_wp2_with fail
    refine bodyPost_ret (v := .tuple #[.agg #[.int .i64 6, .string ⟨#[]⟩, .int .i64 0, .int .i64 (b : Int), .bool ln], .int .i64 (b : Int)]) (by simp [results, Tryd.results17, go_sem, *]) rfl ⟨rfl, ?_⟩
    repeat (first | with_reducible exact hBB | (with_reducible refine Below.drew ?_) | (with_reducible refine Below.setCell ?_ (by first | exact Nat.le_refl _ | omega) _) | (with_reducible refine Below.alloc ?_ (by first | omega | (simp; omega)) _))
  | some q =>
    have hq := hz.out q rfl
    clear hz
    obtain ⟨k, t, n, z⟩ := q
    simp only at hq
    go_enter Tryd.func17, Tryd.ntmps17
    go_wp2_with (go_at_call 23; refine Calls.mono (H1.out _) ?_; rintro e w' ⟨rfl, rfl⟩)
    refine Calls.mono (H2.out _ _ (((Below.refl _ _).alloc (Nat.le_refl _) _).alloc (by simp) _) (by simp [Kinds])) ?_
    rintro e w1 ⟨hr, hb1⟩
    have hr' : e = .returned (.tuple #[.agg #[.int .i64 (k : Int), .string ⟨t.toArray⟩, .int .i64 (n : Int), .int .i64 0, .bool false, .int .i64 (z : Int)], .bool true]) := hr
    subst hr'
    obtain ⟨q0, q1, q2, q3, q4, f0, f1, f2, f3, f4⟩ := cells5 rfl (((Below.refl (w.heap.size + 1) _).alloc (by simp) _).trans (hb1.mono (by simp)))
    have hlt1 : w.heap.size < w1.heap.size := by have := hb1.size; simp at this; omega
    have hBB := (((Below.refl w.heap.size w).alloc (Nat.le_refl _) _).alloc (by simp) _).trans (hb1.mono (by simp; omega))
    clear hb1 H1 H2 hr
    go_wp2_with fail
    go_region
    go_wp2_with fail
    refine bodyPost_ret (v := .tuple #[.agg #[.int .i64 (k : Int), .string ⟨t.toArray⟩, .int .i64 (n : Int), .int .i64 (b : Int), .bool ln], .int .i64 ((b + z : Nat) : Int)]) (by simp [results, Tryd.results17, go_sem, *]) rfl ⟨rfl, ?_⟩
    repeat (first | with_reducible exact hBB | (with_reducible refine Below.drew ?_) | (with_reducible refine Below.setCell ?_ (by first | exact Nat.le_refl _ | omega) _) | (with_reducible refine Below.alloc ?_ (by first | omega | (simp; omega)) _))
theorem next_any (s : ByteArray) (p : Nat) (w : World) (hs : s.size ≤ 1000000) (hp : p ≤ s.size) (hg : Sig w) :
    Calls Tryd.prog 17 #[.string s, .int .i64 (p : Int)] w fun e w' => e = .returned (.tuple #[.agg (tkA (Lx.tok s.data.toList p)), .int .i64 ((Lx.tok s.data.toList p).e : Int)]) ∧ Below w.heap.size w w' := by
  have hb := Lx.blk_le false (s.data.toList.drop p)
  rw [List.length_drop, size_list] at hb
  refine next_core s w p (p + (Lx.blk false (s.data.toList.drop p)).1) _ (Lx.piece (s.data.toList.drop (p + (Lx.blk false (s.data.toList.drop p)).1))) (by omega) hs (fun q hq => ?_) (Nat.ne_of_gt hg.1) (fun W => skip_any s p W hs hp) (fun W g hW hk => ?_)
  · have := (Lx.piece_ok hq).1
    rw [List.length_drop, size_list] at this
    omega
  · have := first_any (s.extract (p + (Lx.blk false (s.data.toList.drop p)).1) s.size) W g (by simp [ByteArray.size_extract]; omega) (hg.below hW) hk
    rw [tail_list] at this
    exact this
end Go.Proofs.YtoeolonbkeldoaaDoor.L
