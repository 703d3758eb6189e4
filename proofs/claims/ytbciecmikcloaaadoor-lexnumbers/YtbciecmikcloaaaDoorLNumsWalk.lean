/- The law LexNumbers: its walk. -/
import Derived.Test.YtbciecmikcloaaaDoorLAllWalk
import Derived.Test.YtbciecmikcloaaaDoorLDigits
import Derived.OpenShut
import Derived.Deep.DeepCutAuto
import Derived.Deep.CutBlock
import Derived.Deep.RegionHeld3
namespace Go.Proofs.YtbciecmikcloaaaDoor.L
open Go.RowKit
set_option linter.unusedVariables false
/-- A number's token. -/
theorem tok_dg (n : Nat) : Lx.tok (Lx.dg n) 0 = Lx.tokOf 0 false (if 2147483647 < n then none else some ⟨1, Lx.dg n, n, (Lx.dg n).length⟩) := by
  obtain ⟨c, a, e⟩ : ∃ c a, Lx.dg n = c :: a := by
    cases h : Lx.dg n with
    | nil => have := (Lx.dg_len n).1; rw [h] at this; simp at this
    | cons c a => exact ⟨c, a, rfl⟩
  have hall := Lx.dg_all n
  have hv := Lx.dg_val n
  have hh := Lx.dg_head n
  rw [e] at hall hv hh ⊢
  have := Lx.tok_digits c a [] hall rfl
  rw [List.append_nil, hv] at this
  rw [this]
  congr 1
  have h2 : ¬ (c.toNat = 48 ∧ 1 < (c :: a).length) := fun h => by
    obtain ⟨c', l', e', hc'⟩ := hh h.2
    cases e'
    exact hc' h.1
  by_cases h3 : 2147483647 < n
  · rw [if_pos (.inl h3), if_pos h3]
  · rw [if_neg (by rintro (h | h | h); exact h3 h; exact h2 h; cases h), if_neg h3]
theorem tok_nought (n : Nat) : (Lx.tok (48 :: Lx.dg n) 0).k = 6 := by
  have hall : ∀ x ∈ (48 : UInt8) :: Lx.dg n, Lx.digit x = true := fun x hx => by
    rcases List.mem_cons.1 hx with rfl | hx
    · decide
    · exact Lx.dg_all n x hx
  have := Lx.tok_digits 48 (Lx.dg n) [] hall rfl
  rw [List.append_nil] at this
  rw [this, if_pos (.inr (.inl ⟨rfl, by rw [List.length_cons]; have := (Lx.dg_len n).1; omega⟩))]
  rfl
theorem tok_behind (n : Nat) (c : UInt8) (hc : Lx.digit c = false) (hn : n ≤ 2147483647) : (Lx.tok (Lx.dg n ++ [c]) 0).k = (if Lx.letter c = true then 6 else 1) ∧ (Lx.letter c = false → (Lx.tok (Lx.dg n ++ [c]) 0).n = n) := by
  obtain ⟨d, a, e⟩ : ∃ d a, Lx.dg n = d :: a := by
    cases h : Lx.dg n with
    | nil => have := (Lx.dg_len n).1; rw [h] at this; simp at this
    | cons d a => exact ⟨d, a, rfl⟩
  have hall := Lx.dg_all n
  have hv := Lx.dg_val n
  have hh := Lx.dg_head n
  rw [e] at hall hv hh ⊢
  rw [Lx.tok_digits d a [c] hall hc, hv]
  have h2 : ¬ (d.toNat = 48 ∧ 1 < (d :: a).length) := fun h => by
    obtain ⟨c', l', e', hc'⟩ := hh h.2
    cases e'
    exact hc' h.1
  have hbl : Lx.beg Lx.letter [c] = Lx.letter c := rfl
  cases hl : Lx.letter c
  · rw [if_neg (by rintro (h | h | h); omega; exact h2 h; rw [hbl, hl] at h; cases h)]
    exact ⟨rfl, fun _ => rfl⟩
  · rw [if_pos (.inr (.inr (by rw [hbl, hl])))]
    exact ⟨rfl, fun h => by cases h⟩
/-- What is there stays there. -/
def HN5 (W5 W : World) : Prop := Hid (Below W5.heap.size W5 W)
theorem HN5.go {W5 W w' : World} (h : HN5 W5 W) (hb : Below W.heap.size W w') : HN5 W5 w' := (show Below _ _ _ from h.out.trans (hb.mono h.out.size))
theorem HN5.drew {W5 W : World} (h : HN5 W5 W) : HN5 W5 W.drew := h.go (Below.refl _ _).drew
theorem HN5.alloc {W5 W : World} (h : HN5 W5 W) (ob : Obj) : HN5 W5 (W.alloc ob) := h.go ((Below.refl _ _).alloc (Nat.le_refl _) _)
theorem HN5.set5 {W5 W : World} (h : HN5 W5 W) {g : Nat} (hg : W5.heap.size ≤ g) (v0 v1 v2 v3 v4 : Value) : HN5 W5 (((((W.setCell ⟨g, 0, none⟩ v0).setCell ⟨g, 1, none⟩ v1).setCell ⟨g, 2, none⟩ v2).setCell ⟨g, 3, none⟩ v3).setCell ⟨g, 4, none⟩ v4) :=
  (show Below _ _ _ from ((((h.out.setCell hg _).setCell hg _).setCell hg _).setCell hg _).setCell hg _)
theorem heap_alloc_new (w : World) (V : Array Value) (t : TypeId) : (w.alloc (.cells V t)).heap[w.heap.size]? = some (.cells V t (0, 0)) := Array.getElem?_push_size
theorem alloc_drew_new (w : World) (V : Array Value) (t : TypeId) : (w.alloc (.cells V t)).drew.heap[w.heap.size]? = some (.cells V t (0, 0)) := Array.getElem?_push_size
theorem slt1 {w : World} {o : Obj} {n : Nat} (h : (w.alloc o).heap.size ≤ n) : w.heap.size < n := by rw [alloc_size] at h; omega
theorem slt2 {w : World} {o : Obj} {n : Nat} (h : (w.alloc o).drew.heap.size ≤ n) : w.heap.size < n := slt1 (w := w) (o := o) h
theorem slt3 {w : World} {o : Obj} {n : Nat} (h : (w.drew.alloc o).heap.size ≤ n) : w.heap.size < n := slt1 (w := w.drew) (o := o) h
theorem slt4 {w : World} {o : Obj} {n : Nat} (h : (w.drew.alloc o).drew.heap.size ≤ n) : w.heap.size < n := slt1 (w := w.drew) (o := o) h
theorem heap_cell {W : World} {b : Nat} {v : Value} {t : TypeId} (h : W.heap[b]? = some (.cells #[v] t (0, 0))) : W.cell? ⟨b, 0, none⟩ = some v := by
  unfold World.cell?; rw [h]; rfl
/-- A byte's cell behind a call: alone; ahead of another block; behind one. -/
abbrev zTok : Obj := .cells #[.int .i64 0, .string ⟨#[]⟩, .int .i64 0, .int .i64 0, .bool false] 24 (0, 0)
theorem push1 {W w6 : World} {h : Array Obj} {a : Obj} (hb : Below W.heap.size W w6) (hW : W.heap = h.push a) : w6.heap[h.size]? = some a ∧ h.size < w6.heap.size := by
  have hs := hb.size
  rw [hW, Array.size_push] at hs
  exact ⟨(hb.block _ (by rw [hW, Array.size_push]; omega)).trans (by rw [hW]; exact Array.getElem?_push_size), by omega⟩
theorem push2 {W w6 : World} {h : Array Obj} {a b : Obj} (hb : Below W.heap.size W w6) (hW : W.heap = (h.push a).push b) : w6.heap[h.size]? = some a ∧ w6.heap[h.size + 1]? = some b ∧ h.size < w6.heap.size ∧ h.size + 1 < w6.heap.size := by
  have hs := hb.size
  rw [hW, Array.size_push, Array.size_push] at hs
  exact ⟨(hb.block _ (by rw [hW, Array.size_push, Array.size_push]; omega)).trans (by rw [hW, Array.getElem?_push, if_neg (by rw [Array.size_push]; omega)]; exact Array.getElem?_push_size), (hb.block _ (by rw [hW, Array.size_push, Array.size_push]; omega)).trans (by rw [hW, ← Array.size_push (xs := h) a]; exact Array.getElem?_push_size), by omega, by omega⟩
theorem push0 {W w6 : World} {h : Array Obj} {g : Nat} {z : Obj} (hb : Below W.heap.size W w6) (hz : h[g]? = some z) (hW : W.heap = h) : w6.heap[g]? = some z := by
  subst hW
  exact (hb.block _ (Nat.lt_of_not_le fun hg => by rw [Array.getElem?_eq_none hg] at hz; cases hz)).trans hz
theorem push01 {W w6 : World} {h : Array Obj} {a : Obj} {g : Nat} {z : Obj} (hb : Below W.heap.size W w6) (hz : h[g]? = some z) (hW : W.heap = h.push a) : w6.heap[g]? = some z := by
  have hg : g < h.size := Nat.lt_of_not_le fun hg => by rw [Array.getElem?_eq_none hg] at hz; cases hz
  refine push0 hb ?_ hW
  rw [Array.getElem?_push, if_neg (by omega)]; exact hz
/-- A byte's cell, a token's block behind the first call. -/
theorem cA {w W w6 : World} {c : Int} (hb : Below W.heap.size W w6) (hW : W.heap = w.heap.push (.cells #[.int .u8 c] 5 (0, 0))) : w6.cell? ⟨w.heap.size, 0, none⟩ = some (.int .u8 c) ∧ w.heap.size < w6.heap.size := ⟨heap_cell (push1 hb hW).1, (push1 hb hW).2⟩
theorem cD {w W w6 : World} (hb : Below W.heap.size W w6) (hW : W.heap = w.heap.push zTok) : w6.heap[w.heap.size]? = some zTok ∧ w.heap.size < w6.heap.size := push1 hb hW
theorem cB {w W w6 : World} {c : Int} (hb : Below W.heap.size W w6) (hW : W.heap = (w.heap.push (.cells #[.int .u8 c] 5 (0, 0))).push zTok) : w6.cell? ⟨w.heap.size, 0, none⟩ = some (.int .u8 c) ∧ w6.heap[w.heap.size + 1]? = some zTok ∧ w.heap.size < w6.heap.size ∧ w.heap.size + 1 < w6.heap.size := ⟨heap_cell (push2 hb hW).1, (push2 hb hW).2⟩
theorem cC {w W w6 : World} {c : Int} (hb : Below W.heap.size W w6) (hW : W.heap = (w.heap.push zTok).push (.cells #[.int .u8 c] 5 (0, 0))) : w6.cell? ⟨w.heap.size + 1, 0, none⟩ = some (.int .u8 c) ∧ w6.heap[w.heap.size]? = some zTok ∧ w.heap.size < w6.heap.size ∧ w.heap.size + 1 < w6.heap.size := ⟨heap_cell (push2 hb hW).2.1, (push2 hb hW).1, (push2 hb hW).2.2⟩
theorem tk3 {w6 W w7 : World} (hb : Below W.heap.size W w7) (hW : W.heap = w6.heap.push zTok) : w7.heap[w6.heap.size]? = some zTok := (push1 hb hW).1
theorem tk4 {w6 W w7 : World} {x : Obj} (hb : Below W.heap.size W w7) (hW : W.heap = (w6.heap.push x).push zTok) : w7.heap[w6.heap.size + 1]? = some zTok := (push2 hb hW).2.1
theorem tk5 {w6 W w7 : World} {x : Obj} (hb : Below W.heap.size W w7) (hW : W.heap = (w6.heap.push zTok).push x) : w7.heap[w6.heap.size]? = some zTok := (push2 hb hW).1
/-- Where three tokens lie. -/
structure NumS (w W : World) (a b c : Nat) (A B C : Obj) : Prop where
  bel : Below w.heap.size w W
  h1 : W.heap[a]? = some A
  h2 : W.heap[b]? = some B
  h3 : W.heap[c]? = some C
theorem NumS.new {w W5 w7 : World} {a b : Nat} {A B : Obj} (h1 : W5.heap[a]? = some A) (h2 : W5.heap[b]? = some B) (hB : Below w.heap.size w W5) (hz : W5.heap.size = b + 1) (hab : a < b) (h7 : HN5 W5 w7) (V : Array Value) (t : TypeId) :
    NumS w (w7.alloc (.cells V t)) a b w7.heap.size A B (.cells V t (0, 0)) := by
  have hs := h7.out.size
  have h8 := h7.out.alloc hs (.cells V t)
  exact ⟨hB.trans (h8.mono hB.size), (h8.block a (by omega)).trans h1, (h8.block b (by omega)).trans h2, Array.getElem?_push_size⟩
theorem NumS.old {w W5 w7 : World} {a b g : Nat} {A B : Obj} {x0 x1 x2 x3 x4 : Value} {t : TypeId} (h1 : W5.heap[a]? = some A) (h2 : W5.heap[b]? = some B) (hB : Below w.heap.size w W5) (hz : W5.heap.size = b + 1) (hab : a < b) (h7 : HN5 W5 w7) (hW : w7.heap[g]? = some (.cells #[x0, x1, x2, x3, x4] t (0, 0))) (hg : W5.heap.size ≤ g) (v0 v1 v2 v3 v4 : Value) :
    NumS w (((((w7.setCell ⟨g, 0, none⟩ v0).setCell ⟨g, 1, none⟩ v1).setCell ⟨g, 2, none⟩ v2).setCell ⟨g, 3, none⟩ v3).setCell ⟨g, 4, none⟩ v4) a b g A B (.cells #[v0, v1, v2, v3, v4] t (0, 0)) := by
  have h8 := (h7.set5 hg v0 v1 v2 v3 v4).out
  exact ⟨hB.trans (h8.mono hB.size), (h8.block a (by omega)).trans h1, (h8.block b (by omega)).trans h2, set5 hW⟩
set_option maxRecDepth 100000 in
set_option maxHeartbeats 4000000 in
theorem lexNumbers_core (n : Nat) (c : Nat) (w : World) (T U V : Lx.Tk) (D1 D2 : ByteArray) (lt : Bool) (hn : n ≤ 4294967295) (hc : c ≤ 255) (hD1 : D1.size ≤ 20) (hD2 : D2.size ≤ 20)
    (hlt : lt = ((decide (97 ≤ (c : Int)) && decide ((c : Int) ≤ 122)) || (decide (65 ≤ (c : Int)) && decide ((c : Int) ≤ 90)) || decide ((c : Int) = 95) || decide ((c : Int) = 36)))
    (hT : (T.k = if 2147483647 < n then 6 else 1) ∧ (¬ 2147483647 < n → T.n = n)) (hU : U.k = 6) (hV : ¬ (48 ≤ c ∧ c ≤ 57) → (V.k = if lt = true then 6 else 1) ∧ (lt = false → V.n = n % 1000))
    (H1 : Hid (∀ W, Below w.heap.size w W → Calls Tryd.prog 19 #[.int .i64 (n : Int)] W fun e w' => e = .returned (.string D1) ∧ Below W.heap.size W w' ∧ Below w.heap.size w w'))
    (H2 : Hid (∀ (K : Int) W, K = ((n % 1000 : Nat) : Int) → Calls Tryd.prog 19 #[.int .i64 K] W fun e w' => e = .returned (.string D2) ∧ Below W.heap.size W w'))
    (HN1 : Hid (∀ W, Below w.heap.size w W → Calls Tryd.prog 10 #[.string D1, .int .i64 0] W fun e w' => e = .returned (.agg (tkA T)) ∧ Below W.heap.size W w' ∧ Below w.heap.size w w'))
    (HN2 : Hid (∀ W, Below w.heap.size w W → Calls Tryd.prog 10 #[.string (⟨#[48]⟩ ++ D1), .int .i64 0] W fun e w' => e = .returned (.agg (tkA U)) ∧ Below W.heap.size W w' ∧ Below w.heap.size w w'))
    (HN3 : Hid (∀ W, Below w.heap.size w W → Calls Tryd.prog 10 #[.string (D2 ++ ⟨#[UInt8.ofNat c]⟩), .int .i64 0] W fun e w' => e = .returned (.agg (tkA V)) ∧ Below W.heap.size W w' ∧ Below w.heap.size w w'))
    (HK : Hid (∀ W, Below w.heap.size w W → Calls Tryd.prog 9 #[] W fun e w' => e = .returned (.bool true) ∧ Below w.heap.size w w')) :
    Calls Tryd.prog 7 #[.int .u32 (n : Int), .int .u8 (c : Int)] w fun e w' => e = .returned (.bool true) ∧ Below w.heap.size w w' := by
  have hn' : (n : Int) ≤ 4294967295 := by omega
  have hc' : (c : Int) ≤ 255 := by omega
  have hf2 : ¬ 9223372036854775807 < 1 + D1.size := by omega
  have hf3 : ¬ 9223372036854775807 < D2.size + 1 := by omega
  obtain ⟨t0, t1, t2, t3, t4, t5⟩ := T
  obtain ⟨u0, u1, u2, u3, u4, u5⟩ := U
  obtain ⟨v0, v1, v2, v3, v4, v5⟩ := V
  simp only at hT hU hV
  have HV : Hid (_) := hV
  have HT : Hid (_) := hT
  have HL : Hid (_) := hlt
  subst hU
  clear hV hT hlt
  simp only [tkA] at HN1 HN2 HN3
  go_enter Tryd.func7, Tryd.ntmps7
  go_wp2_with fail
  refine Calls.mono (H1.out _ (Below.refl _ _)) ?_
  rintro e w1 ⟨rfl, _, hb1⟩
  go_wp2_with fail
  refine Calls.mono (HN1.out _ hb1) ?_
  rintro e w2 ⟨rfl, _, hb2⟩
  clear HN1 hb1
  have hz2 := hb2.size
  have hX : (w2.alloc (.cells #[.int .i64 (t0 : Int), .string ⟨t1.toArray⟩, .int .i64 (t2 : Int), .int .i64 (t3 : Int), .bool t4] 24)).heap[w2.heap.size]? = some (.cells #[.int .i64 (t0 : Int), .string ⟨t1.toArray⟩, .int .i64 (t2 : Int), .int .i64 (t3 : Int), .bool t4] 24 (0, 0)) := Array.getElem?_push_size
  go_wp2_with fail
  refine Calls.mono (H1.out _ (hb2.alloc hz2 _)) ?_
  rintro e w3 ⟨rfl, hc3, hb3⟩
  have hz3 := hc3.size
  rw [alloc_size] at hz3
  have hX3 := (hc3.block w2.heap.size (by rw [alloc_size]; omega)).trans hX
  clear H1 hc3 hX hb2
  go_wp2_with fail
  refine Calls.mono (HN2.out _ hb3) ?_
  rintro e w4 ⟨rfl, hc4, hb4⟩
  have hz4 := hc4.size
  have hX4 := (hc4.block w2.heap.size (by omega)).trans hX3
  have hz4w := hb4.size
  clear HN2 hc4 hX3 hb3
  have hY : (w4.alloc (.cells #[.int .i64 6, .string ⟨u1.toArray⟩, .int .i64 (u2 : Int), .int .i64 (u3 : Int), .bool u4] 24)).heap[w4.heap.size]? = some (.cells #[.int .i64 6, .string ⟨u1.toArray⟩, .int .i64 (u2 : Int), .int .i64 (u3 : Int), .bool u4] 24 (0, 0)) := Array.getElem?_push_size
  have hX5 := ((Below.refl w4.heap.size w4).alloc (Nat.le_refl _) (.cells #[.int .i64 6, .string ⟨u1.toArray⟩, .int .i64 (u2 : Int), .int .i64 (u3 : Int), .bool u4] 24)).block w2.heap.size (by omega) |>.trans hX4
  have hB5 := hb4.alloc hz4w (.cells #[.int .i64 6, .string ⟨u1.toArray⟩, .int .i64 (u2 : Int), .int .i64 (u3 : Int), .bool u4] 24)
  have hz5 : (w4.alloc (.cells #[.int .i64 6, .string ⟨u1.toArray⟩, .int .i64 (u2 : Int), .int .i64 (u3 : Int), .bool u4] 24)).heap.size = w4.heap.size + 1 := alloc_size _ _
  have hlt5 : w2.heap.size < w4.heap.size := by omega
  clear hX4 hb4
  obtain ⟨W5, hW5⟩ : ∃ W5, w4.alloc (.cells #[.int .i64 6, .string ⟨u1.toArray⟩, .int .i64 (u2 : Int), .int .i64 (u3 : Int), .bool u4] 24) = W5 := ⟨_, rfl⟩
  rw [hW5] at hY hX5 hB5 hz5
  have HX5 : Hid (W5.heap[w2.heap.size]? = _) := hX5
  have HY5 : Hid (W5.heap[w4.heap.size]? = _) := hY
  have HB5 : Hid (Below w.heap.size w W5) := hB5
  have HZ5 : Hid (W5.heap.size = w4.heap.size + 1) := hz5
  have HN3' : Hid (∀ W, HN5 W5 W → Calls Tryd.prog 10 #[.string (D2 ++ ⟨#[UInt8.ofNat c]⟩), .int .i64 0] W fun e w' => e = .returned (.agg #[.int .i64 (v0 : Int), .string ⟨v1.toArray⟩, .int .i64 (v2 : Int), .int .i64 (v3 : Int), .bool v4]) ∧ HN5 W5 w' ∧ (∀ p : Addr, p.block < W.heap.size → w'.cell? p = W.cell? p) ∧ (∀ p : Addr, p.block < W.heap.size → w'.frozen? p = W.frozen? p) ∧ W.heap.size ≤ w'.heap.size ∧ Hid (Below W.heap.size W w')) := (fun W hW =>
    (HN3.out W (HB5.out.trans (hW.out.mono HB5.out.size))).mono (by rintro e w' ⟨rfl, hb, _⟩; exact ⟨rfl, hW.go hb, fun p hp => hb.cell hp, fun p hp => hb.frozen hp, hb.size, hb⟩))
  have htm : (n : Int).tmod 1000 = (n : Int) % 1000 := Int.tmod_eq_emod_of_nonneg (by omega)
  have hcv := conv_one c (by omega)
  have hcd := conv_drew c (by omega)
  have hca := fun b => conv_at c b (by omega)
  have HD2 : Hid (∀ (K : Int) W, K = (n : Int) % 1000 → HN5 W5 W → Calls Tryd.prog 19 #[.int .i64 K] W fun e w' => e = .returned (.string D2) ∧ HN5 W5 w' ∧ (∀ p : Addr, p.block < W.heap.size → w'.cell? p = W.cell? p) ∧ (∀ p : Addr, p.block < W.heap.size → w'.frozen? p = W.frozen? p) ∧ W.heap.size ≤ w'.heap.size ∧ Hid (Below W.heap.size W w')) := (fun K W hK hW =>
    (H2.out K W (by omega)).mono (by rintro e w' ⟨rfl, hb⟩; exact ⟨rfl, hW.go hb, fun p hp => hb.cell hp, fun p hp => hb.frozen hp, hb.size, hb⟩))
  clear hX5 hY hB5 hz5 HN3 H2
  go_upto_region 4 with fail
  go_cut [8] (fun p wx => ∃ b, p = .pointer (some ⟨b, 0, none⟩) ∧ Hid (NumS w wx w2.heap.size w4.heap.size b (.cells #[.int .i64 (t0 : Int), .string ⟨t1.toArray⟩, .int .i64 (t2 : Int), .int .i64 (t3 : Int), .bool t4] 24 (0, 0)) (.cells #[.int .i64 6, .string ⟨u1.toArray⟩, .int .i64 (u2 : Int), .int .i64 (u3 : Int), .bool u4] 24 (0, 0)) (.cells #[.int .i64 (v0 : Int), .string ⟨v1.toArray⟩, .int .i64 (v2 : Int), .int .i64 (v3 : Int), .bool v4] 24 (0, 0))))
  case first =>
    clear HK hW5 HV HT HL
    have hS5 : HN5 W5 W5 := (show Below _ _ _ from Below.refl _ _)
    go_region_with (first | (go_at_call 19; refine Calls.mono (HD2.out _ _ (by rfl) (by repeat (first | with_reducible assumption | with_reducible refine HN5.drew ?_ | with_reducible refine HN5.alloc ?_ _ | with_reducible refine HN5.set5 ?_ (by first | exact Nat.le_refl _ | (simp; done) | omega | (simp; omega)) _ _ _ _ _))) ?_; rintro e w6 ⟨rfl, hW6, hc6, hf6, hs6, HB6⟩; have hz6 := hW6.out.size; first | (obtain ⟨hx6, hz6z, hl6, hl7⟩ := cB (w := W5) HB6.out rfl) | (obtain ⟨hx6, hz6z, hl6, hl7⟩ := cC (w := W5) HB6.out rfl) | (obtain ⟨hx6, hl6⟩ := cA (w := W5) HB6.out rfl) | (obtain ⟨hz6z, hl6⟩ := cD (w := W5) HB6.out rfl) | skip) | (go_at_call 10; refine Calls.mono (HN3'.out _ (by repeat (first | with_reducible assumption | with_reducible refine HN5.drew ?_ | with_reducible refine HN5.alloc ?_ _ | with_reducible refine HN5.set5 ?_ (by first | exact Nat.le_refl _ | (simp; done) | omega | (simp; omega)) _ _ _ _ _))) ?_; rintro e w7 ⟨rfl, hW7, hc7, hf7, hs7, HB7⟩; have hz7 := hW7.out.size; first | (have HZ7 := push0 HB7.out hz6z rfl; obtain ⟨p0, p1, p2, p3, p4, e0, e1, e2, e3, e4, hl8⟩ := cells5h HZ7) | (have HZ7 := push01 HB7.out hz6z rfl; obtain ⟨p0, p1, p2, p3, p4, e0, e1, e2, e3, e4, hl8⟩ := cells5h HZ7) | (have HZ7 := tk3 (w6 := w6) HB7.out rfl; obtain ⟨p0, p1, p2, p3, p4, e0, e1, e2, e3, e4, hl8⟩ := cells5h HZ7) | (have HZ7 := tk4 (w6 := w6) HB7.out rfl; obtain ⟨p0, p1, p2, p3, p4, e0, e1, e2, e3, e4, hl8⟩ := cells5h HZ7) | (have HZ7 := tk5 (w6 := w6) HB7.out rfl; obtain ⟨p0, p1, p2, p3, p4, e0, e1, e2, e3, e4, hl8⟩ := cells5h HZ7) | skip))
    all_goals
      go_wp2_with fail
      go_meet
      case rel => exact ⟨_, rfl, (show NumS _ _ _ _ _ _ _ _ from by first | with_reducible exact NumS.new HX5.out HY5.out HB5.out HZ5.out hlt5 hW7 _ _ | with_reducible exact NumS.old HX5.out HY5.out HB5.out HZ5.out hlt5 hW7 HZ7 (by first | exact Nat.le_refl _ | (simp; done) | omega | (simp; omega)) _ _ _ _ _ | exact NumS.old HX5.out HY5.out HB5.out HZ5.out hlt5 hW7 (tk3 (w6 := w6) HB7.out rfl) (by omega) _ _ _ _ _ | exact NumS.old HX5.out HY5.out HB5.out HZ5.out hlt5 hW7 (tk4 (w6 := w6) HB7.out rfl) (by omega) _ _ _ _ _ | exact NumS.old HX5.out HY5.out HB5.out HZ5.out hlt5 hW7 (tk5 (w6 := w6) HB7.out rfl) (by omega) _ _ _ _ _)⟩
  case rest =>
    clear HX5 HY5 HB5 HN3' hcv hcd hca HD2 HZ5 hW5
    obtain ⟨b, rfl, HS⟩ := hcut
    go_upto_region 5 with fail
    go_cut [9] (fun l wx => l = .bool lt ∧ wx = wc)
    case first =>
      clear HS HK HV HT
      by_cases h5 : (c : Int) = 95
      · have e5 : ((c : Int) == 95) = true := by rw [beq_iff_eq]; exact h5
        go_wp2_with fail
        go_meet
        case rel => exact ⟨congrArg Value.bool (by rw [HL.out]; simp [h5]), rfl⟩
      by_cases h6 : (c : Int) = 36
      · have e6 : ((c : Int) == 36) = true := by rw [beq_iff_eq]; exact h6
        go_wp2_with fail
        go_meet
        case rel => exact ⟨congrArg Value.bool (by rw [HL.out]; simp [h6]), rfl⟩
      have e5 : ((c : Int) == 95) = false := by simpa using h5
      have e6 : ((c : Int) == 36) = false := by simpa using h6
      by_cases h1 : 97 ≤ (c : Int)
      all_goals
        by_cases h2 : (c : Int) ≤ 122
        all_goals
          by_cases h3 : 65 ≤ (c : Int)
          all_goals
            by_cases h4 : (c : Int) ≤ 90
            all_goals
              first
              | (exfalso; omega)
              | (go_wp2_with fail
                 go_meet
                 case rel => exact ⟨congrArg Value.bool (by rw [HL.out]; simp [h1, h2, h3, h4, h5, h6]), rfl⟩)
    case rest =>
      obtain ⟨rfl, rfl⟩ := hcut
      have HBW : Hid (Below w.heap.size w wc) := HS.out.bel
      by_cases h48 : 48 ≤ c
      · have h48' : (48 : Int) ≤ c := by omega
        by_cases h57 : c ≤ 57
        · have h57' : (c : Int) ≤ 57 := by omega
          clear HS HV HT HL
          go_wp2_with fail
          refine Calls.mono (HK.out _ HBW.out) ?_
          rintro e w9 ⟨rfl, hb9⟩
          go_wp2_with fail
          go_ret
          exact ⟨rfl, hb9⟩
        have h57' : ¬ (c : Int) ≤ 57 := by omega
        obtain ⟨hv0, hv2⟩ := HV.out (by omega)
        have hS := HS.out
        obtain ⟨q0, q1, q2, q3, q4, f0, f1, f2, f3, f4, hq⟩ := cells5h hS.h1
        obtain ⟨r0, r1, r2, r3, r4, g0, g1, g2, g3, g4, hr⟩ := cells5h hS.h2
        obtain ⟨p0, p1, p2, p3, p4, e0, e1, e2, e3, e4, hp⟩ := cells5h hS.h3
        obtain ⟨ht0, ht2⟩ := HT.out
        clear hS HS HV HT HL
        by_cases hmax : 2147483647 < n
        · have hmax' : ¬ (n : Int) ≤ 2147483647 := by omega
          rw [if_pos hmax] at ht0
          subst ht0
          clear ht2
          cases lt
          · rw [if_neg (by simp)] at hv0
            have hv3 := hv2 rfl
            subst hv0; subst hv3
            clear hv2
            go_wp2_with fail
            refine Calls.mono (HK.out _ HBW.out) ?_
            rintro e w9 ⟨rfl, hb9⟩
            go_wp2_with fail
            go_ret
            exact ⟨rfl, hb9⟩
          · rw [if_pos rfl] at hv0
            subst hv0
            clear hv2
            go_wp2_with fail
            refine Calls.mono (HK.out _ HBW.out) ?_
            rintro e w9 ⟨rfl, hb9⟩
            go_wp2_with fail
            go_ret
            exact ⟨rfl, hb9⟩
        · have hmax' : (n : Int) ≤ 2147483647 := by omega
          rw [if_neg hmax] at ht0
          have ht3 := ht2 hmax
          subst ht0; subst ht3
          clear ht2
          cases lt
          · rw [if_neg (by simp)] at hv0
            have hv3 := hv2 rfl
            subst hv0; subst hv3
            clear hv2
            go_wp2_with fail
            refine Calls.mono (HK.out _ HBW.out) ?_
            rintro e w9 ⟨rfl, hb9⟩
            go_wp2_with fail
            go_ret
            exact ⟨rfl, hb9⟩
          · rw [if_pos rfl] at hv0
            subst hv0
            clear hv2
            go_wp2_with fail
            refine Calls.mono (HK.out _ HBW.out) ?_
            rintro e w9 ⟨rfl, hb9⟩
            go_wp2_with fail
            go_ret
            exact ⟨rfl, hb9⟩
      · have h48' : ¬ (48 : Int) ≤ c := by omega
        obtain ⟨hv0, hv2⟩ := HV.out (by omega)
        have hS := HS.out
        obtain ⟨q0, q1, q2, q3, q4, f0, f1, f2, f3, f4, hq⟩ := cells5h hS.h1
        obtain ⟨r0, r1, r2, r3, r4, g0, g1, g2, g3, g4, hr⟩ := cells5h hS.h2
        obtain ⟨p0, p1, p2, p3, p4, e0, e1, e2, e3, e4, hp⟩ := cells5h hS.h3
        obtain ⟨ht0, ht2⟩ := HT.out
        clear hS HS HV HT HL
        by_cases hmax : 2147483647 < n
        · have hmax' : ¬ (n : Int) ≤ 2147483647 := by omega
          rw [if_pos hmax] at ht0
          subst ht0
          clear ht2
          cases lt
          · rw [if_neg (by simp)] at hv0
            have hv3 := hv2 rfl
            subst hv0; subst hv3
            clear hv2
            go_wp2_with fail
            refine Calls.mono (HK.out _ HBW.out) ?_
            rintro e w9 ⟨rfl, hb9⟩
            go_wp2_with fail
            go_ret
            exact ⟨rfl, hb9⟩
          · rw [if_pos rfl] at hv0
            subst hv0
            clear hv2
            go_wp2_with fail
            refine Calls.mono (HK.out _ HBW.out) ?_
            rintro e w9 ⟨rfl, hb9⟩
            go_wp2_with fail
            go_ret
            exact ⟨rfl, hb9⟩
        · have hmax' : (n : Int) ≤ 2147483647 := by omega
          rw [if_neg hmax] at ht0
          have ht3 := ht2 hmax
          subst ht0; subst ht3
          clear ht2
          cases lt
          · rw [if_neg (by simp)] at hv0
            have hv3 := hv2 rfl
            subst hv0; subst hv3
            clear hv2
            go_wp2_with fail
            refine Calls.mono (HK.out _ HBW.out) ?_
            rintro e w9 ⟨rfl, hb9⟩
            go_wp2_with fail
            go_ret
            exact ⟨rfl, hb9⟩
          · rw [if_pos rfl] at hv0
            subst hv0
            clear hv2
            go_wp2_with fail
            refine Calls.mono (HK.out _ HBW.out) ?_
            rintro e w9 ⟨rfl, hb9⟩
            go_wp2_with fail
            go_ret
            exact ⟨rfl, hb9⟩
theorem lexNumbers_walk (n c : Int) (w : World) (hn : 0 ≤ n ∧ n ≤ 4294967295) (hc : 0 ≤ c ∧ c ≤ 255) (hg : Sig w) :
    Calls Tryd.prog 7 #[.int .u32 n, .int .u8 c] w fun e w' => e = .returned (.bool true) ∧ Below w.heap.size w w' := by
  obtain ⟨n, rfl⟩ := Int.eq_ofNat_of_zero_le hn.1
  obtain ⟨c, rfl⟩ := Int.eq_ofNat_of_zero_le hc.1
  have hn' : n ≤ 4294967295 := by omega
  have hc' : c ≤ 255 := by omega
  have hl1 : (Lx.dg n).length ≤ 10 := Lx.dg_max 10 n (by omega) (by omega)
  have hl2 : (Lx.dg (n % 1000)).length ≤ 10 := Lx.dg_max 10 _ (by omega) (by omega)
  have hcn : (UInt8.ofNat c).toNat = c := by rw [UInt8.toNat_ofNat']; omega
  have hle : Lx.letter (UInt8.ofNat c) = ((decide (97 ≤ (c : Int)) && decide ((c : Int) ≤ 122)) || (decide (65 ≤ (c : Int)) && decide ((c : Int) ≤ 90)) || decide ((c : Int) = 95) || decide ((c : Int) = 36)) := by
    unfold Lx.letter; rw [hcn]; congr 1; congr 1; congr 1; congr 1
    all_goals first | (apply decide_eq_decide.2; omega) | (congr 1 <;> (apply decide_eq_decide.2; omega))
  have nx : ∀ (l : List UInt8), l.length ≤ 100 → ∀ W, Below w.heap.size w W → Calls Tryd.prog 10 #[.string ⟨l.toArray⟩, .int .i64 0] W fun e w' => e = .returned (.agg (tkA (Lx.tok l 0))) ∧ Below W.heap.size W w' ∧ Below w.heap.size w w' := fun l hl W hW => by
    have h := Next_any ⟨l.toArray⟩ 0 W (by show l.length ≤ _; omega) (hg.below hW)
    rw [show plc 0 (⟨l.toArray⟩ : ByteArray).size = 0 by simp [plc]] at h
    refine h.mono ?_
    rintro e w' ⟨rfl, hb⟩
    exact ⟨rfl, hb, hW.trans (hb.mono hW.size)⟩
  refine lexNumbers_core n c w (Lx.tok (Lx.dg n) 0) (Lx.tok (48 :: Lx.dg n) 0) (Lx.tok (Lx.dg (n % 1000) ++ [UInt8.ofNat c]) 0) ⟨(Lx.dg n).toArray⟩ ⟨(Lx.dg (n % 1000)).toArray⟩ (Lx.letter (UInt8.ofNat c)) hn' hc' (by show (Lx.dg n).length ≤ _; omega) (by show (Lx.dg (n % 1000)).length ≤ _; omega) hle ?_ (tok_nought n) (fun h => ?_)
    (fun W hW => (rdigits_any n W hn').mono (by rintro e w' ⟨rfl, hb⟩; exact ⟨rfl, hb, hW.trans (hb.mono hW.size)⟩)) (fun K W hK => by subst hK; exact rdigits_any (n % 1000) W (by omega)) (nx _ (by omega)) (fun W hW => ?_) (fun W hW => ?_) (kit_awake hg)
  · rw [tok_dg]
    by_cases h : 2147483647 < n
    · rw [if_pos h, if_pos h]; exact ⟨rfl, fun h' => absurd h h'⟩
    · rw [if_neg h, if_neg h]; exact ⟨rfl, fun _ => rfl⟩
  · have hd : Lx.digit (UInt8.ofNat c) = false := by
      unfold Lx.digit; rw [hcn]; simp; omega
    have := tok_behind (n % 1000) (UInt8.ofNat c) hd (by omega)
    exact ⟨this.1, this.2⟩
  · have h := nx (48 :: Lx.dg n) (by rw [List.length_cons]; omega) W hW
    rw [show (⟨(48 :: Lx.dg n).toArray⟩ : ByteArray) = ⟨#[48]⟩ ++ ⟨(Lx.dg n).toArray⟩ from (string_add [48] (Lx.dg n)).symm] at h
    exact h
  · have h := nx (Lx.dg (n % 1000) ++ [UInt8.ofNat c]) (by rw [List.length_append]; simp; omega) W hW
    rw [← string_add] at h
    exact h
end Go.Proofs.YtbciecmikcloaaaDoor.L
