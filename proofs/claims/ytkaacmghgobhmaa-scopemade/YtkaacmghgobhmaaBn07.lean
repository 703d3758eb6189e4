/- Texts: QO QC QD. -/
import Derived.Test.YtkaacmghgobhmaaBn06
import Derived.Deep.QuietTactic
import Derived.BigQuiet
section
namespace Go.Proofs.Ytkaacmghgobhmaa.Rd
open Go.RowKit
open L (tkA own_block own_below intOf info_of size_list wpList_append_run)
set_option linter.unusedVariables false
theorem RS.keepF {src : ByteArray} {F : Nat → Prop} {base B dep : Nat} {s : Rp.Rt} {nv nv' : Value} {W W' : World} (h : RS src F base B dep s nv W) (c : Chg B nv nv' W W') {g : Nat} (hg : F g) : W'.heap[g]? = W.heap[g]? := c.block g (h.far g hg).1 (h.far g hg).2.1 (h.far g hg).2.2
section
variable {src : ByteArray} {F : Nat → Prop} {base B dep : Nat} {s s' : Rp.Rt} {nv nv' : Value} {w0 W W' : World} {e : TypeId} {v : Value} {n : Nat} {xs : List Value}
/-- A row behind another one, and what stays. -/
theorem KO.name2 {N : List (List UInt8)} (h : KO src F base B dep s nv w0 W 9 v N.length (nc N)) (x : List UInt8) (hn : N.length + 1 ≤ 1000000) :
    ∃ a' cap' w3, (Builtin.append_ #[35, 35] 35 #[v, .slice (some ⟨W.heap.size, 0, none⟩) 1 1]).run Try.prog (W.alloc (.cells #[.string ⟨x.toArray⟩] 9)) = .ok (.slice a' (N.length + 1) cap') w3 ∧ KO src F base B dep s nv w0 w3 9 (.slice a' (N ++ [x]).length cap') (N ++ [x]).length (nc (N ++ [x])) ∧ (∀ nv0, Chg B nv0 nv w0 W → Chg B nv0 nv w0 w3) ∧
      W.heap.size ≤ w3.heap.size ∧ (∀ k, k < W.heap.size → v.ownBlock ≠ some k → w3.heap[k]? = W.heap[k]?) ∧ (∀ k, (Value.slice a' (N ++ [x]).length cap').ownBlock = some k → v.ownBlock = some k ∨ W.heap.size ≤ k) := by
  obtain ⟨i0, hi, hz0, hz1, hz2⟩ := info_of infoStr
  have hW : Below W.heap.size W (W.alloc (.cells #[.string ⟨x.toArray⟩] 9)) := (Below.refl _ _).alloc (Nat.le_refl _) _
  have ho1 := own_below h.own hW
  have nl := own_block h.own
  have hnews : ∀ j u, [Value.string ⟨x.toArray⟩][j]? = some u → (W.alloc (.cells #[.string ⟨x.toArray⟩] 9)).cell? ((⟨W.heap.size, 0, none⟩ : Addr).add j) = some u := fun j u hj => by
    have hj0 : j = 0 := by
      rcases Nat.lt_or_ge j 1 with h | h
      · omega
      · rw [List.getElem?_eq_none (by simpa using h)] at hj; cases hj
    subst hj0
    simp at hj; subst hj; simp [Addr.add]
  obtain ⟨v', w3, hr, ho, hg, _, hat⟩ := run_append_own_at (P := Try.prog) (W.alloc (.cells #[.string ⟨x.toArray⟩] 9)) w0.heap.size 35 35 9 i0 _ 1 16 Try.underlying35 hi hz0 hz1 hz2 rfl (by decide) v N.length (nc N) ho1 ⟨W.heap.size, 0, none⟩ 1 1 [.string ⟨x.toArray⟩] rfl hnews (by intro u hu; simp at hu; subst hu; rfl) (by unfold maxLen; omega) (by omega) (Nat.le_trans h.sz hW.size)
  obtain ⟨a, cap, rfl⟩ : ∃ a cap, v' = .slice a (N.length + 1) cap := by
    rcases ho.2 with ⟨_, e⟩ | ⟨g, cap, cur, e, _⟩
    · omega
    · exact ⟨_, _, e⟩
  have hsz : W.heap.size ≤ w3.heap.size := Nat.le_trans hW.size hg.size
  have nl' := own_block ho
  have hbl : ∀ k, k < W.heap.size → v.ownBlock ≠ some k → w3.heap[k]? = W.heap[k]? := fun k hk hne => (hg.block k (Nat.lt_of_lt_of_le hk hW.size) (fun e => hne e.symm)).trans (hW.block k hk)
  have hnew : ∀ k, (Value.slice a (N.length + 1) cap).ownBlock = some k → v.ownBlock = some k ∨ W.heap.size ≤ k := fun k hk => by
    rcases hat with e | e
    · exact .inl (e ▸ hk)
    · rw [e] at hk
      have hk' : (W.alloc (.cells #[.string ⟨x.toArray⟩] 9)).heap.size = k := by simpa using hk
      exact .inr (by have := hW.size; omega)
  have hl : (N ++ [x]).length = N.length + 1 := by simp
  refine ⟨a, cap, w3, hr, ?_, fun nv0 c0 => ⟨hg.os.trans (hW.os.trans c0.os), hg.tape.trans (hW.tape.trans c0.tape), hg.output.trans (hW.output.trans c0.output), Nat.le_trans c0.size hsz, fun k hk h2 h3 => (hbl k (Nat.lt_of_lt_of_le hk c0.size) (fun e => by have := (nl k e).1; omega)).trans (c0.block k hk h2 h3), c0.fresh⟩, hsz, hbl, by rw [hl]; exact hnew⟩
  rw [hl]
  refine ⟨h.rs.grow hsz (fun k hk hnf => hbl k hk (fun e => hnf (.inr e))) (fun k hk => ?_), by simpa using ho, Nat.le_trans h.sz hsz⟩
  rcases hk with hk | hk
  · have := (h.rs.far k (.inl hk)).1
    exact ⟨.inl (.inl hk), by omega⟩
  · refine ⟨?_, (nl' k hk).2⟩
    rcases hnew k hk with e | e
    · exact .inl (.inr e)
    · exact .inr e
/-- One kid behind a row, and what stays. -/
theorem KO.kid2 {K : List Nat} (h : KO src F base B dep s nv w0 W 3 v K.length (kc K)) (x : Nat) (hn : K.length + 1 ≤ 1000000) :
    ∃ a' cap' w3, (Builtin.append_ #[36, 36] 36 #[v, .slice (some ⟨W.heap.size, 0, none⟩) 1 1]).run Try.prog (W.alloc (.cells #[.int .i64 (x : Int)] 3)) = .ok (.slice a' (K.length + 1) cap') w3 ∧ KO src F base B dep s nv w0 w3 3 (.slice a' (K ++ [x]).length cap') (K ++ [x]).length (kc (K ++ [x])) ∧ (∀ nv0, Chg B nv0 nv w0 W → Chg B nv0 nv w0 w3) ∧
      W.heap.size ≤ w3.heap.size ∧ (∀ k, k < W.heap.size → v.ownBlock ≠ some k → w3.heap[k]? = W.heap[k]?) ∧ (∀ k, (Value.slice a' (K ++ [x]).length cap').ownBlock = some k → v.ownBlock = some k ∨ W.heap.size ≤ k) := by
  obtain ⟨i0, hi, hz0, hz1, hz2⟩ := info_of infoInt
  have hW : Below W.heap.size W (W.alloc (.cells #[.int .i64 (x : Int)] 3)) := (Below.refl _ _).alloc (Nat.le_refl _) _
  have ho1 := own_below h.own hW
  have nl := own_block h.own
  have hnews : ∀ j u, [Value.int .i64 (x : Int)][j]? = some u → (W.alloc (.cells #[.int .i64 (x : Int)] 3)).cell? ((⟨W.heap.size, 0, none⟩ : Addr).add j) = some u := fun j u hj => by
    have hj0 : j = 0 := by
      rcases Nat.lt_or_ge j 1 with h | h
      · omega
      · rw [List.getElem?_eq_none (by simpa using h)] at hj; cases hj
    subst hj0
    simp at hj; subst hj; simp [Addr.add]
  obtain ⟨v', w3, hr, ho, hg, _, hat⟩ := run_append_own_at (P := Try.prog) (W.alloc (.cells #[.int .i64 (x : Int)] 3)) w0.heap.size 36 36 3 i0 _ 1 8 Try.underlying36 hi hz0 hz1 hz2 rfl (by decide) v K.length (kc K) ho1 ⟨W.heap.size, 0, none⟩ 1 1 [.int .i64 (x : Int)] rfl hnews (by intro u hu; simp at hu; subst hu; rfl) (by unfold maxLen; omega) (by omega) (Nat.le_trans h.sz hW.size)
  obtain ⟨a, cap, rfl⟩ : ∃ a cap, v' = .slice a (K.length + 1) cap := by
    rcases ho.2 with ⟨_, e⟩ | ⟨g, cap, cur, e, _⟩
    · omega
    · exact ⟨_, _, e⟩
  have hsz : W.heap.size ≤ w3.heap.size := Nat.le_trans hW.size hg.size
  have nl' := own_block ho
  have hbl : ∀ k, k < W.heap.size → v.ownBlock ≠ some k → w3.heap[k]? = W.heap[k]? := fun k hk hne => (hg.block k (Nat.lt_of_lt_of_le hk hW.size) (fun e => hne e.symm)).trans (hW.block k hk)
  have hnew : ∀ k, (Value.slice a (K.length + 1) cap).ownBlock = some k → v.ownBlock = some k ∨ W.heap.size ≤ k := fun k hk => by
    rcases hat with e | e
    · exact .inl (e ▸ hk)
    · rw [e] at hk
      have hk' : (W.alloc (.cells #[.int .i64 (x : Int)] 3)).heap.size = k := by simpa using hk
      exact .inr (by have := hW.size; omega)
  have hl : (K ++ [x]).length = K.length + 1 := by simp
  refine ⟨a, cap, w3, hr, ?_, fun nv0 c0 => ⟨hg.os.trans (hW.os.trans c0.os), hg.tape.trans (hW.tape.trans c0.tape), hg.output.trans (hW.output.trans c0.output), Nat.le_trans c0.size hsz, fun k hk h2 h3 => (hbl k (Nat.lt_of_lt_of_le hk c0.size) (fun e => by have := (nl k e).1; omega)).trans (c0.block k hk h2 h3), c0.fresh⟩, hsz, hbl, by rw [hl]; exact hnew⟩
  rw [hl]
  refine ⟨h.rs.grow hsz (fun k hk hnf => hbl k hk (fun e => hnf (.inr e))) (fun k hk => ?_), by simpa using ho, Nat.le_trans h.sz hsz⟩
  rcases hk with hk | hk
  · have := (h.rs.far k (.inl hk)).1
    exact ⟨.inl (.inl hk), by omega⟩
  · refine ⟨?_, (nl' k hk).2⟩
    rcases hnew k hk with e | e
    · exact .inl (.inr e)
    · exact .inr e
end
/-- A node's box, its names' and its kids' rows, beside the reader. -/
structure Bx (src : ByteArray) (F : Nat → Prop) (base B dep : Nat) (s : Rp.Rt) (nv : Value) (w0 W : World) (X : Nat) (x0 x1 x2 x5 : Value) (N : List (List UInt8)) (na : Option Addr) (ncap : Nat) (K : List Nat) (ka : Option Addr) (kcap : Nat) : Prop where
  ko : KO src (fun k => (F k ∨ k = X) ∨ (Value.slice ka K.length kcap).ownBlock = some k) base B dep s nv w0 W 9 (.slice na N.length ncap) N.length (nc N)
  kd : W.ownsRow w0.heap.size 3 1 (.slice ka K.length kcap) K.length (kc K)
  box : W.heap[X]? = some (.cells #[x0, x1, x2, .slice na N.length ncap, .slice ka K.length kcap, x5] 38 (0, 0))
  nX : ∀ k, (Value.slice na N.length ncap).ownBlock = some k → k ≠ X ∧ ¬ F k ∧ (Value.slice ka K.length kcap).ownBlock ≠ some k
  kX : ∀ k, (Value.slice ka K.length kcap).ownBlock = some k → k ≠ X ∧ ¬ F k
  XF : ¬ F X ∧ w0.heap.size ≤ X
section
variable {src : ByteArray} {F : Nat → Prop} {base B dep : Nat} {s s' : Rp.Rt} {nv nv' : Value} {w0 W W' : World} {X : Nat} {x0 x1 x2 x5 : Value} {N : List (List UInt8)} {na : Option Addr} {ncap : Nat} {K : List Nat} {ka : Option Addr} {kcap : Nat}
theorem Bx.rs (h : Bx src F base B dep s nv w0 W X x0 x1 x2 x5 N na ncap K ka kcap) : RS src (fun k => ((F k ∨ k = X) ∨ (Value.slice ka K.length kcap).ownBlock = some k) ∨ (Value.slice na N.length ncap).ownBlock = some k) base B dep s nv W := h.ko.rs
theorem Bx.go (h : Bx src F base B dep s nv w0 W X x0 x1 x2 x5 N na ncap K ka kcap) (hr : RS src (fun k => ((F k ∨ k = X) ∨ (Value.slice ka K.length kcap).ownBlock = some k) ∨ (Value.slice na N.length ncap).ownBlock = some k) base B dep s' nv' W') (c : Chg B nv nv' W W') : Bx src F base B dep s' nv' w0 W' X x0 x1 x2 x5 N na ncap K ka kcap :=
  ⟨h.ko.go hr c, own_keep h.kd (fun k hk => h.rs.keepF c (.inl (.inr hk))), (h.rs.keepF c (.inl (.inl (.inr rfl)))).trans h.box, h.nX, h.kX, h.XF⟩
theorem Bx.facts (h : Bx src F base B dep s nv w0 W X x0 x1 x2 x5 N na ncap K ka kcap) : W.cell? ⟨X, 0, none⟩ = some x0 ∧ W.cell? ⟨X, 1, none⟩ = some x1 ∧ W.cell? ⟨X, 2, none⟩ = some x2 ∧ W.cell? ⟨X, 3, none⟩ = some (.slice na N.length ncap) ∧ W.cell? ⟨X, 4, none⟩ = some (.slice ka K.length kcap) ∧ W.cell? ⟨X, 5, none⟩ = some x5 ∧ W.frozen? ⟨X, 0, none⟩ = false ∧ W.frozen? ⟨X, 1, none⟩ = false ∧ W.frozen? ⟨X, 2, none⟩ = false ∧ W.frozen? ⟨X, 3, none⟩ = false ∧ W.frozen? ⟨X, 4, none⟩ = false ∧ W.frozen? ⟨X, 5, none⟩ = false ∧ X < W.heap.size := by
  have h1 := h.box
  refine ⟨?_, ?_, ?_, ?_, ?_, ?_, ?_, ?_, ?_, ?_, ?_, ?_, Nat.lt_of_not_le (fun hg => by rw [Array.getElem?_eq_none hg] at h1; cases h1)⟩ <;> simp [World.cell?, World.frozen?, h1]
/-- A store into one of the box's first cells. -/
theorem Bx.store (h : Bx src F base B dep s nv w0 W X x0 x1 x2 x5 N na ncap K ka kcap) {y0 y1 y2 y5 : Value} (i : Nat) (u : Value) (hb : (W.setCell ⟨X, i, none⟩ u).heap[X]? = some (.cells #[y0, y1, y2, .slice na N.length ncap, .slice ka K.length kcap, y5] 38 (0, 0))) : Bx src F base B dep s nv w0 (W.setCell ⟨X, i, none⟩ u) X y0 y1 y2 y5 N na ncap K ka kcap := by
  have hs : (W.setCell ⟨X, i, none⟩ u).heap.size = W.heap.size := by simp [World.setCell]
  have hne : ∀ k, k ≠ X → (W.setCell ⟨X, i, none⟩ u).heap[k]? = W.heap[k]? := fun k hk => Below.heap_setCell W ⟨X, i, none⟩ u k hk
  exact ⟨⟨h.rs.foreign (.inl (.inl (.inr rfl))) i u, own_keep h.ko.own (fun k hk => hne k (h.nX k hk).1), by rw [hs]; exact h.ko.sz⟩, own_keep h.kd (fun k hk => hne k (h.kX k hk).1), hb, h.nX, h.kX, h.XF⟩
theorem Bx.set0 (h : Bx src F base B dep s nv w0 W X x0 x1 x2 x5 N na ncap K ka kcap) (u : Value) : Bx src F base B dep s nv w0 (W.setCell ⟨X, 0, none⟩ u) X u x1 x2 x5 N na ncap K ka kcap := h.store 0 u (by have := h.box; simp [World.setCell, Array.getElem?_modify, this])
theorem Bx.set1 (h : Bx src F base B dep s nv w0 W X x0 x1 x2 x5 N na ncap K ka kcap) (u : Value) : Bx src F base B dep s nv w0 (W.setCell ⟨X, 1, none⟩ u) X x0 u x2 x5 N na ncap K ka kcap := h.store 1 u (by have := h.box; simp [World.setCell, Array.getElem?_modify, this])
theorem Bx.set2 (h : Bx src F base B dep s nv w0 W X x0 x1 x2 x5 N na ncap K ka kcap) (u : Value) : Bx src F base B dep s nv w0 (W.setCell ⟨X, 2, none⟩ u) X x0 x1 u x5 N na ncap K ka kcap := h.store 2 u (by have := h.box; simp [World.setCell, Array.getElem?_modify, this])
theorem Bx.set5 (h : Bx src F base B dep s nv w0 W X x0 x1 x2 x5 N na ncap K ka kcap) (u : Value) : Bx src F base B dep s nv w0 (W.setCell ⟨X, 5, none⟩ u) X x0 x1 x2 u N na ncap K ka kcap := h.store 5 u (by have := h.box; simp [World.setCell, Array.getElem?_modify, this])
/-- A new box. -/
theorem Bx.new (h : RS src F base B dep s nv W) (y0 y1 y2 y5 : Value) : Bx src F base B dep s nv W (W.alloc (.cells #[y0, y1, y2, .slice none 0 0, .slice none 0 0, y5] 38)) W.heap.size y0 y1 y2 y5 [] none 0 [] none 0 := by
  have hr := (h.more (.cells #[y0, y1, y2, .slice none 0 0, .slice none 0 0, y5] 38))
  have hs := alloc_size' W (.cells #[y0, y1, y2, .slice none 0 0, .slice none 0 0, y5] 38)
  exact ⟨KO.nil (hr.less (fun k hk => by
    rcases hk with hk | hk
    · exact hk
    · simp [Value.ownBlock] at hk)) (by rw [hs]; omega), ⟨rfl, .inl ⟨rfl, rfl⟩⟩, Array.getElem?_push_size, (fun k hk => nomatch hk), (fun k hk => nomatch hk), ⟨fun hf => by have := (h.far _ hf).1; omega, Nat.le_refl _⟩⟩
/-- One name more. -/
theorem Bx.name (h : Bx src F base B dep s nv w0 W X x0 x1 x2 x5 N na ncap K ka kcap) (x : List UInt8) (hn : N.length + 1 ≤ 1000000) :
    ∃ a' cap' w3, (Builtin.append_ #[35, 35] 35 #[.slice na N.length ncap, .slice (some ⟨W.heap.size, 0, none⟩) 1 1]).run Try.prog (W.alloc (.cells #[.string ⟨x.toArray⟩] 9)) = .ok (.slice a' (N.length + 1) cap') w3 ∧
      w3.cell? ⟨X, 3, none⟩ = some (.slice na N.length ncap) ∧ w3.frozen? ⟨X, 3, none⟩ = false ∧ X < w3.heap.size ∧ Bx src F base B dep s nv w0 (w3.setCell ⟨X, 3, none⟩ (.slice a' (N.length + 1) cap')) X x0 x1 x2 x5 (N ++ [x]) a' cap' K ka kcap ∧ (∀ nv0, Chg B nv0 nv w0 W → Chg B nv0 nv w0 (w3.setCell ⟨X, 3, none⟩ (.slice a' (N.length + 1) cap'))) := by
  obtain ⟨a', cap', w3, hr, hko, hc, hsz, hbl, hnew⟩ := h.ko.name2 x hn
  obtain ⟨_, _, _, _, _, _, _, _, _, _, _, _, hlX⟩ := h.facts
  have nX : (Value.slice na N.length ncap).ownBlock ≠ some X := fun e => (h.nX X e).1 rfl
  have hX3 := (hbl X hlX nX).trans h.box
  have hs : (w3.setCell ⟨X, 3, none⟩ (.slice a' (N.length + 1) cap')).heap.size = w3.heap.size := by simp [World.setCell]
  have hne : ∀ k, k ≠ X → (w3.setCell ⟨X, 3, none⟩ (.slice a' (N.length + 1) cap')).heap[k]? = w3.heap[k]? := fun k hk => Below.heap_setCell w3 ⟨X, 3, none⟩ _ k hk
  have hl : (N ++ [x]).length = N.length + 1 := by simp
  have hkl := own_block h.kd
  have hnk : ∀ k, (Value.slice a' (N ++ [x]).length cap').ownBlock = some k → k ≠ X ∧ ¬ F k ∧ (Value.slice ka K.length kcap).ownBlock ≠ some k := fun k hk => by
    rcases hnew k hk with e | e
    · exact h.nX k e
    · refine ⟨by omega, fun hF => ?_, fun hK => by have := (hkl k hK).2; omega⟩
      have := (h.rs.far k (.inl (.inl (.inl hF)))).1
      omega
  refine ⟨a', cap', w3, hr, by simp [World.cell?, hX3], by simp [World.frozen?, hX3], by omega, ⟨⟨hko.rs.foreign (.inl (.inl (.inr rfl))) 3 _, own_keep hko.own (fun k hk => hne k (hnk k hk).1), by rw [hs]; exact hko.sz⟩, ?_, ?_, hnk, h.kX, h.XF⟩, fun nv0 c0 => (hc nv0 c0).setX h.XF.2 3 _⟩
  · exact own_keep h.kd (fun k hk => (hne k (h.kX k hk).1).trans (hbl k (hkl k hk).2 (fun e => (h.nX k e).2.2 hk)))
  · rw [hl]; simp [World.setCell, Array.getElem?_modify, hX3]
/-- One kid more. -/
theorem Bx.kid (h : Bx src F base B dep s nv w0 W X x0 x1 x2 x5 N na ncap K ka kcap) (x : Nat) (hn : K.length + 1 ≤ 1000000) :
    ∃ a' cap' w3, (Builtin.append_ #[36, 36] 36 #[.slice ka K.length kcap, .slice (some ⟨W.heap.size, 0, none⟩) 1 1]).run Try.prog (W.alloc (.cells #[.int .i64 (x : Int)] 3)) = .ok (.slice a' (K.length + 1) cap') w3 ∧
      w3.cell? ⟨X, 4, none⟩ = some (.slice ka K.length kcap) ∧ w3.frozen? ⟨X, 4, none⟩ = false ∧ X < w3.heap.size ∧ Bx src F base B dep s nv w0 (w3.setCell ⟨X, 4, none⟩ (.slice a' (K.length + 1) cap')) X x0 x1 x2 x5 N na ncap (K ++ [x]) a' cap' ∧ (∀ nv0, Chg B nv0 nv w0 W → Chg B nv0 nv w0 (w3.setCell ⟨X, 4, none⟩ (.slice a' (K.length + 1) cap'))) := by
  have hk : KO src (fun k => (F k ∨ k = X) ∨ (Value.slice na N.length ncap).ownBlock = some k) base B dep s nv w0 W 3 (.slice ka K.length kcap) K.length (kc K) := ⟨h.rs.less (fun k hk => by
    rcases hk with (hk | hk) | hk
    · exact .inl (.inl hk)
    · exact .inr hk
    · exact .inl (.inr hk)), h.kd, h.ko.sz⟩
  obtain ⟨a', cap', w3, hr, hko, hc, hsz, hbl, hnew⟩ := hk.kid2 x hn
  obtain ⟨_, _, _, _, _, _, _, _, _, _, _, _, hlX⟩ := h.facts
  have nX : (Value.slice ka K.length kcap).ownBlock ≠ some X := fun e => (h.kX X e).1 rfl
  have hX3 := (hbl X hlX nX).trans h.box
  have hs : (w3.setCell ⟨X, 4, none⟩ (.slice a' (K.length + 1) cap')).heap.size = w3.heap.size := by simp [World.setCell]
  have hne : ∀ k, k ≠ X → (w3.setCell ⟨X, 4, none⟩ (.slice a' (K.length + 1) cap')).heap[k]? = w3.heap[k]? := fun k hk => Below.heap_setCell w3 ⟨X, 4, none⟩ _ k hk
  have hl : (K ++ [x]).length = K.length + 1 := by simp
  have hnl := own_block h.ko.own
  have hkk : ∀ k, (Value.slice a' (K ++ [x]).length cap').ownBlock = some k → k ≠ X ∧ ¬ F k ∧ (Value.slice na N.length ncap).ownBlock ≠ some k := fun k hk => by
    rcases hnew k hk with e | e
    · exact ⟨(h.kX k e).1, (h.kX k e).2, fun hN => (h.nX k hN).2.2 e⟩
    · refine ⟨by omega, fun hF => ?_, fun hN => by have := (hnl k hN).2; omega⟩
      have := (h.rs.far k (.inl (.inl (.inl hF)))).1
      omega
  refine ⟨a', cap', w3, hr, by simp [World.cell?, hX3], by simp [World.frozen?, hX3], by omega, ⟨⟨(hko.rs.foreign (.inl (.inl (.inr rfl))) 4 _).less (fun k hk => ?_), ?_, by rw [hs]; exact hko.sz⟩, own_keep hko.own (fun k hk => hne k (hkk k hk).1), ?_, fun k hN => ⟨(h.nX k hN).1, (h.nX k hN).2.1, fun hK => (hkk k hK).2.2 hN⟩, fun k hk => ⟨(hkk k hk).1, (hkk k hk).2.1⟩, h.XF⟩, fun nv0 c0 => (hc nv0 c0).setX h.XF.2 4 _⟩
  · rcases hk with (hk | hk) | hk
    · exact .inl (.inl hk)
    · exact .inr hk
    · exact .inl (.inr hk)
  · exact own_keep h.ko.own (fun k hk => (hne k (h.nX k hk).1).trans (hbl k (hnl k hk).2 (fun e => (h.nX k hk).2.2 e)))
  · rw [hl]; simp [World.setCell, Array.getElem?_modify, hX3]
/-- What was gathered, as names and as kids; the box is another one's. -/
theorem Bx.vals {nv0 : Value} {s0 : Rp.Rt} (h0 : RS src F base B dep s0 nv0 w0) (h : Bx src F base B dep s nv w0 W X x0 x1 x2 x5 N na ncap K ka kcap) :
    RS src (fun k => F k ∨ k = X) base B dep s nv W ∧ NV (fun k => F k ∨ k = X) B nv W (.slice na N.length ncap) N ∧ KV (fun k => F k ∨ k = X) B nv W (.slice ka K.length kcap) K ∧ Box (fun k => F k ∨ k = X) W X x0 x1 x2 (.slice na N.length ncap) (.slice ka K.length kcap) x5 := by
  have hnl := own_block h.ko.own
  have hkl := own_block h.kd
  obtain ⟨ad, cap, hv, h1, h2, h3, h4⟩ := own_cells h.ko.own
  obtain ⟨ad', cap', hv', h1', h2', h3', h4'⟩ := own_cells h.kd
  refine ⟨h.rs.less (fun k hk => .inl (.inl hk)), ⟨⟨ad, cap, hv, h1, ?_⟩, fun k hk => ⟨(h.rs.far k (.inr (h3 k hk))).2.1, (h.rs.far k (.inr (h3 k hk))).2.2, fun hf => ?_⟩, fun k hk => (hnl k (h3 k hk)).2, h4⟩, ⟨⟨ad', cap', hv', h1', ?_⟩, fun k hk => ⟨(h.rs.far k (.inl (.inr (h3' k hk)))).2.1, (h.rs.far k (.inl (.inr (h3' k hk)))).2.2, fun hf => ?_⟩, fun k hk => (hkl k (h3' k hk)).2, h4'⟩, ⟨h.box, .inr rfl⟩⟩
  · rcases h2 with h2 | ⟨g, e, hg, hc⟩
    · exact .inl (List.length_eq_zero_iff.1 h2)
    · exact .inr ⟨g, e, hg, fun j hj => (hc j hj).trans (by simp [nc, hj])⟩
  · have := h.nX k (h3 k hk)
    rcases hf with hf | hf
    · exact this.2.1 hf
    · exact this.1 hf
  · rcases h2' with h2 | ⟨g, e, hg, hc⟩
    · exact .inl (List.length_eq_zero_iff.1 h2)
    · exact .inr ⟨g, e, hg, fun j hj => (hc j hj).trans (by simp [kc, hj])⟩
  · have := h.kX k (h3' k hk)
    rcases hf with hf | hf
    · exact this.2 hf
    · exact this.1 hf
end
end Go.Proofs.Ytkaacmghgobhmaa.Rd
end
section
namespace Go.Proofs.Ytkaacmghgobhmaa.Rd
open Go.RowKit
open L (tkA own_block own_below intOf info_of size_list wpList_append_run)
set_option linter.unusedVariables false
section
variable {src : ByteArray} {F : Nat → Prop} {base B dep : Nat} {s s' : Rp.Rt} {nv : Value} {w : World}
theorem ru_has (m : List UInt8) (s : Rp.Rt) (n : s.nodes.length ≤ 1000000000) {b : Bool} {s1 : Rp.Rt} (e : Rp.has m s = (b, s1)) : Ru (Rp.has m) s b s1 := ⟨e, by rw [(Rp.has_keep e).1]; exact n⟩
/-- Where the loop of e's with commas stands. -/
structure CmL (src : ByteArray) (F : Nat → Prop) (base B dep : Nat) (L : Rp.Lr) (nv : Value) (w W : World) (f : Nat) (a : Option Addr) (cap : Nat) (K1 : List Nat) (s1 : Rp.Rt) (K : List Nat) (s' : Rp.Rt) : Prop where
  ko : ∃ nv1, KO src F base B dep s1 nv1 w W 3 (.slice a K1.length cap) K1.length (kc K1) ∧ Chg B nv nv1 w W
  run : Rp.commasLoop L f K1 s1 = (K, s') ∧ s1.toks.length ≤ f
  cnt : K1.length + f ≤ 100001
set_option maxRecDepth 100000 in
set_option maxHeartbeats 4000000 in
theorem c_commas {L : Rp.Lr} {m : List UInt8} {K : List Nat} (hL : ∀ F, LvC src F base B dep L) (hP : LvP L) (E : Ru (Rp.commas L m) s K s') (h : RS src F base B dep s nv w) : Calls Try.prog 74 #[.pointer (some ⟨B, 0, none⟩), .string ⟨m.toArray⟩] w (TellsK src F base B dep nv w s' K) := by
  have e := E.eq
  have hsm := E.small
  have hn0 := E.back (Rp.kp_commas Rp.pre_len hP.gr m)
  unfold Rp.commas at e
  cases e1 : Rp.has m s with
  | mk b s1 =>
  have R1 := ru_has m s hn0 e1
  rw [e1] at e
  have H : Hid (_) := h
  cases b
  · simp only at e
    rcases e2 : L.e s1 with ⟨r, s2⟩
    rw [e2] at e
    simp only at e
    rcases e3 : Rp.commasLoop L s2.toks.length [r] s2 with ⟨K3, s3⟩
    rw [e3] at e
    simp only [Prod.mk.injEq] at e
    obtain ⟨rfl, e4⟩ := e
    have R4 : Ru (up (Rp.must m)) s3 () s' := ⟨by unfold up; rw [e4], hsm⟩
    have n3 := R4.back (kp_up (Rp.kp_must Rp.pre_len m))
    have n2 : s2.nodes.length ≤ 1000000000 := gb (Rp.kp_commasLoop Rp.pre_len hP.gr _ _) e3 n3
    have R2 : Ru L.e s1 r s2 := ⟨e2, n2⟩
    have HR3 : Hid (_) := e3
    have HN3 : Hid (s3.nodes.length ≤ 1000000000) := n3
    clear e1 e2 e3 e4 E h hsm hn0 n3 n2
    go_enter Try.func74, Try.ntmps74
    go_wp2_with fail
    refine Calls.mono (c_has R1 H.out) ?_
    rintro e w1 ⟨rfl, nv1, hr1, hc1⟩
    go_wp2_with fail
    refine Calls.mono ((hL _).e R2 hr1) ?_
    rintro e w2 ⟨rfl, nv2, hr2, hc2⟩
    have hc12 := hc1.trans hc2
    obtain ⟨a4, cap4, w4, hap, hko4, hc4⟩ := (KO.nil (w0 := w) (e := 3) hr2 hc12.size).kid (K := []) r (by simp)
    have HRn : Hid (_) := hap
    have HST : Hid (CmL src F base B dep L nv w w4 s2.toks.length a4 cap4 [r] s2 K3 s3) := (show CmL _ _ _ _ _ _ _ _ _ _ _ _ _ _ _ _ from ⟨⟨nv2, hko4, hc4 _ hc12⟩, ⟨HR3.out, Nat.le_refl _⟩, by have := hr2.toks; simp; omega⟩)
    clear hr1 hc1 hr2 hc2 hap hko4 hc4 HR3 hc12
    go_wp2_with (at_builtin; refine wpList_append_run _ _ 36 rfl rfl _ _ _ _ rfl rfl HRn.out ?_)
    go_loopg [5] (s2.toks.length) (fun f v W => ∃ (K1 : List Nat) (a : Option Addr) (cap : Nat) (s1 : Rp.Rt), v = .slice a K1.length cap ∧ Hid (CmL src F base B dep L nv w W f a cap K1 s1 K3 s3))
    case atStart => exact ⟨[r], a4, cap4, s2, rfl, HST⟩
    case round =>
      clear HST HRn
      obtain ⟨K1, a, cap, t1, rfl, HI⟩ := hrel
      obtain ⟨⟨nv5, hko, hchg⟩, ⟨hrun, hf⟩, hcnt⟩ := HI.out
      have hg := hko.rs.gd
      obtain ⟨f, rfl⟩ : ∃ f', gk = f' + 1 := ⟨gk - 1, by have := hg.one; omega⟩
      have nt1 : t1.nodes.length ≤ 1000000000 := gb (Rp.kp_commasLoop Rp.pre_len hP.gr _ _) hrun HN3.out
      unfold Rp.commasLoop at hrun
      cases e1 : Rp.has [44] t1 with
      | mk b t2 =>
      have T1 := ru_has [44] t1 nt1 e1
      rw [e1] at hrun
      have HKO : Hid (_) := hko
      have HC : Hid (_) := hchg
      cases b
      · simp only [Prod.mk.injEq] at hrun
        obtain ⟨rfl, rfl⟩ := hrun
        clear e1 hf hcnt hko HI hchg nt1 hg
        go_wp2_with fail
        refine Calls.mono (c_has T1 HKO.out.rs) ?_
        rintro e w5 ⟨rfl, nv6, hr6, hc6⟩
        have HK6 : Hid (_) := (HKO.out.go hr6 hc6).kv H.out
        have HC6 : Hid (_) := HC.out.trans hc6
        clear hr6 hc6
        go_wp2_with fail
        refine Calls.mono (c_must R4 HK6.out.1) ?_
        rintro e w7 ⟨rfl, nv7, hr7, hc7⟩
        have HK7 : Hid (_) := HK6.out.2.go hc7
        have HC7 : Hid (_) := HC6.out.trans hc7
        have HR7 : Hid (_) := hr7
        clear hr7 hc7
        go_wp2_with fail
        go_ret
        exact ⟨a, cap, rfl, nv7, HR7.out, HC7.out, HK7.out⟩
      · simp only at hrun
        rcases e2 : L.e t2 with ⟨y, t3⟩
        rw [e2] at hrun
        simp only at hrun
        have nt3 : t3.nodes.length ≤ 1000000000 := gb (Rp.kp_commasLoop Rp.pre_len hP.gr _ _) hrun HN3.out
        have T2 : Ru L.e t2 y t3 := ⟨e2, nt3⟩
        have hon := Rp.has_on e1 hg
        have hbad : t2.bad = false := by
          rw [(Rp.has_keep e1).2]
          cases hb : t1.bad
          · rfl
          · unfold Rp.has at e1; rw [hb] at e1; simp at e1
        have hlt : t2.toks.length < t1.toks.length := by
          rcases hon.2 with hh | hh
          · rw [hbad] at hh; cases hh
          · exact hh
        have hle := ((hP.dn.e t2).1 hon.1).2
        rw [e2] at hle
        have HEND : Hid (∀ nv3 a4 cap4 w4, KO src F base B dep t3 nv3 w w4 3 (.slice a4 (K1.length + 1) cap4) (K1 ++ [y]).length (kc (K1 ++ [y])) → Chg B nv nv3 w w4 → CmL src F base B dep L nv w w4 f a4 cap4 (K1 ++ [y]) t3 K3 s3) := fun nv3 a4 cap4 w4 h1 h2 => ⟨⟨nv3, by simpa using h1, h2⟩, ⟨hrun, by simp only at hle; omega⟩, by simp; omega⟩
        have HCN : Hid (K1.length + (f + 1) ≤ 100001) := hcnt
        clear e1 e2 hf hcnt hko HI hchg nt1 hg hrun nt3 hon hbad hlt hle
        go_wp2_with fail
        refine Calls.mono (c_has T1 HKO.out.rs) ?_
        rintro e w5 ⟨rfl, nv6, hr6, hc6⟩
        have HK6 : Hid (_) := HKO.out.go hr6 hc6
        have HC6 : Hid (_) := HC.out.trans hc6
        clear hr6 hc6 HKO HC
        go_wp2_with fail
        refine Calls.mono ((hL _).e T2 HK6.out.rs) ?_
        rintro e w7 ⟨rfl, nv7, hr7, hc7⟩
        obtain ⟨a4, cap4, w4, hap, hko4, hc4⟩ := (HK6.out.go hr7 hc7).kid y (by have := HCN.out; omega)
        have HRn : Hid (_) := hap
        have HKO4 : Hid (_) := hko4
        have HC4 : Hid (_) := hc4 _ (HC6.out.trans hc7)
        clear hr7 hc7 HK6 HC6 hap hko4 hc4
        go_wp2_with (at_builtin; refine wpList_append_run _ _ 36 rfl rfl _ _ _ _ rfl rfl HRn.out ?_)
        go_roundg f
        case rel => exact ⟨K1 ++ [y], a4, cap4, t3, by simp, HEND.out _ _ _ _ HKO4.out HC4.out⟩
        case measure => omega
  · simp only [Prod.mk.injEq] at e
    obtain ⟨rfl, rfl⟩ := e
    clear e1 E h hsm hn0
    go_enter Try.func74, Try.ntmps74
    go_wp2_with fail
    refine Calls.mono (c_has R1 H.out) ?_
    rintro e w1 ⟨rfl, nv1, hr1, hc1⟩
    go_wp2_with fail
    go_ret
    exact ⟨none, 0, rfl, nv1, hr1, hc1, KV.nil _ _ _ _⟩
end
end Go.Proofs.Ytkaacmghgobhmaa.Rd
end
section
namespace Go.Proofs.Ytkaacmghgobhmaa.Rd
open Go.RowKit
open L (tkA own_block own_below intOf info_of size_list wpList_append_run Lies lies_alloc)
set_option linter.unusedVariables false
theorem ndCells_at : ∀ (vs : List (Ps.Nd × Value × Value)) (j : Nat) (h : j < vs.length), (ndCells vs)[j * 6 + 5]? = some (.int .i64 (vs[j].1.a : Int))
  | [], j, h => by simp at h
  | x :: vs, 0, h => by
    rw [show ndCells (x :: vs) = (ndA x.1 x.2.1 x.2.2).toList ++ ndCells vs from rfl, List.getElem?_append_left (by simp)]
    rfl
  | x :: vs, j + 1, h => by
    have ih := ndCells_at vs j (by simpa using h)
    rw [show ndCells (x :: vs) = (ndA x.1 x.2.1 x.2.2).toList ++ ndCells vs from rfl, List.getElem?_append_right (by simp; omega)]
    rw [show (j + 1) * 6 + 5 - (ndA x.1 x.2.1 x.2.2).toList.length = j * 6 + 5 by simp; omega]
    simpa using ih
/-- A node's place, where it lies. -/
theorem RS.place {src : ByteArray} {F : Nat → Prop} {base B dep : Nat} {st : Rp.Rt} {nv : Value} {W : World} (h : RS src F base B dep st nv W) {j : Nat} (hj : j < st.nodes.length) : ∃ gn cap, nv = .slice (some ⟨gn, 0, none⟩) st.nodes.length cap ∧ st.nodes.length ≤ cap ∧ gn < W.heap.size ∧ W.cell? ⟨gn, j * 6 + 5, none⟩ = some (.int .i64 ((st.nodes.getD j {}).a : Int)) := by
  obtain ⟨vs, e, ho, -⟩ := h.nd
  have hl : vs.length = st.nodes.length := by rw [← e, List.length_map]
  rcases ho.2 with ⟨_, h0⟩ | ⟨g, cap, cur, hv, hb, hg, hcap, hcs, hm, ht⟩
  · omega
  · have hgl : g < W.heap.size := Nat.lt_of_not_le fun hge => by rw [Array.getElem?_eq_none hge] at hg; cases hg
    refine ⟨g, cap, by rw [hv, hl], by omega, hgl, ?_⟩
    have hj' : j < vs.length := by omega
    have hc : W.cell? ⟨g, j * 6 + 5, none⟩ = (ndCells vs)[j * 6 + 5]? := by
      subst hv
      exact ho.cellAt (j * 6 + 5) (by omega)
    rw [hc, ndCells_at vs j hj']
    have : st.nodes.getD j {} = vs[j].1 := by
      rw [← e, List.getD_eq_getElem?_getD, List.getElem?_map, List.getElem?_eq_getElem hj']; rfl
    rw [this]
theorem ndCells_at0 : ∀ (vs : List (Ps.Nd × Value × Value)) (j : Nat) (h : j < vs.length), (ndCells vs)[j * 6]? = some (.int .i64 (vs[j].1.k : Int))
  | [], j, h => by simp at h
  | x :: vs, 0, h => by
    rw [show ndCells (x :: vs) = (ndA x.1 x.2.1 x.2.2).toList ++ ndCells vs from rfl, List.getElem?_append_left (by simp)]
    rfl
  | x :: vs, j + 1, h => by
    have ih := ndCells_at0 vs j (by simpa using h)
    rw [show ndCells (x :: vs) = (ndA x.1 x.2.1 x.2.2).toList ++ ndCells vs from rfl, List.getElem?_append_right (by simp; omega)]
    rw [show (j + 1) * 6 - (ndA x.1 x.2.1 x.2.2).toList.length = j * 6 by simp; omega]
    simpa using ih
/-- A node's kind, where it lies. -/
theorem RS.kind {src : ByteArray} {F : Nat → Prop} {base B dep : Nat} {st : Rp.Rt} {nv : Value} {W : World} (h : RS src F base B dep st nv W) {j : Nat} (hj : j < st.nodes.length) : ∃ gn cap, nv = .slice (some ⟨gn, 0, none⟩) st.nodes.length cap ∧ st.nodes.length ≤ cap ∧ gn < W.heap.size ∧ W.cell? ⟨gn, j * 6, none⟩ = some (.int .i64 ((st.nodes.getD j {}).k : Int)) := by
  obtain ⟨vs, e, ho, -⟩ := h.nd
  have hl : vs.length = st.nodes.length := by rw [← e, List.length_map]
  rcases ho.2 with ⟨_, h0⟩ | ⟨g, cap, cur, hv, hb, hg, hcap, hcs, hm, ht⟩
  · omega
  · have hgl : g < W.heap.size := Nat.lt_of_not_le fun hge => by rw [Array.getElem?_eq_none hge] at hg; cases hg
    refine ⟨g, cap, by rw [hv, hl], by omega, hgl, ?_⟩
    have hj' : j < vs.length := by omega
    have hc : W.cell? ⟨g, j * 6, none⟩ = (ndCells vs)[j * 6]? := by
      subst hv
      exact ho.cellAt (j * 6) (by omega)
    rw [hc, ndCells_at0 vs j hj']
    have : st.nodes.getD j {} = vs[j].1 := by
      rw [← e, List.getD_eq_getElem?_getD, List.getElem?_map, List.getElem?_eq_getElem hj']; rfl
    rw [this]
section
variable {src : ByteArray} {F : Nat → Prop} {base B dep : Nat} {s s' : Rp.Rt} {nv : Value} {w W W2 : World}
/-- A node whose kids were written down ahead, in a world in which nothing else has turned. -/
theorem c_putB {r k n a : Nat} {t : List UInt8} {K : List Nat} (E : Ru (Rp.put { k := k, n := n, t := t, kids := K, a := a }) s r s') (h : RS src F base B dep s nv W) (V : Array Value) (m : Nat) (hm : m = K.length) (hV : ∀ j (h : j < K.length), V[j]? = some (.int .i64 (K[j] : Int))) (hb : Below (W.alloc (.cells V 3)).heap.size (W.alloc (.cells V 3)) W2) :
    Calls Try.prog 23 #[.pointer (some ⟨B, 0, none⟩), .agg #[.int .i64 (k : Int), .int .i64 (n : Int), .string ⟨t.toArray⟩, .slice none 0 0, .slice (some ⟨W.heap.size, 0, none⟩) m m, .int .i64 (a : Int)]] W2 (Tells src F base B dep nv W s' (.int .i64 (r : Int))) := by
  have hb0 : Below W.heap.size W (W.alloc (.cells V 3)) := (Below.refl _ _).alloc (Nat.le_refl _) _
  have hb2 : Below W.heap.size W W2 := hb0.trans (hb.mono (by rw [alloc_size']; omega))
  have hkv := (KV.lit h K V m hm hV).go (Chg.below nv hb)
  refine (c_putV E (h.below hb2) (NV.nil _ _ _ _) hkv).mono ?_
  rintro e w' ⟨rfl, nv', hr, hc⟩
  exact ⟨rfl, nv', hr, (Chg.below nv hb2).trans hc⟩
/-- The rows of signs as they lie. -/
def RowsAt (F : Nat → Prop) (W : World) (b : Nat) : Prop := F b ∧ ∀ i (h : i < Rp.rrows.length), ∃ g, F g ∧ W.cell? ⟨b, i, none⟩ = some (.slice (some ⟨g, 0, none⟩) (Rp.rrows[i]'h).length (Rp.rrows[i]'h).length) ∧ Lies W g (Rp.rrows[i]'h)
theorem RowsAt.go {b : Nat} {nv' : Value} {W' : World} (h : RowsAt F W b) (hr : RS src F base B dep s nv W) (c : Chg B nv nv' W W') : RowsAt F W' b := by
  refine ⟨h.1, fun i hi => ?_⟩
  obtain ⟨g, h1, h2, h3⟩ := h.2 i hi
  refine ⟨g, h1, (cell_of_block (hr.keepF c h.1) i).trans h2, Nat.lt_of_lt_of_le h3.1 c.size, fun k hk => (cell_of_block (hr.keepF c h1) k).trans (h3.2 k hk)⟩
set_option maxRecDepth 100000 in
set_option maxHeartbeats 4000000 in
theorem rows_any (w : World) : Calls Try.prog 70 #[] w fun e w' => ∃ b, e = .returned (.slice (some ⟨b, 0, none⟩) 6 6) ∧ Below w.heap.size w w' ∧ RowsAt (fun k => w.heap.size ≤ k ∧ k < w'.heap.size) w' b := by
  go_enter Try.func70, Try.ntmps70
  go_wp2_with fail
  go_ret
  have hl : ∀ (W : World) (V : Array Value) (t : TypeId) (n : Nat), W.heap.size = n → (W.alloc (.cells V t)).heap[n]? = some (.cells V t (0, 0)) ∧ (W.alloc (.cells V t)).heap.size = n + 1 := fun W V t n hn => by subst hn; exact ⟨Array.getElem?_push_size, alloc_size' _ _⟩
  have pk : ∀ (W : World) (o : Obj) (k : Nat) (x : Obj), W.heap[k]? = some x → (W.alloc o).heap[k]? = some x := fun W o k x h => (Below.heap_alloc W o k (Nat.lt_of_not_le fun hg => by rw [Array.getElem?_eq_none hg] at h; cases h)).trans h
  have ent : ∀ (W : World) (g : Nat) (L : List (List UInt8)) (t : TypeId), W.heap[g]? = some (.cells (L.map fun s => Value.string ⟨s.toArray⟩).toArray t (0, 0)) → Lies W g L := fun W g L t h => ⟨Nat.lt_of_not_le (fun hg => by rw [Array.getElem?_eq_none hg] at h; cases h), fun k hk => by unfold World.cell?; rw [h]; simp [hk]⟩
  obtain ⟨a1, z1⟩ := hl w #[.string ⟨#[124, 124]⟩] 9 _ rfl
  obtain ⟨a2, z2⟩ := hl _ #[.string ⟨#[38, 38]⟩] 9 _ z1
  obtain ⟨a3, z3⟩ := hl _ #[.string ⟨#[61, 61, 61]⟩, .string ⟨#[33, 61, 61]⟩] 9 _ z2
  obtain ⟨a4, z4⟩ := hl _ #[.string ⟨#[60]⟩, .string ⟨#[60, 61]⟩, .string ⟨#[62]⟩, .string ⟨#[62, 61]⟩] 9 _ z3
  obtain ⟨a5, z5⟩ := hl _ #[.string ⟨#[43]⟩, .string ⟨#[45]⟩] 9 _ z4
  obtain ⟨a6, z6⟩ := hl _ #[.string ⟨#[42]⟩, .string ⟨#[47]⟩, .string ⟨#[37]⟩] 9 _ z5
  obtain ⟨a7, z7⟩ := hl _ #[.slice (some ⟨w.heap.size, 0, none⟩) 1 1, .slice (some ⟨w.heap.size + 1, 0, none⟩) 1 1, .slice (some ⟨w.heap.size + 1 + 1, 0, none⟩) 2 2, .slice (some ⟨w.heap.size + 1 + 1 + 1, 0, none⟩) 4 4, .slice (some ⟨w.heap.size + 1 + 1 + 1 + 1, 0, none⟩) 2 2, .slice (some ⟨w.heap.size + 1 + 1 + 1 + 1 + 1, 0, none⟩) 3 3] 35 _ z6
  have b1 := pk _ (.cells #[.slice (some ⟨w.heap.size, 0, none⟩) 1 1, .slice (some ⟨w.heap.size + 1, 0, none⟩) 1 1, .slice (some ⟨w.heap.size + 1 + 1, 0, none⟩) 2 2, .slice (some ⟨w.heap.size + 1 + 1 + 1, 0, none⟩) 4 4, .slice (some ⟨w.heap.size + 1 + 1 + 1 + 1, 0, none⟩) 2 2, .slice (some ⟨w.heap.size + 1 + 1 + 1 + 1 + 1, 0, none⟩) 3 3] 35) _ _ (pk _ (.cells #[.string ⟨#[42]⟩, .string ⟨#[47]⟩, .string ⟨#[37]⟩] 9) _ _ (pk _ (.cells #[.string ⟨#[43]⟩, .string ⟨#[45]⟩] 9) _ _ (pk _ (.cells #[.string ⟨#[60]⟩, .string ⟨#[60, 61]⟩, .string ⟨#[62]⟩, .string ⟨#[62, 61]⟩] 9) _ _ (pk _ (.cells #[.string ⟨#[61, 61, 61]⟩, .string ⟨#[33, 61, 61]⟩] 9) _ _ (pk _ (.cells #[.string ⟨#[38, 38]⟩] 9) _ _ a1)))))
  have b2 := pk _ (.cells #[.slice (some ⟨w.heap.size, 0, none⟩) 1 1, .slice (some ⟨w.heap.size + 1, 0, none⟩) 1 1, .slice (some ⟨w.heap.size + 1 + 1, 0, none⟩) 2 2, .slice (some ⟨w.heap.size + 1 + 1 + 1, 0, none⟩) 4 4, .slice (some ⟨w.heap.size + 1 + 1 + 1 + 1, 0, none⟩) 2 2, .slice (some ⟨w.heap.size + 1 + 1 + 1 + 1 + 1, 0, none⟩) 3 3] 35) _ _ (pk _ (.cells #[.string ⟨#[42]⟩, .string ⟨#[47]⟩, .string ⟨#[37]⟩] 9) _ _ (pk _ (.cells #[.string ⟨#[43]⟩, .string ⟨#[45]⟩] 9) _ _ (pk _ (.cells #[.string ⟨#[60]⟩, .string ⟨#[60, 61]⟩, .string ⟨#[62]⟩, .string ⟨#[62, 61]⟩] 9) _ _ (pk _ (.cells #[.string ⟨#[61, 61, 61]⟩, .string ⟨#[33, 61, 61]⟩] 9) _ _ a2))))
  have b3 := pk _ (.cells #[.slice (some ⟨w.heap.size, 0, none⟩) 1 1, .slice (some ⟨w.heap.size + 1, 0, none⟩) 1 1, .slice (some ⟨w.heap.size + 1 + 1, 0, none⟩) 2 2, .slice (some ⟨w.heap.size + 1 + 1 + 1, 0, none⟩) 4 4, .slice (some ⟨w.heap.size + 1 + 1 + 1 + 1, 0, none⟩) 2 2, .slice (some ⟨w.heap.size + 1 + 1 + 1 + 1 + 1, 0, none⟩) 3 3] 35) _ _ (pk _ (.cells #[.string ⟨#[42]⟩, .string ⟨#[47]⟩, .string ⟨#[37]⟩] 9) _ _ (pk _ (.cells #[.string ⟨#[43]⟩, .string ⟨#[45]⟩] 9) _ _ (pk _ (.cells #[.string ⟨#[60]⟩, .string ⟨#[60, 61]⟩, .string ⟨#[62]⟩, .string ⟨#[62, 61]⟩] 9) _ _ a3)))
  have b4 := pk _ (.cells #[.slice (some ⟨w.heap.size, 0, none⟩) 1 1, .slice (some ⟨w.heap.size + 1, 0, none⟩) 1 1, .slice (some ⟨w.heap.size + 1 + 1, 0, none⟩) 2 2, .slice (some ⟨w.heap.size + 1 + 1 + 1, 0, none⟩) 4 4, .slice (some ⟨w.heap.size + 1 + 1 + 1 + 1, 0, none⟩) 2 2, .slice (some ⟨w.heap.size + 1 + 1 + 1 + 1 + 1, 0, none⟩) 3 3] 35) _ _ (pk _ (.cells #[.string ⟨#[42]⟩, .string ⟨#[47]⟩, .string ⟨#[37]⟩] 9) _ _ (pk _ (.cells #[.string ⟨#[43]⟩, .string ⟨#[45]⟩] 9) _ _ a4))
  have b5 := pk _ (.cells #[.slice (some ⟨w.heap.size, 0, none⟩) 1 1, .slice (some ⟨w.heap.size + 1, 0, none⟩) 1 1, .slice (some ⟨w.heap.size + 1 + 1, 0, none⟩) 2 2, .slice (some ⟨w.heap.size + 1 + 1 + 1, 0, none⟩) 4 4, .slice (some ⟨w.heap.size + 1 + 1 + 1 + 1, 0, none⟩) 2 2, .slice (some ⟨w.heap.size + 1 + 1 + 1 + 1 + 1, 0, none⟩) 3 3] 35) _ _ (pk _ (.cells #[.string ⟨#[42]⟩, .string ⟨#[47]⟩, .string ⟨#[37]⟩] 9) _ _ a5)
  have b6 := pk _ (.cells #[.slice (some ⟨w.heap.size, 0, none⟩) 1 1, .slice (some ⟨w.heap.size + 1, 0, none⟩) 1 1, .slice (some ⟨w.heap.size + 1 + 1, 0, none⟩) 2 2, .slice (some ⟨w.heap.size + 1 + 1 + 1, 0, none⟩) 4 4, .slice (some ⟨w.heap.size + 1 + 1 + 1 + 1, 0, none⟩) 2 2, .slice (some ⟨w.heap.size + 1 + 1 + 1 + 1 + 1, 0, none⟩) 3 3] 35) _ _ a6
  have hb : Below w.heap.size w _ := (((((((Below.refl w.heap.size w).alloc (Nat.le_refl _) (.cells #[.string ⟨#[124, 124]⟩] 9)).alloc (by omega) (.cells #[.string ⟨#[38, 38]⟩] 9)).alloc (by omega) (.cells #[.string ⟨#[61, 61, 61]⟩, .string ⟨#[33, 61, 61]⟩] 9)).alloc (by omega) (.cells #[.string ⟨#[60]⟩, .string ⟨#[60, 61]⟩, .string ⟨#[62]⟩, .string ⟨#[62, 61]⟩] 9)).alloc (by omega) (.cells #[.string ⟨#[43]⟩, .string ⟨#[45]⟩] 9)).alloc (by omega) (.cells #[.string ⟨#[42]⟩, .string ⟨#[47]⟩, .string ⟨#[37]⟩] 9)).alloc (by omega) (.cells #[.slice (some ⟨w.heap.size, 0, none⟩) 1 1, .slice (some ⟨w.heap.size + 1, 0, none⟩) 1 1, .slice (some ⟨w.heap.size + 1 + 1, 0, none⟩) 2 2, .slice (some ⟨w.heap.size + 1 + 1 + 1, 0, none⟩) 4 4, .slice (some ⟨w.heap.size + 1 + 1 + 1 + 1, 0, none⟩) 2 2, .slice (some ⟨w.heap.size + 1 + 1 + 1 + 1 + 1, 0, none⟩) 3 3] 35)
  clear hl pk a1 a2 a3 a4 a5 a6 z1 z2 z3 z4 z5 z6
  generalize (((((((w.alloc _).alloc _).alloc _).alloc _).alloc _).alloc _).alloc _) = W' at *
  have cl : ∀ i (v : Value), (#[Value.slice (some ⟨w.heap.size, 0, none⟩) 1 1, .slice (some ⟨w.heap.size + 1, 0, none⟩) 1 1, .slice (some ⟨w.heap.size + 1 + 1, 0, none⟩) 2 2, .slice (some ⟨w.heap.size + 1 + 1 + 1, 0, none⟩) 4 4, .slice (some ⟨w.heap.size + 1 + 1 + 1 + 1, 0, none⟩) 2 2, .slice (some ⟨w.heap.size + 1 + 1 + 1 + 1 + 1, 0, none⟩) 3 3] : Array Value)[i]? = some v → W'.cell? ⟨w.heap.size + 1 + 1 + 1 + 1 + 1 + 1, i, none⟩ = some v := fun i v h => by unfold World.cell?; rw [a7]; exact h
  refine ⟨w.heap.size + 1 + 1 + 1 + 1 + 1 + 1, rfl, hb, ⟨by omega, by omega⟩, fun i hi => ?_⟩
  have hi6 : i < 6 := hi
  obtain rfl | rfl | rfl | rfl | rfl | rfl : i = 0 ∨ i = 1 ∨ i = 2 ∨ i = 3 ∨ i = 4 ∨ i = 5 := by omega
  · exact ⟨w.heap.size, ⟨by omega, by omega⟩, cl 0 _ rfl, ent _ _ [[124, 124]] _ b1⟩
  · exact ⟨w.heap.size + 1, ⟨by omega, by omega⟩, cl 1 _ rfl, ent _ _ [[38, 38]] _ b2⟩
  · exact ⟨w.heap.size + 1 + 1, ⟨by omega, by omega⟩, cl 2 _ rfl, ent _ _ [[61, 61, 61], [33, 61, 61]] _ b3⟩
  · exact ⟨w.heap.size + 1 + 1 + 1, ⟨by omega, by omega⟩, cl 3 _ rfl, ent _ _ [[60], [60, 61], [62], [62, 61]] _ b4⟩
  · exact ⟨w.heap.size + 1 + 1 + 1 + 1, ⟨by omega, by omega⟩, cl 4 _ rfl, ent _ _ [[43], [45]] _ b5⟩
  · exact ⟨w.heap.size + 1 + 1 + 1 + 1 + 1, ⟨by omega, by omega⟩, cl 5 _ rfl, ent _ _ [[42], [47], [37]] _ b6⟩
end
end Go.Proofs.Ytkaacmghgobhmaa.Rd
end
