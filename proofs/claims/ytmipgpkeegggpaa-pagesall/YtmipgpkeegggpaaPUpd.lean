-- PROVED: what a cell that is set does to how many books a page has, and how many pages live.
import Derived.Test.YtmipgpkeegggpaaPBytes
namespace Go.Proofs.Ytmipgpkeegggpaa.P
open Go.RowKit
set_option linter.unusedVariables false
section
variable {base : Nat} {w : World} {bs : List Bk}
theorem Sys.none_at (hs : Sys base w bs) {q : Nat} (hq : w.heap.size ≤ q) : ∀ (i : Nat) (b : Bk), bs[i]? = some b → q ∉ b.pgs := fun i b hb h => by
  have := hs.pm.lt hb h; omega
theorem upd_cnt (hs : Sys base w bs) {i : Nat} {b : Bk} (hb : bs[i]? = some b) {k : Nat} (hk : k < b.len) (c : Cl) {q : Nat} (hq : w.heap.size ≤ q) {j p : Nat} (hp : (upd bs b k c q).pgs[j]? = some p) :
    (j = k / 8 → cnt (bs.set i (upd bs b k c q)) p = 1) ∧ (j ≠ k / 8 → b.pgs[j]? = some p ∧ cnt (bs.set i (upd bs b k c q)) p = cnt bs p) := by
  have hok := hs.ok i b hb
  have hj : k / 8 < b.pgs.length := by omega
  have hp0 : b.pgs[k / 8]? = some b.pgs[k / 8] := List.getElem?_eq_getElem hj
  have hd : b.pgs.getD (k / 8) 0 = b.pgs[k / 8] := by simp [List.getD, hp0]
  have hnd := hs.pm.nod i b hb
  have hnq := hs.none_at hq
  have hcs := cnt_set bs i b (upd bs b k c q) p hb
  have hmem : p ∈ (upd bs b k c q).pgs := List.mem_of_getElem? hp
  rw [if_pos hmem] at hcs
  by_cases h2 : 2 ≤ cnt bs b.pgs[k / 8]
  · have hu : (upd bs b k c q).pgs = b.pgs.set (k / 8) q := by unfold upd; simp only []; rw [hd, if_pos h2]
    rw [hu, List.getElem?_set] at hp
    constructor
    · intro e
      rw [if_pos e.symm, if_pos (by omega)] at hp
      cases hp
      rw [if_neg (hnq i b hb)] at hcs
      have : cnt bs q = 0 := cnt_zero hnq
      omega
    · intro e
      rw [if_neg fun e' => e e'.symm] at hp
      rw [if_pos (List.mem_of_getElem? hp)] at hcs
      exact ⟨hp, by omega⟩
  · have hu : (upd bs b k c q).pgs = b.pgs := by unfold upd; simp only []; rw [hd, if_neg h2]
    rw [hu] at hp
    rw [if_pos (List.mem_of_getElem? hp)] at hcs
    constructor
    · intro e
      subst e
      rw [hp0] at hp
      cases hp
      have := cnt_pos hb (List.mem_of_getElem? hp0)
      omega
    · intro e
      exact ⟨hp, by omega⟩
theorem upd_live (hs : Sys base w bs) {i : Nat} {b : Bk} (hb : bs[i]? = some b) {k : Nat} (hk : k < b.len) (c : Cl) {q : Nat} (hq : w.heap.size ≤ q) (f : Nat) :
    live (bs.set i (upd bs b k c q)) f = live bs f + if f = b.fam ∧ 2 ≤ cnt bs (b.pgs.getD (k / 8) 0) then 1 else 0 := by
  have hok := hs.ok i b hb
  have hj : k / 8 < b.pgs.length := by omega
  have hp0 : b.pgs[k / 8]? = some b.pgs[k / 8] := List.getElem?_eq_getElem hj
  have hd : b.pgs.getD (k / 8) 0 = b.pgs[k / 8] := by simp [List.getD, hp0]
  rw [hd]
  by_cases h2 : 2 ≤ cnt bs b.pgs[k / 8]
  · rw [live_slots (b1 := upd bs b k c q) (b2 := { b with pgs := b.pgs.set (k / 8) q }) hb (by unfold upd; simp only []; rw [hd, if_pos h2]) rfl f, live_split hs.pm hb hp0 h2 hq f]
    by_cases hf : f = b.fam
    · rw [if_pos hf, if_pos ⟨hf, h2⟩]
    · rw [if_neg hf, if_neg fun e => hf e.1]; rfl
  · rw [live_slots (b1 := upd bs b k c q) (b2 := b) hb (by unfold upd; simp only []; rw [hd, if_neg h2]) rfl f, set_id hb, if_neg fun e => h2 e.2]; rfl
/-- How many are so. -/
def yes : List Bool → Nat
  | [] => 0
  | x :: l => (if x then 1 else 0) + yes l
theorem yes_set : ∀ (l : List Bool) (j : Nat), l[j]? = some false → yes (l.set j true) = yes l + 1
  | [], j, h => by simp at h
  | x :: l, 0, h => by simp at h; subst h; simp [yes]; omega
  | x :: l, j + 1, h => by
    have := yes_set l j (by simpa using h)
    simp only [List.set_cons_succ, yes]
    omega
theorem set_same_b : ∀ (l : List Bool) (j : Nat), l[j]? = some true → l.set j true = l
  | [], j, h => by simp at h
  | x :: l, 0, h => by simp at h; subst h; rfl
  | x :: l, j + 1, h => by rw [List.set_cons_succ, set_same_b l j (by simpa using h)]
theorem yes_le : ∀ l : List Bool, yes l ≤ l.length
  | [] => Nat.le_refl _
  | x :: l => by have := yes_le l; simp only [yes, List.length_cons]; split <;> omega
theorem yes_take (l : List Bool) (j : Nat) {x : Bool} (h : l[j]? = some x) : yes (l.take (j + 1)) = yes (l.take j) + if x then 1 else 0 := by
  induction l generalizing j with
  | nil => simp at h
  | cons y l ih =>
    cases j with
    | zero => simp at h; subst h; simp [yes]
    | succ j =>
      have := ih j (by simpa using h)
      simp only [List.take_succ_cons, yes]
      omega
/-- A mark beside its book: which of the book's pages are its own, as D says; how many pages live. -/
structure Dirty (np : Nat) (D : List Bool) (b m : Bk) : Prop where
  len : D.length = 8
  own : ∀ j p : Nat, b.pgs[j]? = some p → D[j]? = some (decide (cnt [b, m] p < 2))
  lv : P.live [b, m] b.fam = np + yes D
theorem Dirty.start {b m : Bk} {np : Nat} (hs : Sys base w [b, m]) (hp : m.pgs = b.pgs) (hf : m.fam = b.fam) (hn : b.pgs.length = np) (h8 : np ≤ 8) : Dirty np (List.replicate 8 false) b m := by
  refine ⟨by simp, fun j p h => ?_, ?_⟩
  · have hl := (List.getElem?_eq_some_iff.1 h).1
    have : cnt [b, m] p = 2 := by
      have : p ∈ b.pgs := List.mem_of_getElem? h
      simp [cnt, hp, this]
    rw [this, List.getElem?_replicate, if_pos (by omega)]
    rfl
  · have : P.live [b, m] b.fam = dist b.pgs := dist_congr _ _ fun p => by simp [fall, hf, hp]
    rw [this, dist_nodup (hs.pm.nod 0 b rfl), hn]
    rfl
theorem Dirty.step {b m : Bk} {np k : Nat} {D : List Bool} (h : Dirty np D b m) (hs : Sys base w [b, m]) (hk : k < b.len) (c : Cl) {q : Nat} (hq : w.heap.size ≤ q) : Dirty np (D.set (k / 8) true) (upd [b, m] b k c q) m := by
  have hok := hs.ok 0 b rfl
  have hj : k / 8 < b.pgs.length := by omega
  have hp0 : b.pgs[k / 8]? = some b.pgs[k / 8] := List.getElem?_eq_getElem hj
  have hd : b.pgs.getD (k / 8) 0 = b.pgs[k / 8] := by simp [List.getD, hp0]
  have hD := h.own _ _ hp0
  have hDl := (List.getElem?_eq_some_iff.1 hD).1
  refine ⟨by simpa using h.len, fun j p hp => ?_, ?_⟩
  · obtain ⟨h1, h2⟩ := upd_cnt hs (i := 0) rfl hk c hq hp
    have e : ([b, m].set 0 (upd [b, m] b k c q)) = [upd [b, m] b k c q, m] := rfl
    rw [e] at h1 h2
    rw [List.getElem?_set]
    by_cases hj : k / 8 = j
    · rw [if_pos hj, if_pos (by omega), h1 hj.symm]; rfl
    · obtain ⟨g1, g2⟩ := h2 fun e => hj e.symm
      rw [if_neg hj, g2]; exact h.own j p g1
  · have := upd_live hs (i := 0) rfl hk c hq b.fam
    rw [hd] at this
    have e : ([b, m].set 0 (upd [b, m] b k c q)) = [upd [b, m] b k c q, m] := rfl
    rw [e, h.lv] at this
    show P.live [upd [b, m] b k c q, m] b.fam = _
    rw [this]
    by_cases h2 : 2 ≤ cnt [b, m] b.pgs[k / 8]
    · rw [if_pos ⟨rfl, h2⟩, yes_set D (k / 8) (by rw [hD, decide_eq_false (by omega)])]; omega
    · rw [if_neg fun e => h2 e.2, set_same_b D (k / 8) (by rw [hD, decide_eq_true (by omega)])]; rfl
end
end Go.Proofs.Ytmipgpkeegggpaa.P
