-- PROVED: a page of one's own, a cell written, a book's row turned: what becomes of all books.
import Derived.Test.YtmipgpkeegggpaaPInv
namespace Go.Proofs.Ytmipgpkeegggpaa.P
open Go.RowKit
set_option linter.unusedVariables false
theorem nodup_set : ∀ {l : List Nat} {j q : Nat}, l.Nodup → q ∉ l → (l.set j q).Nodup
  | [], _, _, h, _ => h
  | x :: l, 0, q, h, hq => by
    have := List.nodup_cons.1 h
    simp only [List.set_cons_zero]
    exact List.nodup_cons.2 ⟨fun e => hq (List.mem_cons_of_mem _ e), this.2⟩
  | x :: l, j + 1, q, h, hq => by
    have h1 := List.nodup_cons.1 h
    simp only [List.set_cons_succ]
    refine List.nodup_cons.2 ⟨fun e => ?_, nodup_set h1.2 fun e => hq (List.mem_cons_of_mem _ e)⟩
    rcases List.mem_or_eq_of_mem_set e with e | e
    · exact h1.1 e
    · exact hq (e ▸ List.mem_cons_self)
theorem nodup_inj {l : List Nat} (h : l.Nodup) {i j p : Nat} (hi : l[i]? = some p) (hj : l[j]? = some p) : i = j := by
  induction l generalizing i j with
  | nil => simp at hi
  | cons x l ih =>
    have h1 := List.nodup_cons.1 h
    cases i with
    | zero =>
      cases j with
      | zero => rfl
      | succ j =>
        simp at hi hj
        exact absurd (hi ▸ List.mem_of_getElem? hj) h1.1
    | succ i =>
      cases j with
      | zero =>
        simp at hi hj
        exact absurd (hj ▸ List.mem_of_getElem? hi) h1.1
      | succ j => exact congrArg (· + 1) (ih h1.2 (by simpa using hi) (by simpa using hj))
theorem mem_set_iff {l : List Nat} {j p q r : Nat} (h : l.Nodup) (hj : l[j]? = some p) (hq : q ∉ l) : r ∈ l.set j q ↔ r = q ∨ (r ≠ p ∧ r ∈ l) := by
  have hl := (List.getElem?_eq_some_iff.1 hj).1
  constructor
  · intro hr
    obtain ⟨i, hi⟩ := List.mem_iff_getElem?.1 hr
    rw [List.getElem?_set] at hi
    by_cases e : j = i
    · subst e
      rw [if_pos rfl, if_pos hl] at hi
      exact .inl (Option.some.inj hi).symm
    · rw [if_neg e] at hi
      refine .inr ⟨fun e' => e (nodup_inj h hj (e' ▸ hi)), List.mem_of_getElem? hi⟩
  · rintro (rfl | ⟨h1, h2⟩)
    · exact List.mem_iff_getElem?.2 ⟨j, by rw [List.getElem?_set, if_pos rfl, if_pos hl]⟩
    · obtain ⟨i, hi⟩ := List.mem_iff_getElem?.1 h2
      have e : j ≠ i := fun e => h1 (by subst e; rw [hj] at hi; exact (Option.some.inj hi).symm)
      exact List.mem_iff_getElem?.2 ⟨i, by rw [List.getElem?_set, if_neg e]; exact hi⟩
section
variable {base : Nat} {w : World} {bs : List Bk} {lv : Nat → Nat}
theorem PM.lt (h : PM base w bs lv) {i : Nat} {b : Bk} {p : Nat} (hb : bs[i]? = some b) (hp : p ∈ b.pgs) : p < w.heap.size := by
  obtain ⟨j, hj⟩ := List.mem_iff_getElem?.1 hp
  obtain ⟨_, arr, h1, _⟩ := h.page i b j p hb hj
  exact heap_lt h1
theorem live_split (h : PM base w bs lv) {i j p q : Nat} {b : Bk} (hb : bs[i]? = some b) (hj : b.pgs[j]? = some p) (h2 : 2 ≤ cnt bs p) (hq : w.heap.size ≤ q) (f : Nat) :
    live (bs.set i { b with pgs := b.pgs.set j q }) f = if f = b.fam then live bs f + 1 else live bs f := by
  have hnq : ∀ (i : Nat) (b : Bk), bs[i]? = some b → q ∉ b.pgs := fun i b hb hq' => by have := h.lt hb hq'; omega
  have hm : ∀ r, r ∈ b.pgs.set j q ↔ r = q ∨ (r ≠ p ∧ r ∈ b.pgs) := fun r => mem_set_iff (h.nod i b hb) hj (hnq i b hb)
  by_cases hf : f = b.fam
  · rw [if_pos hf]
    refine live_new hnq fun r => ?_
    constructor
    · rintro ⟨i', b', h3, h4, h5⟩
      rcases get_set hb h3 with ⟨rfl, rfl⟩ | ⟨h6, h7⟩
      · rcases (hm r).1 h5 with rfl | ⟨_, h8⟩
        · exact .inl rfl
        · exact .inr ⟨_, b, hb, hf.symm, h8⟩
      · exact .inr ⟨i', b', h7, h4, h5⟩
    · rintro (rfl | ⟨i', b', h3, h4, h5⟩)
      · exact ⟨i, _, set_same hb, hf.symm, (hm r).2 (.inl rfl)⟩
      · by_cases e : i' = i
        · subst e
          rw [hb] at h3
          cases h3
          by_cases e : r = p
          · subst e
            obtain ⟨k, c, g1, g2, g3⟩ := cnt_more (i := i') h2
            exact ⟨k, c, by rw [set_other g1]; exact g2, (h.one k i' c b r g2 hb g3 h5).trans h4, g3⟩
          · exact ⟨i', _, set_same hb, h4, (hm r).2 (.inr ⟨e, h5⟩)⟩
        · exact ⟨i', b', by rw [set_other e]; exact h3, h4, h5⟩
  · rw [if_neg hf]
    refine live_congr fun r => ?_
    constructor
    · rintro ⟨i', b', h3, h4, h5⟩
      rcases get_set hb h3 with ⟨rfl, rfl⟩ | ⟨h6, h7⟩
      · exact absurd h4.symm hf
      · exact ⟨i', b', h7, h4, h5⟩
    · rintro ⟨i', b', h3, h4, h5⟩
      have e : i' ≠ i := fun e => by subst e; rw [hb] at h3; cases h3; exact hf h4.symm
      exact ⟨i', b', by rw [set_other e]; exact h3, h4, h5⟩
/-- A page of one's own. -/
theorem PM.split (h : PM base w bs lv) {i j p n : Nat} {b : Bk} {arr : Array Value} (hb : bs[i]? = some b) (hj : b.pgs[j]? = some p) (h2 : 2 ≤ cnt bs p) (hn : n + 1 = cnt bs p) (hp : w.heap[p]? = some (.cells arr 90 (0, 0))) (hB : base ≤ w.heap.size) :
    PM base ((w.setCell ⟨p, 40, none⟩ (.int .i64 (n : Int))).alloc (.cells (arr.setIfInBounds 40 (.int .i64 1)) 90)) (bs.set i { b with pgs := b.pgs.set j w.heap.size }) lv ∧
    Keep [90] base w ((w.setCell ⟨p, 40, none⟩ (.int .i64 (n : Int))).alloc (.cells (arr.setIfInBounds 40 (.int .i64 1)) 90)) := by
  generalize hq : w.heap.size = q at *
  have hnq : ∀ (i : Nat) (b : Bk), bs[i]? = some b → q ∉ b.pgs := fun i b hb hq' => by have := h.lt hb hq'; omega
  have hm : ∀ r, r ∈ b.pgs.set j q ↔ r = q ∨ (r ≠ p ∧ r ∈ b.pgs) := fun r => mem_set_iff (h.nod i b hb) hj (hnq i b hb)
  obtain ⟨hBp, arr0, ha, hsz, ha40, hcells⟩ := h.page i b j p hb hj
  rw [hp] at ha
  injection ha with ha
  injection ha with ha _ _
  subst ha
  have hpb : p ∈ b.pgs := List.mem_of_getElem? hj
  have hpq : p ≠ q := by have := h.lt hb hpb; omega
  have k1 : Keep [90] base w (w.setCell ⟨p, 40, none⟩ (.int .i64 (n : Int))) := (Keep.refl _ _ _).set hp (by simp) hBp _
  have hw1 : (w.setCell ⟨p, 40, none⟩ (.int .i64 (n : Int))).heap.size = q := by rw [size_set, hq]
  have kk := k1.alloc (by rw [hw1]; omega) (.cells (arr.setIfInBounds 40 (.int .i64 1)) 90)
  refine ⟨⟨?_, ?_, ?_, ?_⟩, kk⟩
  · intro i' c j' r hc hr
    have hcs := cnt_set bs i b { b with pgs := b.pgs.set j q } r hb
    simp only [hm] at hcs
    have keepOld : ∀ (l : List Cl) (o m : Nat), r < q → r ≠ p → Page base w r m l o → Page base ((w.setCell ⟨p, 40, none⟩ (.int .i64 (n : Int))).alloc (.cells (arr.setIfInBounds 40 (.int .i64 1)) 90)) r m l o := fun l o m h1 h3 h4 =>
      h4.keep kk (by simp [Mine]) (by rw [Below.heap_alloc _ _ _ (by rw [hw1]; exact h1), heap_set_ne h3])
    rcases get_set hb hc with ⟨rfl, rfl⟩ | ⟨h6, h7⟩
    · rw [List.getElem?_set] at hr
      have hl := (List.getElem?_eq_some_iff.1 hj).1
      by_cases e : j = j'
      · subst e
        rw [if_pos rfl, if_pos hl] at hr
        obtain rfl := (Option.some.inj hr).symm
        have hc0 : cnt bs r = 0 := cnt_zero hnq
        rw [if_neg (hnq _ b hb), if_pos (.inl rfl), hc0] at hcs
        refine ⟨hB, arr.setIfInBounds 40 (.int .i64 1), ?_, by simpa using hsz, by simp [hsz]; omega, fun k hk => ?_⟩
        · rw [← hw1]; exact heap_alloc_new _ _
        · obtain ⟨c, h8, h9⟩ := hcells k hk
          obtain ⟨vK, vV, c0, c1, c2, c3, c4, c5⟩ := h9.keep kk (by simp [Mine])
          refine ⟨c, h8, vK, vV, ?_, ?_, ?_, ?_, ?_, c5⟩ <;> rw [Array.getElem?_setIfInBounds_ne (by omega)] <;> assumption
      · rw [if_neg e] at hr
        have hrp : r ≠ p := fun e' => e (nodup_inj (h.nod _ b hb) hj (e' ▸ hr))
        have hrb : r ∈ b.pgs := List.mem_of_getElem? hr
        obtain ⟨h8, h9⟩ := h.page i' b j' r hb hr
        rw [if_pos hrb, if_pos (.inr ⟨hrp, hrb⟩)] at hcs
        refine ⟨h8, keepOld _ _ _ (by have := h.lt hb hrb; omega) hrp ?_⟩
        rw [show cnt (bs.set i' { b with pgs := b.pgs.set j q }) r = cnt bs r by omega]
        exact h9
    · obtain ⟨h8, h9⟩ := h.page i' c j' r h7 hr
      have hrc : r ∈ c.pgs := List.mem_of_getElem? hr
      have hrq : r ≠ q := fun e => hnq i' c h7 (e ▸ hrc)
      refine ⟨h8, ?_⟩
      by_cases e : r = p
      · subst e
        rw [if_pos hpb, if_neg (by rintro (e | ⟨e, _⟩); exact hrq e; exact e rfl)] at hcs
        obtain ⟨arr1, g1, g2, g3, g4⟩ := h9
        rw [hp] at g1
        injection g1 with g1
        injection g1 with g1 _ _
        subst g1
        refine ⟨arr.setIfInBounds 40 (.int .i64 (n : Int)), ?_, by simpa using hsz, ?_, fun k hk => ?_⟩
        · rw [Below.heap_alloc _ _ _ (by rw [hw1]; have := h.lt hb hpb; omega)]
          exact Lib.heap_setCell_same hp _
        · rw [show cnt (bs.set i { b with pgs := b.pgs.set j q }) r = n by omega]
          simp [hsz]
        · obtain ⟨c', h10, h11⟩ := g4 k hk
          obtain ⟨vK, vV, c0, c1, c2, c3, c4, c5⟩ := h11.keep kk (by simp [Mine])
          refine ⟨c', h10, vK, vV, ?_, ?_, ?_, ?_, ?_, c5⟩ <;> rw [Array.getElem?_setIfInBounds_ne (by omega)] <;> assumption
      · refine keepOld _ _ _ (by have := h.lt h7 hrc; omega) e ?_
        rw [show cnt (bs.set i { b with pgs := b.pgs.set j q }) r = cnt bs r by
          by_cases hrb : r ∈ b.pgs
          · rw [if_pos hrb, if_pos (.inr ⟨e, hrb⟩)] at hcs; omega
          · rw [if_neg hrb, if_neg (by rintro (e' | ⟨_, e'⟩); exact hrq e'; exact hrb e')] at hcs; omega]
        exact h9
  · intro i' c hc
    rcases get_set hb hc with ⟨rfl, rfl⟩ | ⟨h6, h7⟩
    · exact nodup_set (h.nod _ b hb) (hnq _ b hb)
    · exact h.nod i' c h7
  · intro i' c hc
    have : ∃ (i0 : Nat) (b0 : Bk), bs[i0]? = some b0 ∧ b0.fam = c.fam := by
      rcases get_set hb hc with ⟨rfl, rfl⟩ | ⟨h6, h7⟩
      · exact ⟨_, b, hb, rfl⟩
      · exact ⟨i', c, h7, rfl⟩
    obtain ⟨i0, b0, g1, g2⟩ := this
    obtain ⟨h3, h4⟩ := h.fam i0 b0 g1
    rw [g2] at h3 h4
    exact ⟨h3, (kk.same _ _ _ _ h4 (by simp)).trans h4⟩
  · intro i' k' c d r hc hd hrc hrd
    rcases get_set hb hc with ⟨rfl, rfl⟩ | ⟨h6, h7⟩
    · rcases get_set hb hd with ⟨rfl, rfl⟩ | ⟨h8, h9⟩
      · rfl
      · rcases (hm r).1 hrc with rfl | ⟨_, hr⟩
        · exact absurd hrd (hnq _ d h9)
        · exact h.one _ _ b d r hb h9 hr hrd
    · rcases get_set hb hd with ⟨rfl, rfl⟩ | ⟨h8, h9⟩
      · rcases (hm r).1 hrd with rfl | ⟨_, hr⟩
        · exact absurd hrc (hnq _ c h7)
        · exact h.one _ _ c b r h7 hb hrc hr
      · exact h.one _ _ c d r h7 h9 hrc hrd
/-- A cell is written on a page that one book alone has. -/
theorem PM.store (h : PM base w bs lv) {i j p k : Nat} {b : Bk} {c : Cl} {vK vV : Value} (hb : bs[i]? = some b) (hj : b.pgs[j]? = some p) (h1 : cnt bs p = 1) (hk : k < 8) (hc : Parts base w vK vV c) :
    PM base (((((w.setCell ⟨p, k * 5, none⟩ (.int .i64 c.kind)).setCell ⟨p, k * 5 + 1, none⟩ (.int .i64 c.a)).setCell ⟨p, k * 5 + 2, none⟩ (.int .i64 c.b)).setCell ⟨p, k * 5 + 3, none⟩ vK).setCell ⟨p, k * 5 + 4, none⟩ vV) (bs.set i { b with slots := b.slots.set (8 * j + k) c }) lv ∧
    Keep [90] base w (((((w.setCell ⟨p, k * 5, none⟩ (.int .i64 c.kind)).setCell ⟨p, k * 5 + 1, none⟩ (.int .i64 c.a)).setCell ⟨p, k * 5 + 2, none⟩ (.int .i64 c.b)).setCell ⟨p, k * 5 + 3, none⟩ vK).setCell ⟨p, k * 5 + 4, none⟩ vV) := by
  obtain ⟨hBp, arr, hp, hsz, ha40, hcells⟩ := h.page i b j p hb hj
  have e1 := Lib.heap_setCell_same (i := k * 5) hp (.int .i64 c.kind)
  have e2 := Lib.heap_setCell_same (i := k * 5 + 1) e1 (.int .i64 c.a)
  have e3 := Lib.heap_setCell_same (i := k * 5 + 2) e2 (.int .i64 c.b)
  have e4 := Lib.heap_setCell_same (i := k * 5 + 3) e3 vK
  have e5 := Lib.heap_setCell_same (i := k * 5 + 4) e4 vV
  have kk := (((((Keep.refl [90] base w).set (p := ⟨p, k * 5, none⟩) hp (by simp) hBp (.int .i64 c.kind)).set (p := ⟨p, k * 5 + 1, none⟩) e1 (by simp) hBp (.int .i64 c.a)).set (p := ⟨p, k * 5 + 2, none⟩) e2 (by simp) hBp (.int .i64 c.b)).set (p := ⟨p, k * 5 + 3, none⟩) e3 (by simp) hBp vK).set (p := ⟨p, k * 5 + 4, none⟩) e4 (by simp) hBp vV
  have hother : ∀ r, r ≠ p → (((((w.setCell ⟨p, k * 5, none⟩ (.int .i64 c.kind)).setCell ⟨p, k * 5 + 1, none⟩ (.int .i64 c.a)).setCell ⟨p, k * 5 + 2, none⟩ (.int .i64 c.b)).setCell ⟨p, k * 5 + 3, none⟩ vK).setCell ⟨p, k * 5 + 4, none⟩ vV).heap[r]? = w.heap[r]? := fun r hr => by
    rw [heap_set_ne hr, heap_set_ne hr, heap_set_ne hr, heap_set_ne hr, heap_set_ne hr]
  generalize (((((w.setCell ⟨p, k * 5, none⟩ (.int .i64 c.kind)).setCell ⟨p, k * 5 + 1, none⟩ (.int .i64 c.a)).setCell ⟨p, k * 5 + 2, none⟩ (.int .i64 c.b)).setCell ⟨p, k * 5 + 3, none⟩ vK).setCell ⟨p, k * 5 + 4, none⟩ vV) = w' at *
  clear e1 e2 e3 e4
  have hcnt : ∀ r, cnt (bs.set i { b with slots := b.slots.set (8 * j + k) c }) r = cnt bs r := fun r => by
    have := cnt_set bs i b { b with slots := b.slots.set (8 * j + k) c } r hb
    simp only at this
    omega
  have hpb : p ∈ b.pgs := List.mem_of_getElem? hj
  have kp := hc.keep kk (by simp [Mine])
  refine ⟨⟨?_, ?_, ?_, ?_⟩, kk⟩
  · intro i' d j' r hd hr
    rw [hcnt]
    rcases get_set hb hd with ⟨rfl, rfl⟩ | ⟨h6, h7⟩
    · simp only at hr
      obtain ⟨g1, g2⟩ := h.page _ b j' r hb hr
      refine ⟨g1, ?_⟩
      by_cases e : j' = j
      · subst e
        rw [hj] at hr
        obtain rfl := Option.some.inj hr
        refine ⟨_, e5, by simp [hsz], ?_, fun k' hk' => ?_⟩
        · rw [Array.getElem?_setIfInBounds_ne (by omega), Array.getElem?_setIfInBounds_ne (by omega), Array.getElem?_setIfInBounds_ne (by omega), Array.getElem?_setIfInBounds_ne (by omega), Array.getElem?_setIfInBounds_ne (by omega)]
          exact ha40
        · obtain ⟨c0, h8, h9⟩ := hcells k' hk'
          by_cases ek : k' = k
          · subst ek
            refine ⟨c, ?_, vK, vV, ?_, ?_, ?_, ?_, ?_, kp⟩
            · simp only
              rw [List.getElem?_set, if_pos rfl, if_pos (List.getElem?_eq_some_iff.1 h8).1]
            all_goals
              simp only [Array.getElem?_setIfInBounds, Array.size_setIfInBounds, hsz]
              repeat (first | rw [if_pos trivial] | rw [if_pos (by omega)] | rw [if_neg (by omega)])
          · obtain ⟨vK', vV', c0', c1, c2, c3, c4, c5⟩ := h9.keep kk (by simp [Mine])
            refine ⟨c0, ?_, vK', vV', ?_, ?_, ?_, ?_, ?_, c5⟩
            · simp only
              rw [List.getElem?_set, if_neg (by omega)]; exact h8
            all_goals
              rw [Array.getElem?_setIfInBounds_ne (by omega), Array.getElem?_setIfInBounds_ne (by omega), Array.getElem?_setIfInBounds_ne (by omega), Array.getElem?_setIfInBounds_ne (by omega), Array.getElem?_setIfInBounds_ne (by omega)]
              assumption
      · have hrp : r ≠ p := fun e' => e (nodup_inj (h.nod _ b hb) (e' ▸ hr) hj)
        obtain ⟨arr', g3, g4, g5, g6⟩ := g2.keep kk (by simp [Mine]) (hother r hrp)
        refine ⟨arr', g3, g4, g5, fun k' hk' => ?_⟩
        obtain ⟨c0, h8, h9⟩ := g6 k' hk'
        refine ⟨c0, ?_, h9⟩
        simp only
        rw [List.getElem?_set, if_neg (by omega)]; exact h8
    · obtain ⟨g1, g2⟩ := h.page i' d j' r h7 hr
      have hrp : r ≠ p := fun e => by
        have := cnt_two hb h7 (fun e => h6 e.symm) hpb (e ▸ List.mem_of_getElem? hr)
        omega
      exact ⟨g1, g2.keep kk (by simp [Mine]) (hother r hrp)⟩
  · intro i' d hd
    rcases get_set hb hd with ⟨rfl, rfl⟩ | ⟨h6, h7⟩
    · exact h.nod _ b hb
    · exact h.nod i' d h7
  · intro i' d hd
    have : ∃ (i0 : Nat) (b0 : Bk), bs[i0]? = some b0 ∧ b0.fam = d.fam := by
      rcases get_set hb hd with ⟨rfl, rfl⟩ | ⟨h6, h7⟩
      · exact ⟨_, b, hb, rfl⟩
      · exact ⟨i', d, h7, rfl⟩
    obtain ⟨i0, b0, g1, g2⟩ := this
    obtain ⟨h3, h4⟩ := h.fam i0 b0 g1
    rw [g2] at h3 h4
    exact ⟨h3, (kk.same _ _ _ _ h4 (by simp)).trans h4⟩
  · intro i' k' d e r hd he hrd hre
    have back : ∀ (i' : Nat) (d : Bk), (bs.set i { b with slots := b.slots.set (8 * j + k) c })[i']? = some d → ∃ d0 : Bk, bs[i']? = some d0 ∧ d0.pgs = d.pgs ∧ d0.fam = d.fam := fun i' d hd => by
      rcases get_set hb hd with ⟨rfl, rfl⟩ | ⟨h6, h7⟩
      · exact ⟨b, hb, rfl, rfl⟩
      · exact ⟨d, h7, rfl, rfl⟩
    obtain ⟨d0, h3, h4, h5⟩ := back i' d hd
    obtain ⟨e0, h6, h7, h8⟩ := back k' e he
    rw [← h5, ← h8]
    exact h.one i' k' d0 e0 r h3 h6 (h4 ▸ hrd) (h7 ▸ hre)
/-- A book and its row are turned. -/
theorem BM.turn (h : BM base w bs) {w' : World} {i : Nat} {b b' : Bk} (hb : bs[i]? = some b) (ha : b'.at_ = b.at_)
    (hs : ∀ (k : Nat) (arr : Array Value) (T : TypeId), w.heap[k]? = some (.cells arr T (0, 0)) → k ≠ b.at_ → b.row.ownBlock ≠ some k → w'.heap[k]? = w.heap[k]?)
    (hh : w'.heap[b.at_]? = some (.cells #[.bool b'.opn, .int .i64 (b'.len : Int), b'.row, .pointer (some ⟨b'.fam, 0, none⟩)] 86 (0, 0)))
    (ho : w'.ownsRow base 87 1 b'.row b'.pgs.length (ptrs b'.pgs)) (hr : ∀ g, b'.row.ownBlock = some g → b.row.ownBlock = some g ∨ w.heap.size ≤ g) : BM base w' (bs.set i b') := by
  have hh0 := h.book i b hb
  refine ⟨fun j c hc => ?_, fun j k c d hc hd hjk => ?_⟩
  · rcases get_set hb hc with ⟨rfl, rfl⟩ | ⟨h6, h7⟩
    · rw [ha]; exact ⟨hh0.1, hh, ho⟩
    · obtain ⟨g1, g2, g3⟩ := h.book j c h7
      have hap := h.apart j i c b h7 hb h6
      have hap' := h.apart i j b c hb h7 fun e => h6 e.symm
      refine ⟨g1, ?_, own_same g3 fun g cur hg hcur => ?_⟩
      · refine (hs _ _ _ g2 hap.1 fun e => ?_).trans g2
        rcases hh0.2.2.2 with ⟨e1, _⟩ | ⟨g, cap, cur, e1, _, e2, _⟩
        · rw [e1] at e; simp [Value.ownBlock] at e
        · rw [e1] at e; simp [Value.ownBlock] at e; subst e; rw [g2] at e2; injection e2 with e2; injection e2 with _ e2 _; cases e2
      · exact hs _ _ _ hcur (type_ne hcur hh0.2.1 (by decide)) fun e => hap'.2 g e hg
  · have far : ∀ (j : Nat) (c : Bk), bs[j]? = some c → j ≠ i → c.at_ ≠ b'.at_ ∧ (∀ g, c.row.ownBlock = some g → b'.row.ownBlock ≠ some g) := fun j c hc hji => by
      have hap := h.apart j i c b hc hb hji
      refine ⟨by rw [ha]; exact hap.1, fun g hg e => ?_⟩
      rcases hr g e with e | e
      · exact hap.2 g hg e
      · have := ((h.book j c hc).2.2.lt g hg).2; omega
    rcases get_set hb hc with ⟨rfl, rfl⟩ | ⟨h6, h7⟩
    · rcases get_set hb hd with ⟨rfl, rfl⟩ | ⟨h8, h9⟩
      · exact absurd rfl hjk
      · have := far k d h9 h8
        exact ⟨fun e => this.1 e.symm, fun g hg e => this.2 g e hg⟩
    · rcases get_set hb hd with ⟨rfl, rfl⟩ | ⟨h8, h9⟩
      · exact far j c h7 h6
      · exact h.apart j k c d h7 h9 hjk
theorem own_put {e : TypeId} {g n cap j : Nat} {xs : List Value} (h : w.ownsRow base e 1 (.slice (some ⟨g, 0, none⟩) n cap) n xs) (u : Value) (hj : j < n) : (w.setCell ⟨g, j, none⟩ u).ownsRow base e 1 (.slice (some ⟨g, 0, none⟩) n cap) n (xs.set j u) := by
  obtain ⟨h0, h1⟩ := h
  refine ⟨by simpa using h0, ?_⟩
  rcases h1 with ⟨h1, _⟩ | ⟨g', cap', cur, h1, h2, h3, h4, h5, h6, h7⟩
  · cases h1
  · injection h1 with e1 e2 e3
    injection e1 with e1
    injection e1 with e1
    subst e1
    refine .inr ⟨g, cap', _, by rw [e3], h2, Lib.heap_setCell_same h3 u, h4, h5, by simpa using h6, ?_⟩
    rw [Array.toList_setIfInBounds, ← h7]
    rw [List.take_set]
end
end Go.Proofs.Ytmipgpkeegggpaa.P
