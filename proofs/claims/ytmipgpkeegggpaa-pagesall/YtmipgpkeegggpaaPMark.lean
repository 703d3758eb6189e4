-- PROVED: a book is marked (5.2).
import Derived.Test.YtmipgpkeegggpaaPKit
namespace Go.Proofs.Ytmipgpkeegggpaa.P
open Go.RowKit
set_option linter.unusedVariables false
theorem mark_none (w : World) : Calls Try.prog 30 #[.pointer none] w fun e w' => e = .returned (.pointer none) ∧ w' = w := by
  go_enter Try.func30, Try.ntmps30
  go_wp2
  go_ret
  exact ⟨rfl, rfl⟩
theorem mark_closed {base : Nat} {w : World} {bs : List Bk} (h : Sys base w bs) {i : Nat} {b : Bk} (hb : bs[i]? = some b) {A : Nat} (hA : b.at_ = A) (ho : b.opn = false) : Calls Try.prog 30 #[.pointer (some ⟨A, 0, none⟩)] w fun e w' => e = .returned (.pointer none) ∧ w' = w := by
  subst hA
  obtain ⟨h1, h2, _⟩ := h.bm.book i b hb
  rw [ho] at h2
  obtain ⟨b0, b1, b2, b3, f0, f1, f2, f3, lb⟩ := blk4 h2
  clear h h2 hb ho h1
  generalize b.at_ = B at *
  go_enter Try.func30, Try.ntmps30
  go_wp2
  go_ret
  exact ⟨rfl, rfl⟩
/-- The mark with t pages. -/
def part (b : Bk) (t : Nat) : Bk := { b with pgs := b.pgs.take t, slots := b.slots.take (8 * t) }
theorem get_app {bs : List Bk} {m c : Bk} {j : Nat} (h : (bs ++ [m])[j]? = some c) : bs[j]? = some c ∨ (j = bs.length ∧ c = m) := by
  rcases Nat.lt_or_ge j bs.length with hl | hl
  · rw [List.getElem?_append_left hl] at h; exact .inl h
  · rw [List.getElem?_append_right hl] at h
    by_cases e : j - bs.length = 0
    · rw [e] at h
      simp at h
      exact .inr ⟨by omega, h.symm⟩
    · rw [List.getElem?_eq_none (by simp; omega)] at h; cases h
theorem app_old {bs : List Bk} {m c : Bk} {j : Nat} (h : bs[j]? = some c) : (bs ++ [m])[j]? = some c := by
  rw [List.getElem?_append_left (List.getElem?_eq_some_iff.1 h).1]; exact h
theorem mark_step {base : Nat} {w : World} {bs : List Bk} {lv : Nat → Nat} {i t p : Nat} {b : Bk} (h : PM base w (bs ++ [part b t]) lv) (hb : bs[i]? = some b) (hp : b.pgs[t]? = some p) :
    ∃ arr, w.heap[p]? = some (.cells arr 90 (0, 0)) ∧ arr[40]? = some (.int .i64 (cnt (bs ++ [part b t]) p : Int)) ∧
      PM base (w.setCell ⟨p, 40, none⟩ (.int .i64 ((cnt (bs ++ [part b t]) p : Int) + 1))) (bs ++ [part b (t + 1)]) lv ∧ Keep [90] base w (w.setCell ⟨p, 40, none⟩ (.int .i64 ((cnt (bs ++ [part b t]) p : Int) + 1))) := by
  obtain ⟨g1, arr, g2, g3, g4, _⟩ := h.page i b t p (app_old hb) hp
  have hnd := h.nod i b (app_old hb)
  have htl := (List.getElem?_eq_some_iff.1 hp).1
  have hmem : ∀ q, q ∈ b.pgs.take (t + 1) ↔ q ∈ b.pgs.take t ∨ q = p := fun q => by
    rw [List.take_add_one, hp]; simp
  have hnot : p ∉ b.pgs.take t := fun e => by
    obtain ⟨j, hj⟩ := List.mem_iff_getElem?.1 e
    rw [List.getElem?_take] at hj
    split at hj
    · have := nodup_inj hnd hj hp; omega
    · cases hj
  have hr := h.recount (bs' := bs ++ [part b (t + 1)]) g2 g1 (cnt (bs ++ [part b t]) p + 1) g3 ?_ ?_ ?_ ?_ ?_
  · rw [show ((cnt (bs ++ [part b t]) p + 1 : Nat) : Int) = (cnt (bs ++ [part b t]) p : Int) + 1 by omega] at hr
    exact ⟨arr, g2, g4, hr⟩
  · intro i' c j q hc hq
    rcases get_app hc with h6 | ⟨_, rfl⟩
    · exact ⟨i', c, j, app_old h6, hq, fun _ _ => rfl⟩
    · have hj : j < t + 1 := by
        have := (List.getElem?_eq_some_iff.1 hq).1
        unfold part at this
        simp at this; omega
      refine ⟨i, b, j, app_old hb, ?_, fun k hk => ?_⟩
      · unfold part at hq
        simp only [] at hq
        rw [List.getElem?_take, if_pos hj] at hq
        exact hq
      · unfold part
        simp only []
        rw [List.getElem?_take, if_pos (by omega)]
  · intro i' c q _ _
    rw [cnt_append, cnt_append, cnt_append]
    unfold part
    simp only [hmem]
    by_cases e : q = p
    · subst e
      simp [hnot]
    · simp [e]
  · intro i' c hc
    rcases get_app hc with h6 | ⟨_, rfl⟩
    · exact h.nod i' c (app_old h6)
    · exact List.Nodup.sublist (List.take_sublist _ _) hnd
  · intro i' c hc
    rcases get_app hc with h6 | ⟨_, rfl⟩
    · exact ⟨i', c, app_old h6, rfl⟩
    · exact ⟨i, b, app_old hb, rfl⟩
  · intro i' k c d q hc hd hqc hqd
    have back : ∀ (i' : Nat) (c : Bk), (bs ++ [part b (t + 1)])[i']? = some c → q ∈ c.pgs → ∃ (j : Nat) (c' : Bk), bs[j]? = some c' ∧ q ∈ c'.pgs ∧ c'.fam = c.fam := fun i' c hc hq => by
      rcases get_app hc with h6 | ⟨_, rfl⟩
      · exact ⟨i', c, h6, hq, rfl⟩
      · exact ⟨i, b, hb, List.mem_of_mem_take hq, rfl⟩
    obtain ⟨j1, c1, x1, x2, x3⟩ := back i' c hc hqc
    obtain ⟨j2, c2, y1, y2, y3⟩ := back k d hd hqd
    rw [← x3, ← y3]
    exact h.one j1 j2 c1 c2 q (app_old x1) (app_old y1) x2 y2
theorem mark_start {base : Nat} {w : World} {bs : List Bk} {lv : Nat → Nat} {i : Nat} {b : Bk} (h : PM base w bs lv) (hb : bs[i]? = some b) : PM base w (bs ++ [part b 0]) lv := by
  have hc : ∀ p, cnt (bs ++ [part b 0]) p = cnt bs p := fun p => by rw [cnt_append]; simp [part]
  refine ⟨fun j c k p hcc hp => ?_, fun j c hcc => ?_, fun j c hcc => ?_, fun j k c d p hcc hd hp hp' => ?_⟩
  · rcases get_app hcc with h6 | ⟨_, rfl⟩
    · rw [hc]; exact h.page j c k p h6 hp
    · simp [part] at hp
  · rcases get_app hcc with h6 | ⟨_, rfl⟩
    · exact h.nod j c h6
    · simp [part]
  · rcases get_app hcc with h6 | ⟨_, rfl⟩
    · exact h.fam j c h6
    · exact h.fam i b hb
  · rcases get_app hcc with h6 | ⟨_, rfl⟩
    · rcases get_app hd with h7 | ⟨_, rfl⟩
      · exact h.one j k c d p h6 h7 hp hp'
      · simp [part] at hp'
    · simp [part] at hp
/-- The mark is there. -/
theorem mark_end {base : Nat} {w wr w7 : World} {bs : List Bk} (hs : Sys base w bs) {i : Nat} {b : Bk} (hb : bs[i]? = some b) (hf : bs.length < 1000) (hpm : PM base wr (bs ++ [part b b.pgs.length]) (live bs)) (hk : Keep [90] base w wr) (h7 : Below wr.heap.size wr w7) {v : Value} (ho : w7.ownsRow wr.heap.size 87 1 v b.pgs.length (ptrs b.pgs)) :
    Sys base (w7.alloc (.cells #[.bool b.opn, .int .i64 (b.len : Int), v, .pointer (some ⟨b.fam, 0, none⟩)] 86)) (bs ++ [{ b with at_ := w7.heap.size, row := v }]) ∧ Keep [90] base w (w7.alloc (.cells #[.bool b.opn, .int .i64 (b.len : Int), v, .pointer (some ⟨b.fam, 0, none⟩)] 86)) := by
  have hBr := Nat.le_trans hs.size hk.size
  have hal : Below w7.heap.size w7 (w7.alloc (.cells #[.bool b.opn, .int .i64 (b.len : Int), v, .pointer (some ⟨b.fam, 0, none⟩)] 86)) := (Below.refl _ _).alloc (Nat.le_refl _) _
  have hnew := heap_alloc_new w7 (.cells #[.bool b.opn, .int .i64 (b.len : Int), v, .pointer (some ⟨b.fam, 0, none⟩)] 86)
  have h8 : Below wr.heap.size wr _ := Below.chain h7 hal h7.size
  generalize w7.alloc (.cells #[.bool b.opn, .int .i64 (b.len : Int), v, .pointer (some ⟨b.fam, 0, none⟩)] 86) = w8 at *
  have k8 := keepB hBr h8
  obtain ⟨o1, o2, o3, o4⟩ := hs.ok i b hb
  have bm8 := (hs.bm.keep hk (by simp)).keep k8 (by simp)
  have pm8 := hpm.keep k8 (by simp)
  have ho8 : w8.ownsRow base 87 1 v b.pgs.length (ptrs b.pgs) := by
    have := own_same ho fun g cur hg hcur => hal.block g (heap_lt hcur)
    refine ⟨this.1, this.2.imp id ?_⟩
    rintro ⟨g, cap, cur, e1, e2, e3⟩
    exact ⟨g, cap, cur, e1, by omega, e3⟩
  have hlv : ∀ f, live (bs ++ [{ b with at_ := w7.heap.size, row := v }]) f = live bs f := fun f => by
    refine live_congr fun p => ?_
    constructor
    · rintro ⟨j, c, h3, h4, h5⟩
      rcases get_app h3 with h6 | ⟨_, rfl⟩
      · exact ⟨j, c, h6, h4, h5⟩
      · exact ⟨i, b, hb, h4, h5⟩
    · rintro ⟨j, c, h3, h4, h5⟩
      exact ⟨j, c, app_old h3, h4, h5⟩
  have hpp : (part b b.pgs.length).pgs = b.pgs := by unfold part; simp
  have hps : (part b b.pgs.length).slots = b.slots := by unfold part; simp only []; rw [List.take_of_length_le (by omega)]
  have hcnt : ∀ p, cnt (bs ++ [{ b with at_ := w7.heap.size, row := v }]) p = cnt (bs ++ [part b b.pgs.length]) p := fun p => by rw [cnt_append, cnt_append, hpp]
  have back : ∀ (j : Nat) (c : Bk), (bs ++ [{ b with at_ := w7.heap.size, row := v }])[j]? = some c → ∃ d : Bk, (bs ++ [part b b.pgs.length])[j]? = some d ∧ d.pgs = c.pgs ∧ d.slots = c.slots ∧ d.fam = c.fam := fun j c hc => by
    rcases get_app hc with h6 | ⟨e, rfl⟩
    · exact ⟨c, app_old h6, rfl, rfl, rfl⟩
    · exact ⟨part b b.pgs.length, by subst e; simp, hpp, hps, rfl⟩
  refine ⟨⟨⟨fun j c hc => ?_, fun j k c d hc hd hjk => ?_⟩, ⟨fun j c k p hc hp => ?_, fun j c hc => ?_, fun j c hc => ?_, fun j k c d p hc hd hp hp' => ?_⟩, fun j c hc => ?_, by simp; omega, Nat.le_trans hBr h8.size⟩, hk.trans (k8.mono (by simp))⟩
  · rcases get_app hc with h6 | ⟨_, rfl⟩
    · exact bm8.book j c h6
    · exact ⟨Nat.le_trans hBr h7.size, hnew, ho8⟩
  · have far : ∀ (j : Nat) (c : Bk), bs[j]? = some c → c.at_ < wr.heap.size ∧ ∀ g, c.row.ownBlock = some g → g < wr.heap.size := fun j c hc => by
      have bmr := hs.bm.keep hk (by simp)
      obtain ⟨_, z2, z3⟩ := bmr.book j c hc
      exact ⟨heap_lt z2, fun g hg => (z3.lt g hg).2⟩
    have hvl : ∀ g, v.ownBlock = some g → wr.heap.size ≤ g := fun g hg => (ho.lt g hg).1
    have h7s := h7.size
    rcases get_app hc with h6 | ⟨e1, rfl⟩
    · rcases get_app hd with h9 | ⟨e2, rfl⟩
      · exact hs.bm.apart j k c d h6 h9 hjk
      · refine ⟨by simp only []; have := (far j c h6).1; omega, fun g hg e => ?_⟩
        have := (far j c h6).2 g hg
        have := hvl g e
        omega
    · rcases get_app hd with h9 | ⟨e2, rfl⟩
      · refine ⟨by simp only []; have := (far k d h9).1; omega, fun g hg e => ?_⟩
        have := (far k d h9).2 g e
        have := hvl g hg
        omega
      · exact absurd (e1.trans e2.symm) hjk
  · obtain ⟨d, g0, g1, g2, g3⟩ := back j c hc
    have := pm8.page j d k p g0 (by rw [g1]; exact hp)
    rw [hcnt, ← g2]; exact this
  · obtain ⟨d, g0, g1, g2, g3⟩ := back j c hc
    rw [← g1]; exact pm8.nod j d g0
  · obtain ⟨d, g0, g1, g2, g3⟩ := back j c hc
    rw [hlv, ← g3]; exact pm8.fam j d g0
  · obtain ⟨c', g0, g1, g2, g3⟩ := back j c hc
    obtain ⟨d', k0, k1, k2, k3⟩ := back k d hd
    rw [← g3, ← k3]
    exact pm8.one j k c' d' p g0 k0 (by rw [g1]; exact hp) (by rw [k1]; exact hp')
  · rcases get_app hc with h6 | ⟨_, rfl⟩
    · exact hs.ok j c h6
    · exact ⟨o1, o2, o3, o4⟩
end Go.Proofs.Ytmipgpkeegggpaa.P
