-- PROVED: one page more.
import Derived.Test.YtmipgpkeegggpaaPSet
namespace Go.Proofs.Ytmipgpkeegggpaa.P
open Go.RowKit
set_option linter.unusedVariables false
theorem PM.alike {base : Nat} {w : World} {bs : List Bk} {lv : Nat → Nat} {i : Nat} {b b1 b2 : Bk} (hb : bs[i]? = some b) (h : PM base w (bs.set i b1) lv) (h1 : b1.slots = b2.slots) (h2 : b1.pgs = b2.pgs) (h3 : b1.fam = b2.fam) : PM base w (bs.set i b2) lv := by
  have back : ∀ (j : Nat) (c : Bk), (bs.set i b2)[j]? = some c → ∃ d : Bk, (bs.set i b1)[j]? = some d ∧ d.slots = c.slots ∧ d.pgs = c.pgs ∧ d.fam = c.fam := fun j c hc => by
    rcases get_set hb hc with ⟨rfl, rfl⟩ | ⟨g1, g2⟩
    · exact ⟨b1, set_same hb, h1, h2, h3⟩
    · exact ⟨c, by rw [set_other g1]; exact g2, rfl, rfl, rfl⟩
  have hc : ∀ p, cnt (bs.set i b2) p = cnt (bs.set i b1) p := fun p => by
    have e1 := cnt_set bs i b b1 p hb
    have e2 := cnt_set bs i b b2 p hb
    rw [h2] at e1
    omega
  refine ⟨fun j c k p hcc hp => ?_, fun j c hcc => ?_, fun j c hcc => ?_, fun j k c d p hcc hd hp hp' => ?_⟩
  · obtain ⟨d, g0, g1, g2, g3⟩ := back j c hcc
    have := h.page j d k p g0 (by rw [g2]; exact hp)
    rw [hc, ← g1]; exact this
  · obtain ⟨d, g0, g1, g2, g3⟩ := back j c hcc
    rw [← g2]; exact h.nod j d g0
  · obtain ⟨d, g0, g1, g2, g3⟩ := back j c hcc
    rw [← g3]; exact h.fam j d g0
  · obtain ⟨c', g0, g1, g2, g3⟩ := back j c hcc
    obtain ⟨d', k0, k1, k2, k3⟩ := back k d hd
    rw [← g3, ← k3]
    exact h.one j k c' d' p g0 k0 (by rw [g2]; exact hp) (by rw [k2]; exact hp')
/-- A page of nothing. -/
def Blank (arr : Array Value) : Prop := arr.size = 41 ∧ arr[40]? = some (.int .i64 1) ∧ ∀ k, k < 8 → arr[k * 5]? = some (.int .i64 0) ∧ arr[k * 5 + 1]? = some (.int .i64 0) ∧ arr[k * 5 + 2]? = some (.int .i64 0) ∧ arr[k * 5 + 3]? = some (.slice none 0 0) ∧ arr[k * 5 + 4]? = some (.slice none 0 0)
def more (b : Bk) (q : Nat) (v : Value) : Bk := { b with pgs := b.pgs ++ [q], slots := b.slots ++ List.replicate 8 Cl.zero, row := v }
theorem PM.add {base : Nat} {w : World} {bs : List Bk} {lv : Nat → Nat} (h : PM base w bs lv) {i : Nat} {b : Bk} {arr : Array Value} (hb : bs[i]? = some b) (ha : Blank arr) (hB : base ≤ w.heap.size) (hs : b.slots.length = 8 * b.pgs.length) (v : Value) :
    PM base (w.alloc (.cells arr 90)) (bs.set i (more b w.heap.size v)) lv := by
  have hnew := heap_alloc_new w (.cells arr 90)
  have hbel : Below w.heap.size w (w.alloc (.cells arr 90)) := (Below.refl _ _).alloc (Nat.le_refl _) _
  have kk := keepB hB hbel
  generalize hq : w.heap.size = q at *
  have h' := h.keep kk (by simp)
  have hnq : ∀ (i : Nat) (b : Bk), bs[i]? = some b → q ∉ b.pgs := fun i b hb hq' => by have := h.lt hb hq'; omega
  have hm : ∀ r, r ∈ (more b q v).pgs ↔ r = q ∨ r ∈ b.pgs := fun r => by unfold more; simp [or_comm]
  have hold : ∀ (j : Nat) (c : Bk) (r : Nat), bs[j]? = some c → r ∈ c.pgs → cnt (bs.set i (more b q v)) r = cnt bs r := fun j c r hc hr => by
    have e := cnt_set bs i b (more b q v) r hb
    simp only [hm] at e
    have hrq : r ≠ q := fun e => hnq j c hc (e ▸ hr)
    simp only [hrq, false_or] at e
    omega
  refine ⟨fun j c k r hc hr => ?_, fun j c hc => ?_, fun j c hc => ?_, fun j k c d r hc hd hr hr' => ?_⟩
  · rcases get_set hb hc with ⟨rfl, rfl⟩ | ⟨g1, g2⟩
    · unfold more at hr
      simp only at hr
      rcases Nat.lt_or_ge k b.pgs.length with hk | hk
      · rw [List.getElem?_append_left hk] at hr
        rw [hold _ b r hb (List.mem_of_getElem? hr)]
        obtain ⟨g3, arr', g4, g5, g6, g7⟩ := h'.page _ b k r hb hr
        refine ⟨g3, arr', g4, g5, g6, fun m hm => ?_⟩
        obtain ⟨c, g8, g9⟩ := g7 m hm
        refine ⟨c, ?_, g9⟩
        unfold more
        simp only
        rw [List.getElem?_append_left (by omega)]; exact g8
      · rw [List.getElem?_append_right hk] at hr
        have hk0 : k = b.pgs.length := by
          have := (List.getElem?_eq_some_iff.1 hr).1
          simp at this; omega
        subst hk0
        simp at hr
        subst hr
        refine ⟨hB, arr, hnew, ha.1, ?_, fun m hm => ?_⟩
        · have e := cnt_set bs j b (more b q v) q hb
          rw [if_neg (hnq _ b hb), if_pos ((hm q).2 (.inl rfl)), cnt_zero hnq] at e
          rw [show cnt (bs.set j (more b q v)) q = 1 by omega]
          exact ha.2.1
        · obtain ⟨a0, a1, a2, a3, a4⟩ := ha.2.2 m hm
          refine ⟨Cl.zero, ?_, .slice none 0 0, .slice none 0 0, a0, a1, a2, a3, a4, Parts.nil _ _ _ _ _⟩
          unfold more
          simp only
          rw [List.getElem?_append_right (by omega), List.getElem?_replicate, if_pos (by omega)]
    · rw [hold j c r g2 (List.mem_of_getElem? hr)]
      exact h'.page j c k r g2 hr
  · rcases get_set hb hc with ⟨rfl, rfl⟩ | ⟨g1, g2⟩
    · unfold more
      simp only
      rw [List.nodup_append]
      refine ⟨h.nod _ b hb, by simp, ?_⟩
      intro a ha b' hb' e
      simp at hb'
      subst hb'
      exact hnq _ b hb (e ▸ ha)
    · exact h.nod j c g2
  · rcases get_set hb hc with ⟨rfl, rfl⟩ | ⟨g1, g2⟩
    · exact h'.fam _ b hb
    · exact h'.fam j c g2
  · rcases get_set hb hc with ⟨rfl, rfl⟩ | ⟨g1, g2⟩
    · rcases get_set hb hd with ⟨rfl, rfl⟩ | ⟨g3, g4⟩
      · rfl
      · rcases (hm r).1 hr with rfl | e
        · exact absurd hr' (hnq _ d g4)
        · exact h.one _ _ b d r hb g4 e hr'
    · rcases get_set hb hd with ⟨rfl, rfl⟩ | ⟨g3, g4⟩
      · rcases (hm r).1 hr' with rfl | e
        · exact absurd hr (hnq _ c g2)
        · exact h.one _ _ c b r g2 hb hr e
      · exact h.one _ _ c d r g2 g4 hr hr'
theorem live_more {base : Nat} {w : World} {bs : List Bk} {lv : Nat → Nat} (h : PM base w bs lv) {i q : Nat} {b : Bk} (hb : bs[i]? = some b) (hq : w.heap.size ≤ q) (v : Value) (f : Nat) : live (bs.set i (more b q v)) f = if f = b.fam then live bs f + 1 else live bs f := by
  have hnq : ∀ (i : Nat) (b : Bk), bs[i]? = some b → q ∉ b.pgs := fun i b hb hq' => by have := h.lt hb hq'; omega
  have hm : ∀ r, r ∈ (more b q v).pgs ↔ r = q ∨ r ∈ b.pgs := fun r => by unfold more; simp [or_comm]
  by_cases hf : f = b.fam
  · rw [if_pos hf]
    refine live_new hnq fun r => ?_
    constructor
    · rintro ⟨i', b', h3, h4, h5⟩
      rcases get_set hb h3 with ⟨rfl, rfl⟩ | ⟨h6, h7⟩
      · rcases (hm r).1 h5 with rfl | h8
        · exact .inl rfl
        · exact .inr ⟨_, b, hb, hf.symm, h8⟩
      · exact .inr ⟨i', b', h7, h4, h5⟩
    · rintro (rfl | ⟨i', b', h3, h4, h5⟩)
      · exact ⟨i, _, set_same hb, hf.symm, (hm r).2 (.inl rfl)⟩
      · by_cases e : i' = i
        · subst e
          rw [hb] at h3
          cases h3
          exact ⟨i', _, set_same hb, h4, (hm r).2 (.inr h5)⟩
        · exact ⟨i', b', by rw [set_other e]; exact h3, h4, h5⟩
  · rw [if_neg hf]
    refine live_congr fun r => ?_
    constructor
    · rintro ⟨i', b', h3, h4, h5⟩
      rcases get_set hb h3 with ⟨rfl, rfl⟩ | ⟨h6, h7⟩
      · exact absurd h4.symm hf
      · exact ⟨i', b', h7, h4, h5⟩
    · rintro ⟨i', b', h3, h4, h5⟩
      have e : i' ≠ i := fun e => by subst e; rw [hb] at h3; cases h3; exact hf h4.symm
      exact ⟨i', b', by rw [set_other e]; exact h3, h4, h5⟩
end Go.Proofs.Ytmipgpkeegggpaa.P
