-- PROVED: a book is dropped (5.2): what becomes of pages and families.
import Derived.Test.YtmipgpkeegggpaaPMark2
namespace Go.Proofs.Ytmipgpkeegggpaa.P
open Go.RowKit
set_option linter.unusedVariables false
/-- A book without its first page. -/
def tl (b : Bk) : Bk := { b with pgs := b.pgs.tail, slots := b.slots.drop 8 }
theorem live_less {base : Nat} {w : World} {bs : List Bk} {lv : Nat → Nat} (h : PM base w bs lv) {i p : Nat} {ps : List Nat} {b : Bk} (hb : bs[i]? = some b) (hp : b.pgs = p :: ps) (f : Nat) :
    live bs f = if f = b.fam ∧ cnt bs p = 1 then live (bs.set i (tl b)) f + 1 else live (bs.set i (tl b)) f := by
  have hnd := h.nod i b hb
  rw [hp] at hnd
  have hnp := (List.nodup_cons.1 hnd).1
  have htl : (tl b).pgs = ps := by unfold tl; simp [hp]
  have hmem : ∀ q, q ∈ b.pgs ↔ q = p ∨ q ∈ ps := fun q => by rw [hp]; simp
  have hcs := cnt_set bs i b (tl b) p hb
  rw [htl, if_pos ((hmem p).2 (.inl rfl)), if_neg hnp] at hcs
  by_cases hf : f = b.fam ∧ cnt bs p = 1
  · rw [if_pos hf]
    have h0 : cnt (bs.set i (tl b)) p = 0 := by omega
    refine live_new (q := p) (fun j c hc hpc => ?_) fun r => ?_
    · have := cnt_pos hc hpc; omega
    · constructor
      · rintro ⟨j, c, h3, h4, h5⟩
        by_cases e : j = i
        · subst e
          rw [hb] at h3
          cases h3
          rcases (hmem r).1 h5 with h6 | h6
          · exact .inl h6
          · exact .inr ⟨j, tl b, set_same hb, h4, by rw [htl]; exact h6⟩
        · exact .inr ⟨j, c, by rw [set_other e]; exact h3, h4, h5⟩
      · rintro (rfl | ⟨j, c, h3, h4, h5⟩)
        · exact ⟨i, b, hb, hf.1.symm, (hmem r).2 (.inl rfl)⟩
        · rcases get_set hb h3 with ⟨rfl, rfl⟩ | ⟨h6, h7⟩
          · exact ⟨j, b, hb, h4, (hmem r).2 (.inr (by rw [htl] at h5; exact h5))⟩
          · exact ⟨j, c, h7, h4, h5⟩
  · rw [if_neg hf]
    refine live_congr fun r => ?_
    constructor
    · rintro ⟨j, c, h3, h4, h5⟩
      by_cases e : j = i
      · subst e
        rw [hb] at h3
        cases h3
        rcases (hmem r).1 h5 with h6 | h6
        · subst h6
          have h1 := cnt_pos hb h5
          obtain ⟨k, d, g1, g2, g3⟩ := cnt_more (bs := bs) (i := j) (p := r) (by
            have : cnt bs r ≠ 1 := fun e => hf ⟨h4.symm, e⟩
            omega)
          exact ⟨k, d, by rw [set_other g1]; exact g2, (h.one k j d b r g2 hb g3 h5).trans h4, g3⟩
        · exact ⟨j, tl b, set_same hb, h4, by rw [htl]; exact h6⟩
      · exact ⟨j, c, by rw [set_other e]; exact h3, h4, h5⟩
    · rintro ⟨j, c, h3, h4, h5⟩
      rcases get_set hb h3 with ⟨rfl, rfl⟩ | ⟨h6, h7⟩
      · exact ⟨j, b, hb, h4, (hmem r).2 (.inr (by rw [htl] at h5; exact h5))⟩
      · exact ⟨j, c, h7, h4, h5⟩
theorem drop_step {base : Nat} {w : World} {bs : List Bk} (h : PM base w bs (live bs)) {i p : Nat} {ps : List Nat} {b : Bk} (hb : bs[i]? = some b) (hp : b.pgs = p :: ps) :
    ∃ arr n, w.heap[p]? = some (.cells arr 90 (0, 0)) ∧ arr[40]? = some (.int .i64 ((n : Nat) + 1 : Int)) ∧ n ≤ bs.length ∧ arr.size = 41 ∧ Keep [90] base w (w.setCell ⟨p, 40, none⟩ (.int .i64 (n : Int))) ∧
      (n ≠ 0 → PM base (w.setCell ⟨p, 40, none⟩ (.int .i64 (n : Int))) (bs.set i (tl b)) (live (bs.set i (tl b)))) ∧
      (n = 0 → ∃ L : Nat, w.heap[b.fam]? = some (.cells #[.int .i64 ((L : Int) + 1)] 83 (0, 0)) ∧ L + 1 = live bs b.fam ∧
        PM base ((w.setCell ⟨p, 40, none⟩ (.int .i64 (n : Int))).setCell ⟨b.fam, 0, none⟩ (.int .i64 (L : Int))) (bs.set i (tl b)) (live (bs.set i (tl b))) ∧ Keep [83] base (w.setCell ⟨p, 40, none⟩ (.int .i64 (n : Int))) ((w.setCell ⟨p, 40, none⟩ (.int .i64 (n : Int))).setCell ⟨b.fam, 0, none⟩ (.int .i64 (L : Int)))) := by
  obtain ⟨g1, arr, g2, g3, g4, _⟩ := h.page i b 0 p hb (by rw [hp]; rfl)
  have hnd := h.nod i b hb
  rw [hp] at hnd
  have hnp := (List.nodup_cons.1 hnd).1
  have htl : (tl b).pgs = ps := by unfold tl; simp [hp]
  have hmem : ∀ q, q ∈ b.pgs ↔ q = p ∨ q ∈ ps := fun q => by rw [hp]; simp
  have hpos := cnt_pos hb ((hmem p).2 (.inl rfl))
  have hle := cnt_le bs p
  obtain ⟨n, hn⟩ : ∃ n, cnt bs p = n + 1 := ⟨cnt bs p - 1, by omega⟩
  rw [hn] at g4
  have hcs := fun q => cnt_set bs i b (tl b) q hb
  have hcp : cnt (bs.set i (tl b)) p = n := by
    have := hcs p
    rw [htl, if_pos ((hmem p).2 (.inl rfl)), if_neg hnp] at this
    omega
  have hr := h.recount (bs' := bs.set i (tl b)) g2 g1 n g3 ?_ ?_ ?_ ?_ ?_
  · refine ⟨arr, n, g2, g4, by omega, g3, hr.2, fun h0 => ?_, fun h0 => ?_⟩
    · have : live (bs.set i (tl b)) = live bs := funext fun f => by rw [live_less h hb hp f, if_neg fun e => by omega]
      rw [this]; exact hr.1
    · obtain ⟨f1, f2⟩ := h.fam i b hb
      have hl := live_less h hb hp b.fam
      rw [if_pos ⟨rfl, by omega⟩] at hl
      have hnum := hr.1.number (i := i) (b := tl b) (set_same hb) (live (bs.set i (tl b)) b.fam)
      refine ⟨live (bs.set i (tl b)) b.fam, by rw [f2, hl]; rfl, hl.symm, ?_, hnum.2⟩
      have : live (bs.set i (tl b)) = fun f => if f = (tl b).fam then live (bs.set i (tl b)) b.fam else live bs f := funext fun f => by
        by_cases e : f = b.fam
        · rw [if_pos (show f = (tl b).fam from e), e]
        · rw [if_neg (show ¬ f = (tl b).fam from e), live_less h hb hp f, if_neg fun e' => e e'.1]
      generalize live (bs.set i (tl b)) b.fam = L at *
      rw [this]; exact hnum.1
  · intro i' c j q hc hq
    rcases get_set hb hc with ⟨rfl, rfl⟩ | ⟨h6, h7⟩
    · rw [htl] at hq
      refine ⟨i', b, j + 1, hb, by rw [hp]; simpa using hq, fun k hk => ?_⟩
      unfold tl
      simp only []
      rw [List.getElem?_drop]
      congr 1
      omega
    · exact ⟨i', c, j, h7, hq, fun _ _ => rfl⟩
  · intro i' c q hc hq
    by_cases e : q = p
    · subst e; rw [if_pos rfl]; exact hcp
    · rw [if_neg e]
      have := hcs q
      rw [htl] at this
      simp only [hmem, e, false_or] at this
      omega
  · intro i' c hc
    rcases get_set hb hc with ⟨rfl, rfl⟩ | ⟨h6, h7⟩
    · rw [htl]; exact (List.nodup_cons.1 hnd).2
    · exact h.nod i' c h7
  · intro i' c hc
    rcases get_set hb hc with ⟨rfl, rfl⟩ | ⟨h6, h7⟩
    · exact ⟨i', b, hb, rfl⟩
    · exact ⟨i', c, h7, rfl⟩
  · intro i' k c d q hc hd hqc hqd
    have back : ∀ (i' : Nat) (c : Bk), (bs.set i (tl b))[i']? = some c → q ∈ c.pgs → ∃ (j : Nat) (c' : Bk), bs[j]? = some c' ∧ q ∈ c'.pgs ∧ c'.fam = c.fam := fun i' c hc hq => by
      rcases get_set hb hc with ⟨rfl, rfl⟩ | ⟨h6, h7⟩
      · exact ⟨i', b, hb, (hmem q).2 (.inr (by rw [htl] at hq; exact hq)), rfl⟩
      · exact ⟨i', c, h7, hq, rfl⟩
    obtain ⟨j1, c1, x1, x2, x3⟩ := back i' c hc hqc
    obtain ⟨j2, c2, y1, y2, y3⟩ := back k d hd hqd
    rw [← x3, ← y3]
    exact h.one j1 j2 c1 c2 q x1 y1 x2 y2
/-- A book without its first t pages. -/
def rest (b : Bk) (t : Nat) : Bk := { b with pgs := b.pgs.drop t, slots := b.slots.drop (8 * t) }
theorem rest_zero (b : Bk) : rest b 0 = b := by unfold rest; simp
theorem rest_succ (b : Bk) (t : Nat) : rest b (t + 1) = tl (rest b t) := by
  unfold rest tl
  simp only [List.tail_drop, List.drop_drop]
  rfl
/-- A book that is dropped. -/
def gone (b : Bk) : Bk := { b with opn := false, len := 0, slots := [], row := .slice none 0 0, pgs := [] }
theorem drop_end {base : Nat} {w wr : World} {bs : List Bk} (hs : Sys base w bs) {i : Nat} {b : Bk} (hb : bs[i]? = some b) {A : Nat} (hA : b.at_ = A) (hpm : PM base wr (bs.set i (rest b b.pgs.length)) (live (bs.set i (rest b b.pgs.length)))) (hk : Keep [90, 83] base w wr) :
    Sys base (((wr.setCell ⟨A, 0, none⟩ (.bool false)).setCell ⟨A, 1, none⟩ (.int .i64 0)).setCell ⟨A, 2, none⟩ (.slice none 0 0)) (bs.set i (gone b)) ∧ Keep Four base w (((wr.setCell ⟨A, 0, none⟩ (.bool false)).setCell ⟨A, 1, none⟩ (.int .i64 0)).setCell ⟨A, 2, none⟩ (.slice none 0 0)) := by
  subst hA
  have bmr := hs.bm.keep hk (by simp)
  obtain ⟨h1, h2, h3⟩ := bmr.book i b hb
  have e1 := Lib.heap_setCell_same (i := 0) h2 (.bool false)
  have k1 : Keep [86] base wr _ := (Keep.refl _ _ _).set (p := ⟨b.at_, 0, none⟩) h2 (by simp) h1 (.bool false)
  have e2 := Lib.heap_setCell_same (i := 1) e1 (.int .i64 0)
  have k2 : Keep [86] base wr _ := k1.set (p := ⟨b.at_, 1, none⟩) e1 (by simp) h1 (.int .i64 0)
  have e3 := Lib.heap_setCell_same (i := 2) e2 (.slice none 0 0)
  have k3 : Keep [86] base wr _ := k2.set (p := ⟨b.at_, 2, none⟩) e2 (by simp) h1 (.slice none 0 0)
  have hst : ∀ k, k ≠ b.at_ → (((wr.setCell ⟨b.at_, 0, none⟩ (.bool false)).setCell ⟨b.at_, 1, none⟩ (.int .i64 0)).setCell ⟨b.at_, 2, none⟩ (.slice none 0 0)).heap[k]? = wr.heap[k]? := fun k hk => by
    rw [heap_set_ne hk, heap_set_ne hk, heap_set_ne hk]
  clear e1 e2 k1 k2
  generalize ((wr.setCell ⟨b.at_, 0, none⟩ (.bool false)).setCell ⟨b.at_, 1, none⟩ (.int .i64 0)).setCell ⟨b.at_, 2, none⟩ (.slice none 0 0) = w8 at *
  have hbm : BM base w8 (bs.set i (gone b)) := bmr.turn hb rfl (fun k arr T hk hk1 _ => hst k hk1) e3 (World.ownsRow_nil _ _ _ _) (fun g hg => by simp [gone, Value.ownBlock] at hg)
  have hrp : (rest b b.pgs.length).pgs = [] := by unfold rest; simp
  have hrs : (rest b b.pgs.length).slots = [] := by
    unfold rest
    simp only []
    rw [List.drop_eq_nil_iff]
    have := (hs.ok i b hb).2.2.2
    omega
  have hpm2 : PM base w8 (bs.set i (gone b)) (live (bs.set i (rest b b.pgs.length))) := (hpm.keep k3 (by simp)).alike hb hrs hrp rfl
  have hlv : live (bs.set i (rest b b.pgs.length)) = live (bs.set i (gone b)) := funext fun f => live_slots (b1 := rest b b.pgs.length) (b2 := gone b) hb hrp rfl f
  rw [hlv] at hpm2
  refine ⟨⟨hbm, hpm2, fun j c hc => ?_, by rw [List.length_set]; exact hs.few, Nat.le_trans hs.size (Nat.le_trans hk.size k3.size)⟩, (hk.mono (by simp [Four])).trans (k3.mono (by simp [Four]))⟩
  rcases get_set hb hc with ⟨rfl, rfl⟩ | ⟨h6, h7⟩
  · simp [gone]
  · exact hs.ok j c h7
theorem drop_none (w : World) : Calls Try.prog 32 #[.pointer none] w fun e w' => e = .returned (.tuple #[]) ∧ w' = w := by
  go_enter Try.func32, Try.ntmps32
  go_wp2
  refine bodyPost_ret (results_none rfl _ _ _) rfl ?_
  exact ⟨rfl, rfl⟩
set_option maxRecDepth 100000 in
set_option maxHeartbeats 2000000 in
theorem drop_yes {base : Nat} {w : World} {bs : List Bk} (h : Sys base w bs) {i : Nat} {b : Bk} (hb : bs[i]? = some b) {A : Nat} (hA : b.at_ = A) :
    Calls Try.prog 32 #[.pointer (some ⟨A, 0, none⟩)] w fun e w' => e = .returned (.tuple #[]) ∧ Sys base w' (bs.set i (gone b)) ∧ Keep Four base w w' := by
  obtain ⟨h1, h2, h3⟩ := h.bm.book i b hb
  obtain ⟨a, cap, hrow⟩ := h.slice hb
  have hlen := h.all i b hb
  rw [hrow, hA] at h2
  have HK2 : Hid (_) := h2
  obtain ⟨b0, b1, b2, b3, f0, f1, f2, f3, lb⟩ := blk4 h2
  have HS : Hid (Sys base w bs) := h
  have hfew := h.few
  have HB : Hid (bs[i]? = some b) := hb
  have HR : Hid (b.row = .slice a b.pgs.length cap) := hrow
  have HA : Hid (b.at_ = A) := hA
  have HN : Hid (∀ t, t < b.pgs.length → ∃ p, b.pgs[t]? = some p) := fun t ht => ⟨_, List.getElem?_eq_getElem ht⟩
  have HLI : Hid (∀ t, live (bs.set i (rest b t)) b.fam ≤ 1000 * 1000) := fun t => by
    refine Nat.le_trans (live_le _ _ fun j c hc => ?_) (by rw [List.length_set]; omega)
    rcases get_set hb hc with ⟨rfl, rfl⟩ | ⟨h6, h7⟩
    · unfold rest; simp; omega
    · exact h.all j c h7
  clear h h1 h2 h3 hb hrow hA
  generalize hn : b.pgs.length = n at *
  have HL : Hid (b.pgs.length = n) := hn
  clear hn
  go_enter Try.func32, Try.ntmps32
  go_wp2
  go_loopw [11] (fun i' wr => ∃ t : Nat, i' = .int .i64 (t : Int) ∧ t ≤ n ∧ Hid (PM base wr (bs.set i (rest b t)) (live (bs.set i (rest b t)))) ∧ Hid (Keep [90, 83] base w wr)) (fun i _ => n - (intOf i).toNat)
  case atStart => exact ⟨0, rfl, by omega, (by rw [rest_zero, set_id HB.out]; exact HS.out.pm), Keep.refl _ _ _⟩
  case round =>
    obtain ⟨t, rfl, ht, HP, HK⟩ := hrel
    have e2 := (HK.out.same A _ _ _ HK2.out (by simp)).trans HK2.out
    clear b0 b1 b2 b3 f0 f1 f2 f3 lb
    obtain ⟨b0, b1, b2, b3, f0, f1, f2, f3, lb⟩ := blk4 e2
    by_cases hlt : t < n
    · obtain ⟨p, hp⟩ := HN.out t (by first | exact hlt | (rw [HL.out]; exact hlt))
      obtain ⟨g, cap', k1, k2, k3, k4, k5, k6, k7, arr', k8⟩ := HS.out.row HB.out hp
      have hpd : (rest b t).pgs = p :: b.pgs.drop (t + 1) := by
        unfold rest
        simp only []
        obtain ⟨hh, rfl⟩ := List.getElem?_eq_some_iff.1 hp
        exact List.drop_eq_getElem_cons hh
      obtain ⟨arr, m, p1, p2, p3, psz, p4, p5, p6⟩ := drop_step HP.out (set_same HB.out) hpd
      rw [List.set_set, ← rest_succ] at p5 p6
      have hli := HLI.out t
      rw [HR.out] at k1
      injection k1 with k1 _ _
      subst k1
      have e3 := HK.out.same g _ _ _ k8 (by simp)
      have c1 : wr.cell? ⟨g, t, none⟩ = some (.pointer (some ⟨p, 0, none⟩)) := (World.cell?_of_block (a := ⟨g, t, none⟩) e3).trans k6
      have c2 := (cellsOf p1 40).trans p2
      have c3 : wr.frozen? ⟨p, 40, none⟩ = false := by simp [World.frozen?, p1]
      have c4 := heap_lt p1
      have c5 : g < wr.heap.size := Nat.lt_of_lt_of_le k5 HK.out.size
      have c6 : (t : Int) < n := by omega
      have c7 : (m : Int) ≤ 1001 := by simp at p3; omega
      have hAp : A ≠ p := fun e => by subst e; rw [e2] at p1; injection p1 with p1; injection p1 with _ p1 _; cases p1
      by_cases hm : m = 0
      · obtain ⟨L, q1, q2, q3, q4⟩ := p6 hm
        subst hm
        have d1 : wr.cell? ⟨b.fam, 0, none⟩ = some (.int .i64 ((L : Int) + 1)) := cellsOf q1 0
        have d2 : wr.frozen? ⟨b.fam, 0, none⟩ = false := by simp [World.frozen?, show wr.heap[b.fam]? = _ from q1]
        have d3 : b.fam < wr.heap.size := heap_lt q1
        have d4 : (L : Int) ≤ 1000000 := by
          have : L + 1 = live (bs.set i (rest b t)) b.fam := q2
          omega
        have hFp : b.fam ≠ p := fun e => by
          have q1' : wr.heap[b.fam]? = _ := q1
          rw [e, p1] at q1'; injection q1' with q1'; injection q1' with _ q1' _; cases q1'
        have HP3 : Hid (_) := q3
        have HP4 : Hid (_) := p4.mono (S' := [90, 83]) (by simp)
        have HP5 : Hid (_) := q4.mono (S' := [90, 83]) (by simp)
        clear p1 p2 p3 p4 p5 p6 q1 q2 q3 q4 k2 k3 k4 k5 k6 k7 k8 e3 e2 hp hpd hli HP psz
        go_wp2
        go_roundw
        case rel => exact ⟨t + 1, by go_num, by omega, HP3, (HK.out.trans HP4.out).trans HP5.out⟩
        case measure => simp [intOf]; omega
      · have HP3 : Hid (_) := p5 hm
        have HP4 : Hid (_) := p4.mono (S' := [90, 83]) (by simp)
        have hm' : (m : Int) ≠ 0 := by omega
        clear p1 p2 p3 p4 p5 p6 k2 k3 k4 k5 k6 k7 k8 e3 e2 hp hpd hli HP psz
        go_wp2
        go_roundw
        case rel => exact ⟨t + 1, by go_num, by omega, HP3, HK.out.trans HP4.out⟩
        case measure => simp [intOf]; omega
    · have ht2 : t = n := by omega
      subst ht2
      have hend := drop_end HS.out HB.out HA.out (by rw [HL.out]; exact HP.out) HK.out
      have HE : Hid (_) := hend
      clear hend e2
      go_wp2
      go_end0
      exact ⟨rfl, HE.out⟩
end Go.Proofs.Ytmipgpkeegggpaa.P
