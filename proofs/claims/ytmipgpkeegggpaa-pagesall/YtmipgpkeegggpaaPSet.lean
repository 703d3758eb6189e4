-- PROVED: a book that is new; a cell that is set (5.1, 5.2).
import Derived.Test.YtmipgpkeegggpaaPWrite2
namespace Go.Proofs.Ytmipgpkeegggpaa.P
open Go.RowKit
set_option linter.unusedVariables false
/-- What becomes of a book where c is laid at place k; q: the page that is new, where one is. -/
def upd (bs : List Bk) (b : Bk) (k : Nat) (c : Cl) (q : Nat) : Bk := { b with slots := b.slots.set k c, pgs := if 2 ≤ cnt bs (b.pgs.getD (k / 8) 0) then b.pgs.set (k / 8) q else b.pgs }
theorem live_slots {bs : List Bk} {i : Nat} {b b1 b2 : Bk} (hb : bs[i]? = some b) (h1 : b1.pgs = b2.pgs) (h2 : b1.fam = b2.fam) (f : Nat) : live (bs.set i b1) f = live (bs.set i b2) f := by
  refine live_congr fun p => ?_
  constructor
  · rintro ⟨j, c, h3, h4, h5⟩
    rcases get_set hb h3 with ⟨rfl, rfl⟩ | ⟨h6, h7⟩
    · exact ⟨j, b2, set_same hb, h2 ▸ h4, h1 ▸ h5⟩
    · exact ⟨j, c, by rw [set_other h6]; exact h7, h4, h5⟩
  · rintro ⟨j, c, h3, h4, h5⟩
    rcases get_set hb h3 with ⟨rfl, rfl⟩ | ⟨h6, h7⟩
    · exact ⟨j, b1, set_same hb, h2 ▸ h4, h1 ▸ h5⟩
    · exact ⟨j, c, by rw [set_other h6]; exact h7, h4, h5⟩
theorem set_id {bs : List Bk} {i : Nat} {b : Bk} (hb : bs[i]? = some b) : bs.set i b = bs := by
  apply List.ext_getElem?
  intro j
  by_cases h : j = i
  · subst h; rw [set_same hb, hb]
  · rw [set_other h]
/-- Books whose memory is alike. -/
theorem BM.alike {base : Nat} {w : World} {bs : List Bk} {i : Nat} {b b1 b2 : Bk} (hb : bs[i]? = some b) (h : BM base w (bs.set i b1)) (h1 : b1.at_ = b2.at_) (h2 : b1.opn = b2.opn) (h3 : b1.len = b2.len) (h4 : b1.row = b2.row) (h5 : b1.pgs = b2.pgs) (h6 : b1.fam = b2.fam) : BM base w (bs.set i b2) := by
  have back : ∀ (j : Nat) (c : Bk), (bs.set i b2)[j]? = some c → ∃ d : Bk, (bs.set i b1)[j]? = some d ∧ d.at_ = c.at_ ∧ d.opn = c.opn ∧ d.len = c.len ∧ d.row = c.row ∧ d.pgs = c.pgs ∧ d.fam = c.fam := fun j c hc => by
    rcases get_set hb hc with ⟨rfl, rfl⟩ | ⟨g1, g2⟩
    · exact ⟨b1, set_same hb, h1, h2, h3, h4, h5, h6⟩
    · exact ⟨c, by rw [set_other g1]; exact g2, rfl, rfl, rfl, rfl, rfl, rfl⟩
  refine ⟨fun j c hc => ?_, fun j k c d hc hd hjk => ?_⟩
  · obtain ⟨d, g0, g1, g2, g3, g4, g5, g6⟩ := back j c hc
    have := h.book j d g0
    rwa [g1, g2, g3, g4, g5, g6] at this
  · obtain ⟨c', g0, g1, _, _, g4, _, _⟩ := back j c hc
    obtain ⟨d', k0, k1, _, _, k4, _, _⟩ := back k d hd
    have := h.apart j k c' d' g0 k0 hjk
    rwa [g1, k1, g4, k4] at this
theorem write_any {base : Nat} {w : World} {bs : List Bk} (hbm : BM base w bs) (hpm : PM base w bs (live bs)) (hsize : base ≤ w.heap.size) {i : Nat} {b : Bk} (hb : bs[i]? = some b) {k : Nat} (hj : k / 8 < b.pgs.length) (hfew : bs.length ≤ 1000) (hall : ∀ (i : Nat) (b : Bk), bs[i]? = some b → b.pgs.length ≤ 1000)
    {vK vV : Value} {c : Cl} (hc : Parts base w vK vV c) :
    Calls Try.prog 45 #[.pointer (some ⟨b.at_, 0, none⟩), .int .i64 (k : Int), .agg #[.int .i64 c.kind, .int .i64 c.a, .int .i64 c.b, vK, vV]] w fun e w' => e = .returned (.tuple #[]) ∧
      ∃ q, w.heap.size ≤ q ∧ PM base w' (bs.set i (upd bs b k c q)) (live (bs.set i (upd bs b k c q))) ∧ BM base w' (bs.set i (upd bs b k c q)) ∧ Keep Four base w w' := by
  have hp : b.pgs[k / 8]? = some b.pgs[k / 8] := List.getElem?_eq_getElem hj
  have hd : b.pgs.getD (k / 8) 0 = b.pgs[k / 8] := by simp [List.getD, hp]
  by_cases h2 : 2 ≤ cnt bs b.pgs[k / 8]
  · refine (write_more hbm hpm hsize hb hp h2 hfew hall hc).mono fun e w' ⟨he, q, h3, h4, h5, h6⟩ => ⟨he, q, h3, ?_, ?_, h6⟩
    · unfold upd
      rw [hd, if_pos h2]
      have : live (bs.set i { b with slots := b.slots.set k c, pgs := b.pgs.set (k / 8) q }) = live (bs.set i { b with pgs := b.pgs.set (k / 8) q }) := by
        funext f; exact live_slots (b1 := { b with slots := b.slots.set k c, pgs := b.pgs.set (k / 8) q }) (b2 := { b with pgs := b.pgs.set (k / 8) q }) hb rfl rfl f
      rw [this]; exact h4
    · unfold upd
      rw [hd, if_pos h2]
      exact h5.alike hb rfl rfl rfl rfl rfl rfl
  · have h1 : cnt bs b.pgs[k / 8] = 1 := by
      have := cnt_pos hb (List.mem_of_getElem? hp)
      omega
    refine (write_own hbm hpm hsize hb hp h1 (hall i b hb) hc).mono fun e w' ⟨he, h4, h6⟩ => ⟨he, w.heap.size, Nat.le_refl _, ?_, ?_, h6.mono (by simp [Four])⟩
    · unfold upd
      rw [hd, if_neg h2]
      have : live (bs.set i { b with slots := b.slots.set k c }) = live bs := by
        funext f; exact (live_slots (b1 := { b with slots := b.slots.set k c }) (b2 := b) hb rfl rfl f).trans (by rw [set_id hb])
      rw [this]; exact h4
    · unfold upd
      rw [hd, if_neg h2]
      have := hbm.keep h6 (by simp)
      rw [← set_id hb] at this
      exact this.alike hb rfl rfl rfl rfl rfl rfl
theorem upd_len (bs : List Bk) (b : Bk) (k : Nat) (c : Cl) (q : Nat) : (upd bs b k c q).pgs.length = b.pgs.length := by
  unfold upd
  simp only
  split <;> simp
theorem Sys.all {base : Nat} {w : World} {bs : List Bk} (h : Sys base w bs) : ∀ (i : Nat) (b : Bk), bs[i]? = some b → b.pgs.length ≤ 1000 := fun i b hb => by
  obtain ⟨h1, h2, _⟩ := h.ok i b hb; omega
theorem ok_upd {base : Nat} {w : World} {bs : List Bk} (h : Sys base w bs) {i : Nat} {b : Bk} (hb : bs[i]? = some b) (k : Nat) (c : Cl) (q : Nat) : ∀ (j : Nat) (d : Bk), (bs.set i (upd bs b k c q))[j]? = some d → d.len ≤ 4096 ∧ d.pgs.length = (d.len + 7) / 8 ∧ (d.opn = false → d.len = 0) ∧ d.slots.length = 8 * d.pgs.length := fun j d hd => by
  rcases get_set hb hd with ⟨rfl, rfl⟩ | ⟨g1, g2⟩
  · obtain ⟨h1, h2, h3, h4⟩ := h.ok _ b hb
    rw [upd_len]
    refine ⟨h1, h2, h3, ?_⟩
    unfold upd; simp [h4]
  · exact h.ok j d g2
set_option maxRecDepth 100000 in
set_option maxHeartbeats 2000000 in
theorem set_yes {base : Nat} {w : World} {bs : List Bk} (h : Sys base w bs) {i : Nat} {b : Bk} (hb : bs[i]? = some b) (k : Nat) (hk : k < b.len) {vK vV : Value} {c : Cl} (hc : Parts base w vK vV c) :
    Calls Try.prog 28 #[.pointer (some ⟨b.at_, 0, none⟩), .int .i64 (k : Int), .agg #[.int .i64 c.kind, .int .i64 c.a, .int .i64 c.b, vK, vV]] w fun e w' => e = .returned (.int .i64 0) ∧
      ∃ q, w.heap.size ≤ q ∧ Sys base w' (bs.set i (upd bs b k c q)) ∧ Keep Four base w w' := by
  obtain ⟨aK, kK, rfl, -⟩ := hc.1
  obtain ⟨aV, kV, rfl, -⟩ := hc.2.1
  have hbel0 : Below w.heap.size w (w.alloc (.cells #[.int .i64 c.kind, .int .i64 c.a, .int .i64 c.b, .slice aK c.keys.length kK, .slice aV c.vals.length kV] 30)) := (Below.refl _ _).alloc (Nat.le_refl _) _
  have h0 := h.below hbel0
  obtain ⟨h1, h2, _⟩ := h0.bm.book i b hb
  obtain ⟨o1, o2, _⟩ := h0.ok i b hb
  have HH : Hid (_) := has_any h2 (k : Int)
  rw [decide_eq_true (by omega)] at HH
  have HW : Hid (_) := write_any h0.bm h0.pm h0.size hb (k := k) (by omega) h0.few h0.all (hc.keep (keepB h.size hbel0) (by simp))
  have HS : Hid (Sys base w bs) := h
  have HK0 : Hid (_) := keepB h.size hbel0
  have hx := heap_alloc_new w (.cells #[.int .i64 c.kind, .int .i64 c.a, .int .i64 c.b, .slice aK c.keys.length kK, .slice aV c.vals.length kV] 30)
  obtain ⟨x0, x1, x2, x3, x4, y0, y1, y2, y3, y4, lx⟩ := blk5 hx
  have HB : Hid (bs[i]? = some b) := hb
  clear h0 h h2 hbel0 hx hb
  generalize b.at_ = B at HH HW ⊢
  go_enter Try.func28, Try.ntmps28
  go_wp2_with (first | (go_at_call 47; refine Calls.mono HH.out ?_; rintro e w1 ⟨rfl, rfl⟩) | (go_at_call 45; refine Calls.mono HW.out ?_; rintro e w2 ⟨rfl, q, hq, hp2, hb2, hk2⟩; have HP2 : Hid (_) := hp2; have HB2 : Hid (_) := hb2; clear hp2 hb2))
  go_ret
  refine ⟨rfl, q, by simp at hq; omega, ⟨HB2.out, HP2.out, ok_upd HS.out HB.out k c q, by rw [List.length_set]; exact HS.out.few, Nat.le_trans HS.out.size (Nat.le_trans HK0.out.size hk2.size)⟩, (HK0.out.mono (by simp)).trans hk2⟩
set_option maxRecDepth 100000 in
set_option maxHeartbeats 2000000 in
theorem set_no {base : Nat} {w : World} {bs : List Bk} (h : Sys base w bs) {i : Nat} {b : Bk} (hb : bs[i]? = some b) (k : Int) (hk : ¬ (0 ≤ k ∧ k < b.len)) {vK vV : Value} {c : Cl} (hc : Parts base w vK vV c) :
    Calls Try.prog 28 #[.pointer (some ⟨b.at_, 0, none⟩), .int .i64 k, .agg #[.int .i64 c.kind, .int .i64 c.a, .int .i64 c.b, vK, vV]] w fun e w' => e = .returned (.int .i64 2) ∧ Below w.heap.size w w' := by
  obtain ⟨aK, kK, rfl, -⟩ := hc.1
  obtain ⟨aV, kV, rfl, -⟩ := hc.2.1
  have hbel0 : Below w.heap.size w (w.alloc (.cells #[.int .i64 c.kind, .int .i64 c.a, .int .i64 c.b, .slice aK c.keys.length kK, .slice aV c.vals.length kV] 30)) := (Below.refl _ _).alloc (Nat.le_refl _) _
  have h0 := h.below hbel0
  obtain ⟨h1, h2, _⟩ := h0.bm.book i b hb
  have HH : Hid (_) := has_any h2 k
  rw [decide_eq_false hk] at HH
  clear h0 h h2 hb hk hc
  generalize b.at_ = B at HH ⊢
  go_enter Try.func28, Try.ntmps28
  go_wp2_with (first | (go_at_call 47; refine Calls.mono HH.out ?_; rintro e w1 ⟨rfl, rfl⟩))
  go_ret
  exact ⟨rfl, hbel0⟩
theorem new_sys {base : Nat} {w : World} {bs : List Bk} (h : Sys base w bs) (hf : bs.length < 1000) :
    Calls Try.prog 25 #[] w fun e w' => e = .returned (.pointer (some ⟨w.heap.size + 1, 0, none⟩)) ∧ Sys base w' (bs ++ [⟨w.heap.size + 1, true, 0, [], .slice none 0 0, [], w.heap.size⟩]) ∧ Below w.heap.size w w' := by
  refine (new_any w).mono fun e w' ⟨he, hw⟩ => ⟨he, ?_⟩
  have hbel : Below w.heap.size w w' := by
    rw [hw]; exact ((Below.refl _ _).alloc (Nat.le_refl _) _).alloc (by simp) _
  have h0 := h.below hbel
  have hF : w'.heap[w.heap.size]? = some (.cells #[.int .i64 0] 83) := by rw [hw]; exact two_first _ _ _
  have hK : w'.heap[w.heap.size + 1]? = some (.cells #[.bool true, .int .i64 0, .slice none 0 0, .pointer (some ⟨w.heap.size, 0, none⟩)] 86) := by rw [hw]; exact two_second _ _ _
  clear hw
  have part : ∀ (j : Nat) (d : Bk), (bs ++ [⟨w.heap.size + 1, true, 0, [], .slice none 0 0, [], w.heap.size⟩])[j]? = some d → bs[j]? = some d ∨ (j = bs.length ∧ d = ⟨w.heap.size + 1, true, 0, [], .slice none 0 0, [], w.heap.size⟩) := fun j d hd => by
    rcases Nat.lt_or_ge j bs.length with hl | hl
    · rw [List.getElem?_append_left hl] at hd; exact .inl hd
    · rw [List.getElem?_append_right hl] at hd
      by_cases e : j - bs.length = 0
      · rw [e] at hd
        simp at hd
        exact .inr ⟨by omega, hd.symm⟩
      · rw [List.getElem?_eq_none (by simp; omega)] at hd; cases hd
  have famlt : ∀ (j : Nat) (d : Bk), bs[j]? = some d → d.fam < w.heap.size ∧ d.at_ < w.heap.size := fun j d hd => ⟨heap_lt (h.pm.fam j d hd).2, heap_lt (h.bm.book j d hd).2.1⟩
  have hlv : ∀ f, live (bs ++ [⟨w.heap.size + 1, true, 0, [], .slice none 0 0, [], w.heap.size⟩]) f = live bs f := fun f => by
    refine live_congr fun p => ?_
    constructor
    · rintro ⟨j, c, h3, h4, h5⟩
      rcases part j c h3 with h6 | ⟨_, rfl⟩
      · exact ⟨j, c, h6, h4, h5⟩
      · simp at h5
    · rintro ⟨j, c, h3, h4, h5⟩
      exact ⟨j, c, by rw [List.getElem?_append_left (List.getElem?_eq_some_iff.1 h3).1]; exact h3, h4, h5⟩
  refine ⟨⟨⟨fun j d hd => ?_, fun j k c d hc hd hjk => ?_⟩, ⟨fun j d i p hd hp => ?_, fun j d hd => ?_, fun j d hd => ?_, fun j k c d p hc hd hpc hpd => ?_⟩, fun j d hd => ?_, by simp; omega, h0.size⟩, hbel⟩
  · rcases part j d hd with h6 | ⟨_, rfl⟩
    · exact h0.bm.book j d h6
    · exact ⟨by simp only []; have := h.size; omega, hK, World.ownsRow_nil _ _ _ _⟩
  · rcases part j c hc with h6 | ⟨e1, rfl⟩
    · rcases part k d hd with h7 | ⟨e2, rfl⟩
      · exact h.bm.apart j k c d h6 h7 hjk
      · exact ⟨by simp only []; have := (famlt j c h6).2; omega, fun g _ => by simp [Value.ownBlock]⟩
    · rcases part k d hd with h7 | ⟨e2, rfl⟩
      · exact ⟨by simp only []; have := (famlt k d h7).2; omega, fun g hg => by simp [Value.ownBlock] at hg⟩
      · exact absurd (e1.trans e2.symm) hjk
  · rcases part j d hd with h6 | ⟨_, rfl⟩
    · have := h0.pm.page j d i p h6 hp
      rw [cnt_append]
      simp only [List.not_mem_nil, if_false, Nat.add_zero]
      exact this
    · simp at hp
  · rcases part j d hd with h6 | ⟨_, rfl⟩
    · exact h.pm.nod j d h6
    · exact List.nodup_nil
  · rcases part j d hd with h6 | ⟨_, rfl⟩
    · rw [hlv]; exact h0.pm.fam j d h6
    · refine ⟨h.size, ?_⟩
      rw [hlv]
      have : live bs w.heap.size = 0 := by
        have e : live bs w.heap.size = dist [] := dist_congr _ _ fun p => by
          rw [mem_fall]
          constructor
          · rintro ⟨j, c, h3, h4, _⟩
            have := (famlt j c h3).1; omega
          · intro hp; simp at hp
        rw [e]; rfl
      rw [this]; exact hF
  · rcases part j c hc with h6 | ⟨_, rfl⟩
    · rcases part k d hd with h7 | ⟨_, rfl⟩
      · exact h.pm.one j k c d p h6 h7 hpc hpd
      · simp at hpd
    · simp at hpc
  · rcases part j d hd with h6 | ⟨_, rfl⟩
    · exact h.ok j d h6
    · simp
theorem sys_nil (w : World) : Sys w.heap.size w [] := ⟨⟨fun i b hb => by simp at hb, fun i j b c hb => by simp at hb⟩, ⟨fun i b j p hb => by simp at hb, fun i b hb => by simp at hb, fun i b hb => by simp at hb, fun i j b c p hb => by simp at hb⟩, fun i b hb => by simp at hb, by simp, Nat.le_refl _⟩
end Go.Proofs.Ytmipgpkeegggpaa.P
