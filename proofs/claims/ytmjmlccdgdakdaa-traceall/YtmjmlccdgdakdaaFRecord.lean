-- PROVED: 'record' of package frame: the record at a place.
import Derived.Test.YtmjmlccdgdakdaaFRec
namespace Go.Proofs.Ytmjmlccdgdakdaa.Fm
/-- Behind the number, by places. -/
def from_ (l : List UInt8) (n q : Nat) : List UInt8 × Nat × Nat :=
  if l.length < q + n + 4 then ([], 0, 3)
  else if (Cm.get ((l.drop q).take (n + 4))).2 = 0 then ((Cm.get ((l.drop q).take (n + 4))).1, q + n + 4, 0) else ([], 0, (Cm.get ((l.drop q).take (n + 4))).2)
/-- The record at a place: its text, the place behind it, the error. -/
def rec_ (l : List UInt8) (p : Nat) : List UInt8 × Nat × Nat :=
  if (one (l.drop p)).2.2 = 0 then ((one (l.drop p)).1, p + (one (l.drop p)).2.1, 0) else ([], 0, (one (l.drop p)).2.2)
theorem rec_eq (l : List UInt8) (p : Nat) (hp : p ≤ l.length) : rec_ l p = if (F.thenI (Vn.get l p)).2.2 = 0 then from_ l (F.thenI (Vn.get l p)).1.toNat (F.thenI (Vn.get l p)).2.1 else ([], 0, (F.thenI (Vn.get l p)).2.2) := by
  have hg : Vn.get l p = if (Vn.getU (l.drop p)).2.2 = 0 then (Vn.unzig (Vn.getU (l.drop p)).1, p + (Vn.getU (l.drop p)).2.1, 0) else (0, 0, (Vn.getU (l.drop p)).2.2) := by
    unfold Vn.get; rw [if_neg (by omega), Int.toNat_natCast]
  rw [hg]
  unfold rec_ one
  by_cases h0 : (Vn.getU (l.drop p)).2.2 = 0
  · rw [if_pos h0, if_pos h0]
    have hk := Vn.getU_ok (l := l.drop p) (v := (Vn.getU (l.drop p)).1) (c := (Vn.getU (l.drop p)).2.1) (by rw [← h0])
    have hl : (l.drop p).length = l.length - p := List.length_drop
    have hc := hk.2.2.1
    generalize Vn.unzig (Vn.getU (l.drop p)).1 = n
    generalize (Vn.getU (l.drop p)).2.1 = c at hc ⊢
    have ht : F.thenI (n, p + c, 0) = F.may n (p + c) := if_pos rfl
    rw [ht]
    unfold F.may
    by_cases h1 : n < 0 ∨ 4096 < n
    · have hb : body (l.drop p) n c = ([], 0, 4) := by unfold body; rw [if_pos h1]
      rw [hb, if_pos h1]; simp
    · rw [if_neg h1]
      simp only [if_true]
      by_cases h2 : l.length < p + c + n.toNat + 4
      · have hb : body (l.drop p) n c = ([], 0, 3) := by unfold body; rw [if_neg h1, if_pos (by omega)]
        rw [hb]; unfold from_; rw [if_pos h2]; simp
      · by_cases h3 : (Cm.get ((l.drop (p + c)).take (n.toNat + 4))).2 = 0
        · have hb : body (l.drop p) n c = ((Cm.get ((l.drop (p + c)).take (n.toNat + 4))).1, c + n.toNat + 4, 0) := by unfold body; rw [List.drop_drop, if_neg h1, if_neg (by omega), if_pos h3]
          rw [hb]; unfold from_; rw [if_neg h2, if_pos h3]; simp; omega
        · have hb : body (l.drop p) n c = ([], 0, (Cm.get ((l.drop (p + c)).take (n.toNat + 4))).2) := by unfold body; rw [List.drop_drop, if_neg h1, if_neg (by omega), if_neg h3]
          rw [hb]; unfold from_; rw [if_neg h2, if_neg h3]; simp [h3]
  · simp only [if_neg h0]
    have ht : F.thenI (0, 0, (Vn.getU (l.drop p)).2.2) = (0, 0, (Vn.getU (l.drop p)).2.2) := if_neg h0
    rw [ht]
    simp [h0]
end Go.Proofs.Ytmjmlccdgdakdaa.Fm
namespace Go.Proofs.Ytmjmlccdgdakdaa.F
open Go.RowKit
theorem thenI_ok {l : List UInt8} {p : Nat} (hp : p ≤ l.length) (h : (thenI (Vn.get l p)).2.2 = 0) : ∃ n q : Nat, thenI (Vn.get l p) = ((n : Int), q, 0) ∧ n ≤ 4096 ∧ q ≤ l.length := by
  have hg : Vn.get l p = if (Vn.getU (l.drop p)).2.2 = 0 then (Vn.unzig (Vn.getU (l.drop p)).1, p + (Vn.getU (l.drop p)).2.1, 0) else (0, 0, (Vn.getU (l.drop p)).2.2) := by
    unfold Vn.get; rw [if_neg (by omega), Int.toNat_natCast]
  rw [hg] at h ⊢
  by_cases h0 : (Vn.getU (l.drop p)).2.2 = 0
  · rw [if_pos h0] at h ⊢
    have hk := Vn.getU_ok (l := l.drop p) (v := (Vn.getU (l.drop p)).1) (c := (Vn.getU (l.drop p)).2.1) (by rw [← h0])
    have hl : (l.drop p).length = l.length - p := List.length_drop
    have hc := hk.2.2.1
    generalize Vn.unzig (Vn.getU (l.drop p)).1 = n at h ⊢
    generalize (Vn.getU (l.drop p)).2.1 = c at hc h ⊢
    have ht : thenI (n, p + c, 0) = may n (p + c) := if_pos rfl
    rw [ht] at h ⊢
    unfold may at h ⊢
    by_cases h1 : n < 0 ∨ 4096 < n
    · rw [if_pos h1] at h; simp at h
    · rw [if_neg h1]
      exact ⟨n.toNat, p + c, by rw [Int.toNat_of_nonneg (by omega)], by omega, by omega⟩
  · rw [if_neg h0] at h
    have ht : thenI (0, 0, (Vn.getU (l.drop p)).2.2) = (0, 0, (Vn.getU (l.drop p)).2.2) := if_neg h0
    rw [ht] at h
    exact absurd h h0
set_option maxRecDepth 100000 in
set_option maxHeartbeats 800000 in
theorem rec1_any (s : ByteArray) (n q b : Nat) (w : World) (hs : s.size ≤ 281474976710656) (hn : n ≤ 4096) (hq : q ≤ s.size) (hb : b < w.heap.size) (hc : w.cell? ⟨b, 0, none⟩ = some (.string s)) :
    Calls Try.prog 57 #[.int .i64 (n : Int), .int .i64 (q : Int), .pointer (some ⟨b, 0, none⟩)] w fun e w' => e = .returned (textOf (Fm.from_ s.data.toList n q)) ∧ Below w.heap.size w w' := by
  have hsz := V.size_list s
  have hc1 : (w.alloc (.cells #[.string ⟨#[]⟩, .int .i64 0, .int .i64 0] 95)).cell? ⟨b, 0, none⟩ = some (.string s) := by
    rw [((Below.refl w.heap.size w).alloc (Nat.le_refl _) _).cell hb]; exact hc
  by_cases h1 : s.size < q + n + 4
  · have HV : Hid (Fm.from_ s.data.toList n q = ([], 0, 3)) := (show Fm.from_ s.data.toList n q = ([], 0, 3) from by unfold Fm.from_; rw [if_pos (by omega)])
    have h1' : (s.size : Int) - q < (n : Int) + 4 := by omega
    have H : Hid (_) := fun W => noneS_any 3 W
    clear h1 hsz
    go_enter Try.func57, Try.ntmps57
    go_wp2_with fail
    refine Calls.mono (H.out _) ?_
    rintro e w1 ⟨rfl, hb1⟩
    obtain ⟨q0, q1, q2, f0, f1, f2⟩ := cells3 rfl (hb1.mono (by simp))
    have hlt1 : w.heap.size < w1.heap.size := by have := hb1.size; simp at this; omega
    have hBB := ((Below.refl w.heap.size w).alloc (Nat.le_refl _) _).trans (hb1.mono (by simp))
    clear hb1
    go_wp2_with fail
    refine bodyPost_ret (v := .agg #[.string ⟨#[]⟩, .int .i64 0, .int .i64 3]) (by simp [results, Try.results57, go_sem, *]) rfl ⟨by rw [HV.out]; rfl, ?_⟩
    repeat (first | exact hBB | (refine Below.drew ?_) | (refine Below.setCell ?_ (by exact Nat.le_refl _) _))
  · have h1' : ¬ ((s.size : Int) - q < (n : Int) + 4) := by omega
    have h2' : (q : Int) + n + 4 ≤ s.size := by omega
    have hx : (s.extract q (q + n + 4)).data.toList = (s.data.toList.drop q).take (n + 4) := by rw [Nat.add_assoc, V.extract_eq]
    have hG := fun W => C.get_any (s.extract q (q + n + 4)) W (by simp [ByteArray.size_extract]; omega)
    rw [hx] at hG
    have hF : Fm.from_ s.data.toList n q = if (Cm.get ((s.data.toList.drop q).take (n + 4))).2 = 0 then ((Cm.get ((s.data.toList.drop q).take (n + 4))).1, q + n + 4, 0) else ([], 0, (Cm.get ((s.data.toList.drop q).take (n + 4))).2) := by
      unfold Fm.from_; rw [if_neg (by omega)]
    have HF : Hid (_) := hF
    have HX : Hid (_) := hG
    clear hF hx hG
    generalize Cm.get ((s.data.toList.drop q).take (n + 4)) = g at HF HX
    obtain ⟨g0, g1⟩ := g
    by_cases h0 : g1 = 0
    · have HV : Hid (Fm.from_ s.data.toList n q = (g0, q + n + 4, 0)) := (show Fm.from_ s.data.toList n q = (g0, q + n + 4, 0) from by rw [HF.out, if_pos h0])
      have h0' : (g1 : Int) = 0 := by omega
      clear h1 hsz HF h0
      go_enter Try.func57, Try.ntmps57
      go_wp2_with fail
      refine Calls.mono (HX.out _) ?_
      rintro e w1 ⟨rfl, hb1⟩
      obtain ⟨q0, q1, q2, f0, f1, f2⟩ := cells3 rfl (hb1.mono (by simp))
      have hlt1 : w.heap.size < w1.heap.size := by have := hb1.size; simp at this; omega
      have hBB := ((Below.refl w.heap.size w).alloc (Nat.le_refl _) _).trans (hb1.mono (by simp))
      clear hb1 hc hc1
      go_wp2_with fail
      refine bodyPost_ret (v := .agg #[.string ⟨g0.toArray⟩, .int .i64 ((q : Int) + n + 4), .int .i64 0]) (by simp [results, Try.results57, go_sem, *]) rfl ⟨by rw [HV.out]; rfl, ?_⟩
      repeat (first | exact hBB | (refine Below.drew ?_) | (refine Below.setCell ?_ (by exact Nat.le_refl _) _))
    · have HV : Hid (Fm.from_ s.data.toList n q = ([], 0, g1)) := (show Fm.from_ s.data.toList n q = ([], 0, g1) from by rw [HF.out, if_neg h0])
      have h0' : ¬ ((g1 : Int) = 0) := by omega
      have H : Hid (_) := fun W => noneS_any g1 W
      clear h1 hsz HF h0
      go_enter Try.func57, Try.ntmps57
      go_wp2_with fail
      refine Calls.mono (HX.out _) ?_
      rintro e w1 ⟨rfl, hb1⟩
      go_wp2_with fail
      refine Calls.mono (H.out _) ?_
      rintro e w2 ⟨rfl, hb2⟩
      obtain ⟨q0, q1, q2, f0, f1, f2⟩ := cells3 rfl ((hb1.trans (hb2.mono hb1.size)).mono (by simp))
      have hlt1 : w.heap.size < w2.heap.size := by have := hb1.size; have := hb2.size; simp at *; omega
      have hBB := ((Below.refl w.heap.size w).alloc (Nat.le_refl _) _).trans ((hb1.trans (hb2.mono hb1.size)).mono (by simp))
      clear hb1 hb2 hc hc1
      go_wp2_with fail
      refine bodyPost_ret (v := .agg #[.string ⟨#[]⟩, .int .i64 0, .int .i64 (g1 : Int)]) (by simp [results, Try.results57, go_sem, *]) rfl ⟨by rw [HV.out]; rfl, ?_⟩
      repeat (first | exact hBB | (refine Below.drew ?_) | (refine Below.setCell ?_ (by exact Nat.le_refl _) _))
/-- Behind a size: the record, or its error. -/
def thenS (l : List UInt8) (r : Int × Nat × Nat) : List UInt8 × Nat × Nat := if r.2.2 = 0 then Fm.from_ l r.1.toNat r.2.1 else ([], 0, r.2.2)
set_option maxRecDepth 100000 in
set_option maxHeartbeats 400000 in
theorem thenIS_any (s : ByteArray) (n : Int) (q k b : Nat) (w : World) (hs : s.size ≤ 281474976710656) (hok : k = 0 → 0 ≤ n ∧ n ≤ 4096 ∧ q ≤ s.size) (hb : b < w.heap.size) (hc : w.cell? ⟨b, 0, none⟩ = some (.string s)) :
    Calls Try.prog 55 #[numOf (n, q, k), .func (.func 57) #[] #[.pointer (some ⟨b, 0, none⟩)]] w fun e w' => e = .returned (textOf (thenS s.data.toList (n, q, k))) ∧ Below w.heap.size w w' := by
  unfold numOf textOf
  by_cases h : k = 0
  · obtain ⟨h0, h1, h2⟩ := hok h
    obtain ⟨m, rfl⟩ := Int.eq_ofNat_of_zero_le h0
    have HV : Hid (thenS s.data.toList ((m : Int), q, k) = Fm.from_ s.data.toList m q) := (show thenS s.data.toList ((m : Int), q, k) = Fm.from_ s.data.toList m q from by unfold thenS; rw [if_pos h, Int.toNat_natCast])
    subst h
    have H : Hid (_) := fun W (hW : Below w.heap.size w W) => rec1_any s m q b W hs (by omega) h2 (Nat.lt_of_lt_of_le hb hW.size) ((hW.cell hb).trans hc)
    unfold textOf at H
    generalize Fm.from_ s.data.toList m q = r at HV H
    obtain ⟨r0, r1, r2⟩ := r
    clear hok hc
    go_enter Try.func55, Try.ntmps55
    go_wp2_with fail
    refine Calls.mono (H.out _ (((Below.refl w.heap.size w).alloc (Nat.le_refl _) _).alloc (by simp) _)) ?_
    rintro e w1 ⟨rfl, hb1⟩
    obtain ⟨q0, q1, q2, f0, f1, f2⟩ := cells3 (b := w.heap.size + 1) (alloc_size _ _).symm (hb1.mono (by simp))
    have hlt1 : w.heap.size + 1 < w1.heap.size := by have := hb1.size; simp at this; omega
    have hBB := (((Below.refl w.heap.size w).alloc (Nat.le_refl _) _).alloc (by simp) _).trans (hb1.mono (by simp; omega))
    clear hb1
    go_wp2_with fail
    refine bodyPost_ret (v := .agg #[.string ⟨r0.toArray⟩, .int .i64 (r1 : Int), .int .i64 (r2 : Int)]) (by simp [results, Try.results55, go_sem, *]) rfl ⟨by rw [HV.out], ?_⟩
    repeat (first | exact hBB | (refine Below.drew ?_) | (refine Below.setCell ?_ (by exact Nat.le_succ _) _))
  · have HV : Hid (thenS s.data.toList (n, q, k) = ([], 0, k)) := (show thenS s.data.toList (n, q, k) = ([], 0, k) from if_neg h)
    have hk : ¬ ((k : Int) = 0) := by omega
    have H : Hid (_) := fun W => noneS_any k W
    clear hok hc
    go_enter Try.func55, Try.ntmps55
    go_wp2_with fail
    refine Calls.mono (H.out _) ?_
    rintro e w1 ⟨rfl, hb1⟩
    obtain ⟨q0, q1, q2, f0, f1, f2⟩ := cells3 (b := w.heap.size + 1) (alloc_size _ _).symm (hb1.mono (by simp))
    have hlt1 : w.heap.size + 1 < w1.heap.size := by have := hb1.size; simp at this; omega
    have hBB := (((Below.refl w.heap.size w).alloc (Nat.le_refl _) _).alloc (by simp) _).trans (hb1.mono (by simp; omega))
    clear hb1
    go_wp2_with fail
    refine bodyPost_ret (v := .agg #[.string ⟨#[]⟩, .int .i64 0, .int .i64 (k : Int)]) (by simp [results, Try.results55, go_sem, *]) rfl ⟨by rw [HV.out]; rfl, ?_⟩
    repeat (first | exact hBB | (refine Below.drew ?_) | (refine Below.setCell ?_ (by exact Nat.le_succ _) _))
set_option maxRecDepth 100000 in
set_option maxHeartbeats 400000 in
theorem record_any (s : ByteArray) (p : Nat) (w : World) (hs : s.size ≤ 281474976710656) (hp : p ≤ s.size) :
    Calls Try.prog 45 #[.string s, .int .i64 (p : Int)] w fun e w' => e = .returned (textOf (Fm.rec_ s.data.toList p)) ∧ Below w.heap.size w w' := by
  have G : Hid (_) := fun W => size_any s (p : Int) W (by simp only [maxLen]; omega)
  have hok : (thenI (Vn.get s.data.toList p)).2.2 = 0 → 0 ≤ (thenI (Vn.get s.data.toList p)).1 ∧ (thenI (Vn.get s.data.toList p)).1 ≤ 4096 ∧ (thenI (Vn.get s.data.toList p)).2.1 ≤ s.size := fun h => by
    obtain ⟨n, q, h1, h2, h3⟩ := thenI_ok (l := s.data.toList) (p := p) (by rw [V.size_list]; exact hp) h
    rw [V.size_list] at h3
    rw [h1]
    exact ⟨by simp, by simp; omega, h3⟩
  have HE : Hid (_) := Fm.rec_eq s.data.toList p (by rw [V.size_list]; exact hp)
  have HT : Hid (_) := fun b W => thenIS_any s (thenI (Vn.get s.data.toList p)).1 (thenI (Vn.get s.data.toList p)).2.1 (thenI (Vn.get s.data.toList p)).2.2 b W hs hok
  have HU : Hid (_) := (show Fm.rec_ s.data.toList p = thenS s.data.toList (thenI (Vn.get s.data.toList p)) from HE.out)
  clear hok HE
  generalize thenI (Vn.get s.data.toList p) = g at G HT HU
  obtain ⟨g0, g1, g2⟩ := g
  simp only [] at HT
  unfold numOf at G HT
  unfold textOf at HT ⊢
  generalize thenS s.data.toList (g0, g1, g2) = r at HT HU
  rw [HU.out]
  clear HU
  obtain ⟨r0, r1, r2⟩ := r
  go_enter Try.func45, Try.ntmps45
  go_wp2_with fail
  refine Calls.mono (G.out _) ?_
  rintro e w1 ⟨rfl, hb1⟩
  go_wp2_with fail
  have hlt0 : w.heap.size < w1.heap.size := by have := hb1.size; simp at this; omega
  have hc : w1.cell? ⟨w.heap.size, 0, none⟩ = some (.string s) := by
    rw [hb1.cell (by simp; omega), ((Below.refl _ _).alloc (Nat.le_refl _) _).cell (by simp)]; simp
  refine Calls.mono (HT.out _ _ hlt0 hc) ?_
  rintro e w2 ⟨rfl, hb2⟩
  have hb3 := hb1.trans (hb2.mono hb1.size)
  obtain ⟨q0, q1, q2, f0, f1, f2⟩ := cells3 (b := w.heap.size + 1) (alloc_size _ _).symm (hb3.mono (by simp))
  have hlt1 : w.heap.size + 1 < w2.heap.size := by have := hb3.size; simp at this; omega
  have hBB := (((Below.refl w.heap.size w).alloc (Nat.le_refl _) _).alloc (by simp) _).trans (hb3.mono (by simp; omega))
  clear hb1 hb2 hb3 hc
  go_wp2_with fail
  refine bodyPost_ret (v := .agg #[.string ⟨r0.toArray⟩, .int .i64 (r1 : Int), .int .i64 (r2 : Int)]) (by simp [results, Try.results45, go_sem, *]) rfl ⟨rfl, ?_⟩
  repeat (first | exact hBB | (refine Below.drew ?_) | (refine Below.setCell ?_ (by exact Nat.le_succ _) _))
end Go.Proofs.Ytmjmlccdgdakdaa.F
