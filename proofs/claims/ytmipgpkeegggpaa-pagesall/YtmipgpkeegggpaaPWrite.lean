-- PROVED: a cell is laid at a place, on a page of the book's own (5.1, 5.2).
import Derived.Test.YtmipgpkeegggpaaPGet
import Derived.BigRegion
import Derived.Deep.RegionHeld3
namespace Go.Proofs.Ytmipgpkeegggpaa.P
open Go.RowKit
set_option linter.unusedVariables false
def Four : List TypeId := [83, 86, 87, 90]
theorem live_le : ∀ (bs : List Bk) (f : Nat), (∀ (i : Nat) (b : Bk), bs[i]? = some b → b.pgs.length ≤ 1000) → live bs f ≤ 1000 * bs.length := by
  intro bs f h
  refine Nat.le_trans (dist_le _) ?_
  unfold fall
  induction bs with
  | nil => simp
  | cons b bs ih =>
    have h0 := h 0 b rfl
    have := ih fun i b hb => h (i + 1) b (by simpa using hb)
    simp only [List.flatMap_cons, List.length_append, List.length_cons]
    have : (if b.fam = f then b.pgs else []).length ≤ 1000 := by
      split
      · exact h0
      · simp
    omega
set_option maxRecDepth 100000 in
set_option maxHeartbeats 4000000 in
theorem write_own {base : Nat} {w : World} {bs : List Bk} (hbm : BM base w bs) (hpm : PM base w bs (live bs)) (hsize : base ≤ w.heap.size) {i : Nat} {b : Bk} (hb : bs[i]? = some b) {k p : Nat} (hj : b.pgs[k / 8]? = some p) (hc1 : cnt bs p = 1) (hlen : b.pgs.length ≤ 1000)
    {vK vV : Value} {c : Cl} (hc : Parts base w vK vV c) :
    Calls Try.prog 45 #[.pointer (some ⟨b.at_, 0, none⟩), .int .i64 (k : Int), .agg #[.int .i64 c.kind, .int .i64 c.a, .int .i64 c.b, vK, vV]] w fun e w' => e = .returned (.tuple #[]) ∧
      PM base w' (bs.set i { b with slots := b.slots.set k c }) (live bs) ∧ Keep [90] base w w' := by
  obtain ⟨aK, kK, rfl, -⟩ := hc.1
  obtain ⟨aV, kV, rfl, -⟩ := hc.2.1
  have hbel0 : Below w.heap.size w (w.alloc (.cells #[.int .i64 c.kind, .int .i64 c.a, .int .i64 c.b, .slice aK c.keys.length kK, .slice aV c.vals.length kV] 30)) := (Below.refl _ _).alloc (Nat.le_refl _) _
  have hk0 := keepB hsize hbel0
  have hbm0 := hbm.keep hk0 (by simp)
  have hpm0 := hpm.keep hk0 (by simp)
  have hc0 := hc.keep hk0 (by simp)
  have hx := heap_alloc_new w (.cells #[.int .i64 c.kind, .int .i64 c.a, .int .i64 c.b, .slice aK c.keys.length kK, .slice aV c.vals.length kV] 30)
  have hlx : w.heap.size < (w.alloc (.cells #[.int .i64 c.kind, .int .i64 c.a, .int .i64 c.b, .slice aK c.keys.length kK, .slice aV c.vals.length kV] 30)).heap.size := by simp
  obtain ⟨h1, h2, h3⟩ := hbm0.book i b hb
  have hl := (List.getElem?_eq_some_iff.1 hj).1
  obtain ⟨g, cap, hrow, hgl, hgc⟩ : ∃ g cap, b.row = .slice (some ⟨g, 0, none⟩) b.pgs.length cap ∧ g < (w.alloc (.cells #[.int .i64 c.kind, .int .i64 c.a, .int .i64 c.b, .slice aK c.keys.length kK, .slice aV c.vals.length kV] 30)).heap.size ∧ (w.alloc (.cells #[.int .i64 c.kind, .int .i64 c.a, .int .i64 c.b, .slice aK c.keys.length kK, .slice aV c.vals.length kV] 30)).cell? ⟨g, k / 8, none⟩ = some (.pointer (some ⟨p, 0, none⟩)) := by
    have hc := fun g hg => h3.cells (g := g) hg
    rcases h3.2 with ⟨h4, h5⟩ | ⟨g, cap, cur, h4, h5, h6, h7, _⟩
    · omega
    · refine ⟨g, cap, h4, heap_lt h6, ?_⟩
      have := hc g (by rw [h4]; rfl) (k / 8) (ptr p) (by simp [ptrs, hj])
      rw [Go.WideShapes.add_plain, Nat.zero_add] at this
      exact this
  rw [hrow] at h2
  obtain ⟨b0, b1, b2, b3, f0, f1, f2, f3, lb⟩ := blk4 h2
  obtain ⟨hpb, arr, hp, hsz, hp40, hcs⟩ := hpm0.page i b (k / 8) p hb hj
  rw [hc1] at hp40
  have p40 := (cellsOf hp 40).trans hp40
  have lp := heap_lt hp
  have hfz : ∀ W, Below (w.alloc (.cells #[.int .i64 c.kind, .int .i64 c.a, .int .i64 c.b, .slice aK c.keys.length kK, .slice aV c.vals.length kV] 30)).heap.size (w.alloc (.cells #[.int .i64 c.kind, .int .i64 c.a, .int .i64 c.b, .slice aK c.keys.length kK, .slice aV c.vals.length kV] 30)) W → ∀ o, W.frozen? ⟨p, o, none⟩ = false := fun W hW o => by simp [World.frozen?, hW.block p lp, hp]
  have hpc : ∀ W, Below (w.alloc (.cells #[.int .i64 c.kind, .int .i64 c.a, .int .i64 c.b, .slice aK c.keys.length kK, .slice aV c.vals.length kV] 30)).heap.size (w.alloc (.cells #[.int .i64 c.kind, .int .i64 c.a, .int .i64 c.b, .slice aK c.keys.length kK, .slice aV c.vals.length kV] 30)) W → ∀ o, o < 41 → ∃ v, W.cell? ⟨p, o, none⟩ = some v := fun W hW o ho => by
    have e : W.cell? ⟨p, o, none⟩ = arr[o]? := cellsOf ((hW.block p lp).trans hp) o
    rw [e, Array.getElem?_eq_getElem (by omega)]; exact ⟨_, rfl⟩
  have HFZ : Hid (_) := hfz
  have HPC : Hid (_) := hpc
  have HPM : Hid (PM base (w.alloc (.cells #[.int .i64 c.kind, .int .i64 c.a, .int .i64 c.b, .slice aK c.keys.length kK, .slice aV c.vals.length kV] 30)) bs (live bs)) := hpm0
  have HK0 : Hid (Keep [] base w (w.alloc (.cells #[.int .i64 c.kind, .int .i64 c.a, .int .i64 c.b, .slice aK c.keys.length kK, .slice aV c.vals.length kV] 30))) := hk0
  have hB0 : base ≤ (w.alloc (.cells #[.int .i64 c.kind, .int .i64 c.a, .int .i64 c.b, .slice aK c.keys.length kK, .slice aV c.vals.length kV] 30)).heap.size := Nat.le_trans hsize hk0.size
  have hfr : ∀ W, Below (w.alloc (.cells #[.int .i64 c.kind, .int .i64 c.a, .int .i64 c.b, .slice aK c.keys.length kK, .slice aV c.vals.length kV] 30)).heap.size (w.alloc (.cells #[.int .i64 c.kind, .int .i64 c.a, .int .i64 c.b, .slice aK c.keys.length kK, .slice aV c.vals.length kV] 30)) W → Calls Try.prog 50 #[.agg #[.int .i64 c.kind, .int .i64 c.a, .int .i64 c.b, .slice aK c.keys.length kK, .slice aV c.vals.length kV]] W fun e w' => ∃ vK' vV', e = .returned (.agg #[.int .i64 c.kind, .int .i64 c.a, .int .i64 c.b, vK', vV']) ∧ Parts base w' vK' vV' c ∧ Below W.heap.size W w' := fun W hW => fresh_any (hc0.keep (keepB hB0 hW) (by simp)) (Nat.le_trans hB0 hW.size)
  have HFR : Hid (_) := hfr
  obtain ⟨x0, x1, x2, x3, x4, f0', f1', f2', f3', f4', lx⟩ := blk5 hx
  have hq : (k : Int) / 8 = ((k / 8 : Nat) : Int) := by omega
  have hr : (k : Int) % 8 = ((k % 8 : Nat) : Int) := by omega
  have hr8 : k % 8 < 8 := by omega
  clear hfz hpc hpm0 hk0 hfr hbm hpm hc0 hc hbm0 h2 h3 hrow hp hx hp40 hcs hbel0 hsz
  generalize hAt : b.at_ = B at *
  have HAT : Hid (b.at_ = B) := hAt
  clear hAt
  generalize b.pgs.length = n at *
  generalize hJ : k / 8 = J at *
  have HJ : Hid (k / 8 = J) := hJ
  generalize hR : k % 8 = r at *
  have HR : Hid (k % 8 = r) := hR
  clear hJ hR
  have hj' : (J : Int) < n := by omega
  have hr' : (r : Int) < 8 := by omega
  go_enter Try.func45, Try.ntmps45
  go_wp2_with fail
  generalize hW0 : w.alloc (.cells #[.int .i64 c.kind, .int .i64 c.a, .int .i64 c.b, .slice aK c.keys.length kK, .slice aV c.vals.length kV] 30) = W0 at *
  clear hW0
  clear b0 b1 b2 b3 f0 f1 f2 f3 lb hgc hgl f0' f1' f2' f3' f4' p40
  have HFX : Hid (∀ W, Below W0.heap.size W0 W → Calls Try.prog 50 #[.agg #[.int .i64 c.kind, .int .i64 c.a, .int .i64 c.b, .slice aK c.keys.length kK, .slice aV c.vals.length kV]] W fun e w' => ∃ aK' kK' aV' kV', e = .returned (.agg #[.int .i64 c.kind, .int .i64 c.a, .int .i64 c.b, .slice aK' c.keys.length kK', .slice aV' c.vals.length kV']) ∧ Hid (Parts base w' (.slice aK' c.keys.length kK') (.slice aV' c.vals.length kV') c) ∧
      (∃ v, w'.cell? ⟨p, r * 5, none⟩ = some v) ∧ (∃ v, w'.cell? ⟨p, r * 5 + 1, none⟩ = some v) ∧ (∃ v, w'.cell? ⟨p, r * 5 + 2, none⟩ = some v) ∧ (∃ v, w'.cell? ⟨p, r * 5 + 3, none⟩ = some v) ∧ (∃ v, w'.cell? ⟨p, r * 5 + 4, none⟩ = some v) ∧ (∀ o, w'.frozen? ⟨p, o, none⟩ = false) ∧ p < w'.heap.size ∧ Hid (Below W0.heap.size W0 w')) := fun W hW => (HFR.out W hW).mono fun e w' ⟨vK', vV', h1, h2, h3⟩ => by
    obtain ⟨aK', kK', rfl, -⟩ := h2.1
    obtain ⟨aV', kV', rfl, -⟩ := h2.2.1
    have h4 := Below.chain hW h3 hW.size
    exact ⟨_, _, _, _, h1, h2, HPC.out _ h4 _ (by omega), HPC.out _ h4 _ (by omega), HPC.out _ h4 _ (by omega), HPC.out _ h4 _ (by omega), HPC.out _ h4 _ (by omega), HFZ.out _ h4, Nat.lt_of_lt_of_le lp h4.size, h4⟩
  clear HFR HPC HFZ
  generalize c.keys.length = nK, c.vals.length = nV at *
  have ht1 : (k : Int).tmod 8 = (r : Int) := by rw [Int.tmod_eq_emod_of_nonneg (by omega)]; exact hr
  have ht2 : IntKind.i64.wrap (r : Int) = (r : Int) := by simp [IntKind.wrap, IntKind.signed, IntKind.bits]; omega
  have hbb : Below W0.heap.size W0 W0 := Below.refl _ _
  go_region_with (first | (go_at_call 50; refine Calls.mono (HFX.out _ (by first | exact Below.refl _ _ | exact (Below.refl _ _).drew | exact (Below.refl _ _).drew.drew)) ?_; rintro e w7 ⟨aK', kK', aV', kV', rfl, HP7, ⟨v0, hv0⟩, ⟨v1, hv1⟩, ⟨v2, hv2⟩, ⟨v3, hv3⟩, ⟨v4, hv4⟩, hfz7, hp7, HB7⟩))
  go_end0
  rw [← HAT.out]
  have hst := (HPM.out.keep (keepB hB0 HB7.out) (by simp)).store hb hj hc1 hr8 HP7.out
  rw [show 8 * J + r = k by have := HJ.out; have := HR.out; omega] at hst
  exact ⟨rfl, hst.1, ((HK0.out.mono (by simp)).trans ((keepB hB0 HB7.out).mono (by simp))).trans hst.2⟩
end Go.Proofs.Ytmipgpkeegggpaa.P
