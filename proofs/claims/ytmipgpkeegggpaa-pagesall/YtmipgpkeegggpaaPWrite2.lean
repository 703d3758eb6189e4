-- PROVED: a cell is laid at a place of a page that more than one book has (5.2).
import Derived.Test.YtmipgpkeegggpaaPWrite
namespace Go.Proofs.Ytmipgpkeegggpaa.P
open Go.RowKit
set_option linter.unusedVariables false
theorem ptrs_set (l : List Nat) (j q : Nat) : (ptrs l).set j (ptr q) = ptrs (l.set j q) := by simp [ptrs, List.map_set]
theorem split_turn {base : Nat} {w : World} {bs : List Bk} (hbm : BM base w bs) (hpm : PM base w bs (live bs)) (hB : base ≤ w.heap.size) {i j p n g cap : Nat} {b : Bk} {arr : Array Value} (hb : bs[i]? = some b) (hj : b.pgs[j]? = some p) (h2 : 2 ≤ cnt bs p) (hn : n + 1 = cnt bs p) (hp : w.heap[p]? = some (.cells arr 90 (0, 0)))
    (hrow : b.row = .slice (some ⟨g, 0, none⟩) b.pgs.length cap) :
    PM base ((((w.setCell ⟨p, 40, none⟩ (.int .i64 (n : Int))).alloc (.cells (arr.setIfInBounds 40 (.int .i64 1)) 90)).setCell ⟨g, j, none⟩ (.pointer (some ⟨w.heap.size, 0, none⟩))).setCell ⟨b.fam, 0, none⟩ (.int .i64 ((live bs b.fam : Int) + 1))) (bs.set i { b with pgs := b.pgs.set j w.heap.size }) (live (bs.set i { b with pgs := b.pgs.set j w.heap.size })) ∧
    BM base ((((w.setCell ⟨p, 40, none⟩ (.int .i64 (n : Int))).alloc (.cells (arr.setIfInBounds 40 (.int .i64 1)) 90)).setCell ⟨g, j, none⟩ (.pointer (some ⟨w.heap.size, 0, none⟩))).setCell ⟨b.fam, 0, none⟩ (.int .i64 ((live bs b.fam : Int) + 1))) (bs.set i { b with pgs := b.pgs.set j w.heap.size }) ∧
    Keep Four base w ((((w.setCell ⟨p, 40, none⟩ (.int .i64 (n : Int))).alloc (.cells (arr.setIfInBounds 40 (.int .i64 1)) 90)).setCell ⟨g, j, none⟩ (.pointer (some ⟨w.heap.size, 0, none⟩))).setCell ⟨b.fam, 0, none⟩ (.int .i64 ((live bs b.fam : Int) + 1))) := by
  obtain ⟨p1, k1⟩ := hpm.split hb hj h2 hn hp hB
  have b1 := hbm.keep k1 (by simp)
  have hz1 := k1.size
  have hq : w.heap.size < ((w.setCell ⟨p, 40, none⟩ (.int .i64 (n : Int))).alloc (.cells (arr.setIfInBounds 40 (.int .i64 1)) 90)).heap.size := by simp [World.setCell]
  generalize (w.setCell ⟨p, 40, none⟩ (.int .i64 (n : Int))).alloc (.cells (arr.setIfInBounds 40 (.int .i64 1)) 90) = w1 at *
  obtain ⟨c1, c2, c3⟩ := b1.book i b hb
  have hl := (List.getElem?_eq_some_iff.1 hj).1
  obtain ⟨hgB, cur, hg⟩ : base ≤ g ∧ ∃ cur, w1.heap[g]? = some (.cells cur 87 (0, 0)) := by
    rcases c3.2 with ⟨h4, h5⟩ | ⟨g', cap', cur, h4, h5, h6, _⟩
    · omega
    · rw [hrow] at h4
      injection h4 with e1 _ _
      injection e1 with e1
      injection e1 with e1
      subst e1
      exact ⟨h5, cur, h6⟩
  have k2 : Keep [87] base w1 (w1.setCell ⟨g, j, none⟩ (ptr w.heap.size)) := (Keep.refl _ _ _).set hg (by simp) hgB _
  have p2 := p1.keep k2 (by simp)
  have b2 : BM base (w1.setCell ⟨g, j, none⟩ (ptr w.heap.size)) (bs.set i { b with pgs := b.pgs.set j w.heap.size }) := by
    refine b1.turn (b' := { b with pgs := b.pgs.set j w.heap.size }) hb rfl ?_ ?_ ?_ ?_
    · intro k arr T hk hk1 hk2
      refine heap_set_ne fun e => hk2 ?_
      rw [hrow]; simp [Value.ownBlock]; exact e.symm
    · exact (k2.same _ _ _ _ c2 (by simp)).trans c2
    · have := own_put (w := w1) (base := base) (e := 87) (g := g) (n := b.pgs.length) (cap := cap) (j := j) (xs := ptrs b.pgs) (by rw [← hrow]; exact c3) (ptr w.heap.size) hl
      rw [ptrs_set] at this
      simp only [List.length_set, hrow]
      exact this
    · intro g' hg'; exact .inl hg'
  obtain ⟨p3, k3⟩ := p2.number (set_same hb) (live bs b.fam + 1)
  have b3 := b2.keep k3 (by simp)
  simp only [] at p3 k3 b3
  rw [show ((live bs b.fam + 1 : Nat) : Int) = (live bs b.fam : Int) + 1 by omega] at p3 k3 b3
  have hlv : (fun f => if f = b.fam then live bs b.fam + 1 else live bs f) = live (bs.set i { b with pgs := b.pgs.set j w.heap.size }) := by
    funext f
    rw [live_split hpm hb hj h2 (Nat.le_refl _) f]
    by_cases e : f = b.fam
    · rw [if_pos e, if_pos e, e]
    · rw [if_neg e, if_neg e]
  rw [hlv] at p3
  exact ⟨p3, b3, ((k1.mono (by simp [Four])).trans (k2.mono (by simp [Four]))).trans (k3.mono (by simp [Four]))⟩
theorem cnt_new {base : Nat} {w : World} {bs : List Bk} {lv : Nat → Nat} (hpm : PM base w bs lv) {i j p q : Nat} {b : Bk} (hb : bs[i]? = some b) (hj : b.pgs[j]? = some p) (hq : w.heap.size ≤ q) : cnt (bs.set i { b with pgs := b.pgs.set j q }) q = 1 := by
  have hnq : ∀ (i : Nat) (b : Bk), bs[i]? = some b → q ∉ b.pgs := fun i b hb hq' => by have := hpm.lt hb hq'; omega
  have hcs := cnt_set bs i b { b with pgs := b.pgs.set j q } q hb
  simp only [mem_set_iff (hpm.nod i b hb) hj (hnq i b hb)] at hcs
  rw [if_neg (hnq _ b hb), cnt_zero hnq] at hcs
  simp at hcs
  omega
set_option maxRecDepth 100000 in
set_option maxHeartbeats 4000000 in
theorem write_more {base : Nat} {w : World} {bs : List Bk} (hbm : BM base w bs) (hpm : PM base w bs (live bs)) (hsize : base ≤ w.heap.size) {i : Nat} {b : Bk} (hb : bs[i]? = some b) {k p : Nat} (hj : b.pgs[k / 8]? = some p) (hc2 : 2 ≤ cnt bs p) (hfew : bs.length ≤ 1000) (hall : ∀ (i : Nat) (b : Bk), bs[i]? = some b → b.pgs.length ≤ 1000)
    {vK vV : Value} {c : Cl} (hc : Parts base w vK vV c) :
    Calls Try.prog 45 #[.pointer (some ⟨b.at_, 0, none⟩), .int .i64 (k : Int), .agg #[.int .i64 c.kind, .int .i64 c.a, .int .i64 c.b, vK, vV]] w fun e w' => e = .returned (.tuple #[]) ∧
      ∃ q, w.heap.size ≤ q ∧ PM base w' (bs.set i { b with slots := b.slots.set k c, pgs := b.pgs.set (k / 8) q }) (live (bs.set i { b with pgs := b.pgs.set (k / 8) q })) ∧ BM base w' (bs.set i { b with pgs := b.pgs.set (k / 8) q }) ∧ Keep Four base w w' := by
  obtain ⟨aK, kK, rfl, -⟩ := hc.1
  obtain ⟨aV, kV, rfl, -⟩ := hc.2.1
  have hbel0 : Below w.heap.size w (w.alloc (.cells #[.int .i64 c.kind, .int .i64 c.a, .int .i64 c.b, .slice aK c.keys.length kK, .slice aV c.vals.length kV] 30)) := (Below.refl _ _).alloc (Nat.le_refl _) _
  have hk0 := keepB hsize hbel0
  have hbm0 := hbm.keep hk0 (by simp)
  have hpm0 := hpm.keep hk0 (by simp)
  have hc0 := hc.keep hk0 (by simp)
  have hx := heap_alloc_new w (.cells #[.int .i64 c.kind, .int .i64 c.a, .int .i64 c.b, .slice aK c.keys.length kK, .slice aV c.vals.length kV] 30)
  have hlx : w.heap.size < (w.alloc (.cells #[.int .i64 c.kind, .int .i64 c.a, .int .i64 c.b, .slice aK c.keys.length kK, .slice aV c.vals.length kV] 30)).heap.size := by simp
  have hB0 : base ≤ (w.alloc (.cells #[.int .i64 c.kind, .int .i64 c.a, .int .i64 c.b, .slice aK c.keys.length kK, .slice aV c.vals.length kV] 30)).heap.size := Nat.le_trans hsize hk0.size
  obtain ⟨h1, h2, h3⟩ := hbm0.book i b hb
  have hl := (List.getElem?_eq_some_iff.1 hj).1
  have hlen := hall i b hb
  obtain ⟨g, cap, hrow, hgl, hgc, hg⟩ : ∃ g cap, b.row = .slice (some ⟨g, 0, none⟩) b.pgs.length cap ∧ g < (w.alloc (.cells #[.int .i64 c.kind, .int .i64 c.a, .int .i64 c.b, .slice aK c.keys.length kK, .slice aV c.vals.length kV] 30)).heap.size ∧ (w.alloc (.cells #[.int .i64 c.kind, .int .i64 c.a, .int .i64 c.b, .slice aK c.keys.length kK, .slice aV c.vals.length kV] 30)).cell? ⟨g, k / 8, none⟩ = some (.pointer (some ⟨p, 0, none⟩)) ∧ ∃ cur, (w.alloc (.cells #[.int .i64 c.kind, .int .i64 c.a, .int .i64 c.b, .slice aK c.keys.length kK, .slice aV c.vals.length kV] 30)).heap[g]? = some (.cells cur 87 (0, 0)) := by
    have hc := fun g hg => h3.cells (g := g) hg
    rcases h3.2 with ⟨h4, h5⟩ | ⟨g, cap, cur, h4, h5, h6, h7, _⟩
    · omega
    · refine ⟨g, cap, h4, heap_lt h6, ?_, cur, h6⟩
      have := hc g (by rw [h4]; rfl) (k / 8) (ptr p) (by simp [ptrs, hj])
      rw [Go.WideShapes.add_plain, Nat.zero_add] at this
      exact this
  obtain ⟨cur, hg⟩ := hg
  rw [hrow] at h2
  obtain ⟨hpb, arr, hp, hsz, hp40, hcs⟩ := hpm0.page i b (k / 8) p hb hj
  obtain ⟨n0, hn0⟩ : ∃ n0, n0 + 1 = cnt bs p := ⟨cnt bs p - 1, by omega⟩
  have hcl := cnt_le bs p
  rw [← hn0, show ((n0 + 1 : Nat) : Int) = (n0 : Int) + 1 by omega] at hp40
  have p40 := (cellsOf hp 40).trans hp40
  have lp := heap_lt hp
  obtain ⟨hfb, hf⟩ := hpm0.fam i b hb
  have hlv := live_le bs b.fam hall
  have HSP : Hid (_) := split_any hp hsz hp40 (by omega)
  have HST : Hid (_) := split_turn hbm0 hpm0 hB0 hb hj hc2 hn0 hp hrow
  have HCN : Hid (_) := cnt_new hpm0 (q := (w.alloc (.cells #[.int .i64 c.kind, .int .i64 c.a, .int .i64 c.b, .slice aK c.keys.length kK, .slice aV c.vals.length kV] 30)).heap.size) hb hj (Nat.le_refl _)
  have kk1 := (hpm0.split hb hj hc2 hn0 hp hB0).2
  have HX : Hid ((w.alloc (.cells #[.int .i64 c.kind, .int .i64 c.a, .int .i64 c.b, .slice aK c.keys.length kK, .slice aV c.vals.length kV] 30)).heap[w.heap.size]? = some (.cells #[.int .i64 c.kind, .int .i64 c.a, .int .i64 c.b, .slice aK c.keys.length kK, .slice aV c.vals.length kV] 30)) := hx
  have HK0 : Hid (Keep [] base w (w.alloc (.cells #[.int .i64 c.kind, .int .i64 c.a, .int .i64 c.b, .slice aK c.keys.length kK, .slice aV c.vals.length kV] 30))) := hk0
  have HC0 : Hid (Parts base (w.alloc (.cells #[.int .i64 c.kind, .int .i64 c.a, .int .i64 c.b, .slice aK c.keys.length kK, .slice aV c.vals.length kV] 30)) (.slice aK c.keys.length kK) (.slice aV c.vals.length kV) c) := hc0
  have h2' := (kk1.same _ _ _ _ h2 (by simp)).trans h2
  have hg' := (kk1.same _ _ _ _ hg (by simp)).trans hg
  have hf' := (kk1.same _ _ _ _ hf (by simp)).trans hf
  have hBg : b.at_ ≠ g := type_ne h2 hg (by decide)
  have hFg : b.fam ≠ g := type_ne hf hg (by decide)
  have hBF : b.at_ ≠ b.fam := type_ne h2 hf (by decide)
  have hgc' : (((w.alloc (.cells #[.int .i64 c.kind, .int .i64 c.a, .int .i64 c.b, .slice aK c.keys.length kK, .slice aV c.vals.length kV] 30)).setCell ⟨p, 40, none⟩ (.int .i64 (n0 : Int))).alloc (.cells (arr.setIfInBounds 40 (.int .i64 1)) 90)).cell? ⟨g, k / 8, none⟩ = some (.pointer (some ⟨p, 0, none⟩)) := (World.cell?_of_block (a := ⟨g, k / 8, none⟩) (kk1.same _ _ _ _ hg (by simp))).trans hgc
  have hgf' : (((w.alloc (.cells #[.int .i64 c.kind, .int .i64 c.a, .int .i64 c.b, .slice aK c.keys.length kK, .slice aV c.vals.length kV] 30)).setCell ⟨p, 40, none⟩ (.int .i64 (n0 : Int))).alloc (.cells (arr.setIfInBounds 40 (.int .i64 1)) 90)).frozen? ⟨g, k / 8, none⟩ = false := by simp [World.frozen?, hg']
  have HZ : Hid (∃ arr', (((((w.alloc (.cells #[.int .i64 c.kind, .int .i64 c.a, .int .i64 c.b, .slice aK c.keys.length kK, .slice aV c.vals.length kV] 30)).setCell ⟨p, 40, none⟩ (.int .i64 (n0 : Int))).alloc (.cells (arr.setIfInBounds 40 (.int .i64 1)) 90)).setCell ⟨g, k / 8, none⟩ (.pointer (some ⟨(w.alloc (.cells #[.int .i64 c.kind, .int .i64 c.a, .int .i64 c.b, .slice aK c.keys.length kK, .slice aV c.vals.length kV] 30)).heap.size, 0, none⟩))).setCell ⟨b.fam, 0, none⟩ (.int .i64 ((live bs b.fam : Int) + 1))).heap[(w.alloc (.cells #[.int .i64 c.kind, .int .i64 c.a, .int .i64 c.b, .slice aK c.keys.length kK, .slice aV c.vals.length kV] 30)).heap.size]? = some (.cells arr' 90 (0, 0)) ∧ arr'.size = 41) := by
    have hlw : b.fam < (w.alloc (.cells #[.int .i64 c.kind, .int .i64 c.a, .int .i64 c.b, .slice aK c.keys.length kK, .slice aV c.vals.length kV] 30)).heap.size := heap_lt hf
    refine ⟨arr.setIfInBounds 40 (.int .i64 1), ?_, by simpa using hsz⟩
    rw [heap_set_ne (by simp only []; omega), heap_set_ne (by simp only []; omega)]
    have := heap_alloc_new ((w.alloc (.cells #[.int .i64 c.kind, .int .i64 c.a, .int .i64 c.b, .slice aK c.keys.length kK, .slice aV c.vals.length kV] 30)).setCell ⟨p, 40, none⟩ (.int .i64 (n0 : Int))) (.cells (arr.setIfInBounds 40 (.int .i64 1)) 90)
    rwa [size_set] at this
  obtain ⟨b0, b1, b2, b3, f0, f1, f2, f3, lb⟩ := blk4 h2
  obtain ⟨b0', b1', b2', b3', f0', f1', f2', f3', lb'⟩ := blk4 h2'
  obtain ⟨m0', m1', lm'⟩ := blk1 hf'
  have lg' := heap_lt hg'
  obtain ⟨x0, x1, x2, x3, x4, y0, y1, y2, y3, y4, lx⟩ := blk5 hx
  have hq : (k : Int) / 8 = ((k / 8 : Nat) : Int) := by omega
  have hr : (k : Int) % 8 = ((k % 8 : Nat) : Int) := by omega
  have hr8 : k % 8 < 8 := by omega
  have hn1 : (1 : Int) < (n0 : Int) + 1 := by omega
  have hwrap : IntKind.i64.wrap ((live bs b.fam : Int) + 1) = (live bs b.fam : Int) + 1 := by
    simp [IntKind.wrap, IntKind.signed, IntKind.bits]; omega
  have hlv2 : live bs b.fam ≤ 1000000 := by omega
  have HWS : Hid (w.heap.size < (w.alloc (.cells #[.int .i64 c.kind, .int .i64 c.a, .int .i64 c.b, .slice aK c.keys.length kK, .slice aV c.vals.length kV] 30)).heap.size) := hlx
  have hWs : (w.alloc (.cells #[.int .i64 c.kind, .int .i64 c.a, .int .i64 c.b, .slice aK c.keys.length kK, .slice aV c.vals.length kV] 30)).heap.size = w.heap.size + 1 := by simp
  rw [hWs] at HST HCN HZ
  clear hWs
  clear hpm0 hk0 hbm hpm hc0 hc hbm0 h2 h3 hrow hp hx hp40 hcs hbel0 hsz h2' hg' hf' hg hf kk1 hall hlv
  generalize hAt : b.at_ = B at *
  have HAT : Hid (b.at_ = B) := hAt
  clear hAt
  generalize hLV : live bs b.fam = LV at *
  have HLV : Hid (live bs b.fam = LV) := hLV
  clear hLV
  generalize hFM : b.fam = F at *
  have HFM : Hid (b.fam = F) := hFM
  clear hFM
  generalize b.pgs.length = n at *
  generalize hJ : k / 8 = J at *
  have HJ : Hid (k / 8 = J) := hJ
  generalize hR : k % 8 = r at *
  have HR : Hid (k % 8 = r) := hR
  clear hJ hR
  have hj' : (J : Int) < n := by omega
  have hr' : (r : Int) < 8 := by omega
  go_enter Try.func45, Try.ntmps45
  go_wp2_with (first | (go_at_call 54; refine Calls.mono HSP.out ?_; rintro e w1 ⟨rfl, rfl⟩))
  obtain ⟨HPM3, HBM3, hk3⟩ := HST.out
  have HPM : Hid (_) := HPM3
  have HBM : Hid (_) := HBM3
  clear HPM3 HBM3
  obtain ⟨arr', hq1, hq2⟩ := HZ.out
  have hx3 := (hk3.same _ _ _ _ HX.out (by simp [Four])).trans HX.out
  have hB3 := Nat.le_trans hB0 hk3.size
  have HC3 : Hid (Parts base _ (.slice aK c.keys.length kK) (.slice aV c.vals.length kV) c) := HC0.out.keep hk3 (by simp [Four, Mine])
  have HK3 : Hid (_) := (HK0.out.mono (S' := Four) (by simp)).trans hk3
  have hB1 : w.heap.size ≤ w.heap.size + 1 := by omega
  clear HST HZ HX HC0 HK0 HSP hk3 b0 b1 b2 b3 f0 f1 f2 f3 lb b0' b1' b2' b3' f0' f1' f2' f3' lb' m0' m1' lm' lg' x0 x1 x2 x3 x4 y0 y1 y2 y3 y4 lx hgc hgl hgc' hgf' p40 lp hlx HWS hB0 hwrap hn1
  generalize ((((w.alloc (.cells #[.int .i64 c.kind, .int .i64 c.a, .int .i64 c.b, .slice aK c.keys.length kK, .slice aV c.vals.length kV] 30)).setCell ⟨p, 40, none⟩ (.int .i64 (n0 : Int))).alloc (.cells (arr.setIfInBounds 40 (.int .i64 1)) 90)).setCell ⟨g, J, none⟩ (.pointer (some ⟨w.heap.size + 1, 0, none⟩))).setCell ⟨F, 0, none⟩ (.int .i64 ((LV : Int) + 1)) = W3 at *
  obtain ⟨x0, x1, x2, x3, x4, y0, y1, y2, y3, y4, lx⟩ := blk5 hx3
  have lq := heap_lt hq1
  generalize hXX : w.heap.size = X at *
  have HXX : Hid (w.heap.size = X) := hXX
  clear hXX
  generalize hqq : X + 1 = q at *
  have HQ : Hid (X + 1 = q) := hqq
  clear hqq
  have HFX : Hid (∀ W, Below W3.heap.size W3 W → Calls Try.prog 50 #[.agg #[.int .i64 c.kind, .int .i64 c.a, .int .i64 c.b, .slice aK c.keys.length kK, .slice aV c.vals.length kV]] W fun e w' => ∃ aK' kK' aV' kV', e = .returned (.agg #[.int .i64 c.kind, .int .i64 c.a, .int .i64 c.b, .slice aK' c.keys.length kK', .slice aV' c.vals.length kV']) ∧ Hid (Parts base w' (.slice aK' c.keys.length kK') (.slice aV' c.vals.length kV') c) ∧
      (∃ v, w'.cell? ⟨q, r * 5, none⟩ = some v) ∧ (∃ v, w'.cell? ⟨q, r * 5 + 1, none⟩ = some v) ∧ (∃ v, w'.cell? ⟨q, r * 5 + 2, none⟩ = some v) ∧ (∃ v, w'.cell? ⟨q, r * 5 + 3, none⟩ = some v) ∧ (∃ v, w'.cell? ⟨q, r * 5 + 4, none⟩ = some v) ∧ (∀ o, w'.frozen? ⟨q, o, none⟩ = false) ∧ q < w'.heap.size ∧ Hid (Below W3.heap.size W3 w')) := fun W hW => (fresh_any (HC3.out.keep (keepB hB3 hW) (by simp)) (Nat.le_trans hB3 hW.size)).mono fun e w' ⟨vK', vV', h1, h2, h3⟩ => by
    obtain ⟨aK', kK', rfl, -⟩ := h2.1
    obtain ⟨aV', kV', rfl, -⟩ := h2.2.1
    have h4 := Below.chain hW h3 hW.size
    have hpc : ∀ o, o < 41 → ∃ v, w'.cell? ⟨q, o, none⟩ = some v := fun o ho => by
      have e : w'.cell? ⟨q, o, none⟩ = arr'[o]? := cellsOf ((h4.block q lq).trans hq1) o
      rw [e, Array.getElem?_eq_getElem (by omega)]; exact ⟨_, rfl⟩
    exact ⟨_, _, _, _, h1, h2, hpc _ (by omega), hpc _ (by omega), hpc _ (by omega), hpc _ (by omega), hpc _ (by omega), fun o => by simp [World.frozen?, h4.block q lq, hq1], Nat.lt_of_lt_of_le lq h4.size, h4⟩
  clear HC3 hx3 hq1 hq2 lq
  generalize c.keys.length = nK, c.vals.length = nV at *
  have ht1 : (k : Int).tmod 8 = (r : Int) := by rw [Int.tmod_eq_emod_of_nonneg (by omega)]; exact hr
  have ht2 : IntKind.i64.wrap (r : Int) = (r : Int) := by simp [IntKind.wrap, IntKind.signed, IntKind.bits]; omega
  go_region_with (first | (go_at_call 50; refine Calls.mono (HFX.out _ (by first | exact Below.refl _ _ | exact (Below.refl _ _).drew | exact (Below.refl _ _).drew.drew)) ?_; rintro e w7 ⟨aK', kK', aV', kV', rfl, HP7, ⟨v0, hv0⟩, ⟨v1, hv1⟩, ⟨v2, hv2⟩, ⟨v3, hv3⟩, ⟨v4, hv4⟩, hfz7, hp7, HB7⟩))
  go_end0
  rw [← HAT.out, ← HFM.out]
  rw [← HAT.out, ← HFM.out] at HPM HBM HCN
  have hll := (List.getElem?_eq_some_iff.1 hj).1
  have hst := (HPM.out.keep (keepB hB3 HB7.out) (by simp)).store (set_same hb) (j := J) (p := q) (by simp only []; rw [List.getElem?_set, if_pos rfl, if_pos hll]) HCN.out hr8 HP7.out
  rw [show 8 * J + r = k by have := HJ.out; have := HR.out; omega] at hst
  simp only [List.set_set] at hst
  refine ⟨rfl, q, by rw [HXX.out]; exact hB1, hst.1, (HBM.out.keep (keepB hB3 HB7.out) (by simp)).keep hst.2 (by simp), (HK3.out.trans ((keepB hB3 HB7.out).mono (by simp))).trans (hst.2.mono (by simp [Four]))⟩
end Go.Proofs.Ytmipgpkeegggpaa.P
