-- PROVED: the reference's 'own': a book's page is its own.
import Derived.Test.YtmipgpkeegggpaaPFam2
import Derived.Deep.DeepCutAuto
import Derived.Deep.CutBlock
namespace Go.Proofs.Ytmipgpkeegggpaa.P
open Go.RowKit
set_option linter.unusedVariables false
theorem info3 : (Try.prog.info? 3).map (fun i => (i.zero, i.size, i.bytes)) = some (some (.int .i64 0), 1, 8) := by kernel_rfl
def nums (l : List Nat) : List Value := l.map fun x => .int .i64 ((x : Nat) : Int)
section
variable {base fB nx : Nat} {w : World} {rs : List Rb}
theorem nums_push {B : Nat} {v : Value} {l : List Nat} (h : w.ownsRow B 3 1 v l.length (nums l)) (hB : B ≤ w.heap.size) (hl : l.length ≤ 10000000) (x : Nat) (ty : TypeId) :
    ∃ a cap w3, (Builtin.append_ #[23, 23] ty #[v, .slice (some ⟨w.heap.size, 0, none⟩) 1 1]).run Try.prog (w.alloc (.cells #[.int .i64 (x : Int)] 3)) = .ok (.slice a (l.length + 1) cap) w3 ∧
      w3.ownsRow B 3 1 (.slice a (l.length + 1) cap) (l.length + 1) (nums (l ++ [x])) ∧ Below B w w3 := by
  obtain ⟨i0, hi, hz0, hz1, hz2⟩ := info_parts info3
  have hbel : Below w.heap.size w (w.alloc (.cells #[.int .i64 (x : Int)] 3)) := (Below.refl _ _).alloc (Nat.le_refl _) _
  have htmp := heap_alloc_new w (.cells #[.int .i64 (x : Int)] 3)
  have c3 : World.ownsRow _ B 3 1 v l.length (nums l) := own_same h fun g cur _ hg => hbel.block g (heap_lt hg)
  have hsz : (w.alloc (.cells #[.int .i64 (x : Int)] 3)).heap.size = w.heap.size + 1 := by simp
  generalize (w.alloc (.cells #[.int .i64 (x : Int)] 3)) = w2 at *
  obtain ⟨v', w3, hr, ho, hg, _, hat⟩ := run_append_own_at (P := Try.prog) w2 B 23 ty 3 i0 (.int .i64 0) 1 8 Try.underlying23 hi hz0 hz1 hz2 rfl (by decide) v l.length (nums l) c3 ⟨w.heap.size, 0, none⟩ 1 1 [.int .i64 (x : Int)] rfl (by
      intro j u hj
      match j, hj with
      | 0, hj => simp at hj; subst hj; simp [Addr.add, World.cell?, htmp]) (by intro u hu; simp at hu; subst hu; rfl) (by unfold maxLen; omega) (by omega) (by omega)
  obtain ⟨a, cap, rfl⟩ : ∃ a cap, v' = .slice a (l.length + 1) cap := by
    rcases ho.2 with ⟨_, e⟩ | ⟨g, cap, cur, e, _⟩
    · omega
    · exact ⟨_, _, e⟩
  refine ⟨a, cap, w3, hr, by simpa [nums] using ho, (hbel.mono hB).trans ((Below.refl _ _).grown hg (by omega) fun k hk => ?_)⟩
  exact (c3.lt k hk).1
theorem Ints.copy {a0 : Option Addr} {c0 : Nat} {l : List Nat} (h : Ints base w (.slice a0 l.length c0) l) (hl : l.length ≤ 1000) (ty : TypeId) :
    ∃ a cap w', (Builtin.append_ #[23, 23] ty #[.slice (some ⟨w.heap.size, 0, none⟩) 0 0, .slice a0 l.length c0]).run Try.prog (w.alloc (.cells #[] 3)) = .ok (.slice a l.length cap) w' ∧ w'.ownsRow w.heap.size 3 1 (.slice a l.length cap) l.length (nums l) ∧ Below w.heap.size w w' := by
  obtain ⟨a1, c1, e, -, h3⟩ := h
  injection e with e1 _ e2
  subst e1 e2
  exact run_copy2 (t := 23) (news := nums l) Try.underlying23 info3 rfl (by decide) (by decide) a0 c0 (by omega) (by simp [nums]) (by
    intro u hu
    simp [nums] at hu
    obtain ⟨x, _, rfl⟩ := hu
    rfl) (h3.imp id (by
      rintro ⟨b, off, arr, fz, h4, h5, h6⟩
      refine ⟨b, off, h4, fun j u hj => ?_⟩
      obtain ⟨hjl, rfl⟩ := List.getElem?_eq_some_iff.1 hj
      have hjl' : j < l.length := by simpa [nums] using hjl
      rw [h6 j hjl']
      simp [nums])) ty
set_option maxRecDepth 100000 in
set_option maxHeartbeats 4000000 in
theorem own_not (h : Fam base w fB rs nx) {b p n : Nat} {r : Rb} (hr : rs[b]? = some r) (hp : r.pgs[p]? = some n) (hs : ¬ ∃ i r', i ≠ b ∧ rs[i]? = some r' ∧ n ∈ r'.pgs) :
    Calls Try.prog 46 #[.pointer (some ⟨fB, 0, none⟩), .int .i64 (b : Int), .int .i64 (p : Int)] w fun e w' => e = .returned (.tuple #[]) ∧ w' = w := by
  obtain ⟨g, cap, c0, c1, lf, fz1, fz0, hbl, hcap, -, hgl, g0, g1, g2, -, -, -⟩ := h.at_ hr
  obtain ⟨k1, k2, k3, k4⟩ := h.book b r hr
  obtain ⟨pb, po, pc, e1, hpl, hpb, hpc⟩ := k2.at_ hp
  rw [e1] at g1
  have hfew := h.few
  have HS : Hid (_) := shared_any h b n
  have HN : Hid (¬ ∃ i r', i ≠ b ∧ rs[i]? = some r' ∧ n ∈ r'.pgs) := hs
  have hbl' : (b : Int) < (rs.length : Int) := by omega
  have hpl' : (p : Int) < (r.pgs.length : Int) := by omega
  have hpe : ¬ (p : Int) = (r.pgs.length : Int) := by omega
  have hpe2 : ((p : Int) == (r.pgs.length : Int)) = false := by simpa using hpe
  clear h k1 k2 k3 e1 hp hs
  go_enter Try.func46, Try.ntmps46
  go_wp2_with fail
  refine Calls.mono HS.out ?_
  rintro e w1 ⟨x, rfl, ho, rfl⟩
  have hx : x = false := by
    cases x
    · rfl
    · exact absurd (ho.1 rfl) HN.out
  subst hx
  clear ho
  go_wp2_with fail
  go_end0
  exact ⟨rfl, rfl⟩
set_option maxRecDepth 100000 in
set_option maxHeartbeats 4000000 in
theorem own_set (h : Fam base w fB rs nx) (hnx : nx ≤ 100000) (hB : base ≤ w.heap.size) {b p n : Nat} {r : Rb} (hr : rs[b]? = some r) (hp : r.pgs[p]? = some n) (hs : ∃ i r', i ≠ b ∧ rs[i]? = some r' ∧ n ∈ r'.pgs) :
    Calls Try.prog 46 #[.pointer (some ⟨fB, 0, none⟩), .int .i64 (b : Int), .int .i64 (p : Int)] w fun e w' => e = .returned (.tuple #[]) ∧ ∃ v', Fam base w' fB (rs.set b (withP r (r.pgs.set p (nx + 1)) v')) (nx + 1) ∧ Keep [58, 55] base w w' := by
  obtain ⟨g, cap, c0, c1, lf, fz1, fz0, hbl, hcap, -, hgl, g0, g1, g2, -, -, -⟩ := h.at_ hr
  obtain ⟨k1, k2, k3, k4⟩ := h.book b r hr
  obtain ⟨pb, po, pc, e1, hpl, hpb, hpc⟩ := k2.at_ hp
  rw [e1] at g1
  have hfew := h.few
  have HS : Hid (_) := shared_any h b n
  have HN : Hid (∃ i r', i ≠ b ∧ rs[i]? = some r' ∧ n ∈ r'.pgs) := hs
  have H : Hid (Fam base w fB rs nx) := h
  have HR : Hid (rs[b]? = some r) := hr
  have HE : Hid (r.vP = .slice (some ⟨pb, po, none⟩) r.pgs.length pc) := e1
  have hbl' : (b : Int) < (rs.length : Int) := by omega
  have hpl' : (p : Int) < (r.pgs.length : Int) := by omega
  have hpe : ¬ (p : Int) = (r.pgs.length : Int) := by omega
  have hpe2 : ((p : Int) == (r.pgs.length : Int)) = false := by simpa using hpe
  clear h k1 k2 k3 e1 hp hs
  go_enter Try.func46, Try.ntmps46
  go_wp2_with fail
  refine Calls.mono HS.out ?_
  rintro e w1 ⟨x, rfl, ho, rfl⟩
  have hx : x = true := ho.2 HN.out
  subst hx
  clear ho
  go_upto_region 2 with fail
  have hn := H.out.next (nx + 1)
  rw [show ((nx + 1 : Nat) : Int) = (nx : Int) + 1 from rfl] at hn
  have HK1 : Hid (_) := hn.2
  have hB1 : base ≤ (w1.setCell ⟨fB, 1, none⟩ (.int .i64 ((nx : Int) + 1))).heap.size := Nat.le_trans hB hn.2.size
  have H1 : Hid (Fam base (w1.setCell ⟨fB, 1, none⟩ (.int .i64 ((nx : Int) + 1))) fB rs (nx + 1)) := hn.1
  clear hn H c0 c1 lf fz1 fz0 hgl g0 g1 g2 hpb hpc HS HN
  generalize w1.setCell ⟨fB, 1, none⟩ (.int .i64 ((nx : Int) + 1)) = W1 at *
  obtain ⟨g', cap', c0, c1, lf, fz1, fz0, -, hcap', -, hgl, g0, g1, g2, hfzg, -, -⟩ := H1.out.at_ HR.out
  have hI := (H1.out.book b r HR.out).2.1
  rw [HE.out] at g1 hI
  obtain ⟨ra, rcap, W2, hrun, hown, hbel2⟩ := hI.copy k4 23
  obtain ⟨ag, hra, hagB, ⟨acur, hah⟩, hac⟩ : ∃ ag, ra = some ⟨ag, 0, none⟩ ∧ W1.heap.size ≤ ag ∧ (∃ cur, W2.heap[ag]? = some (.cells cur 3 (0, 0))) ∧ ∀ j x, r.pgs[j]? = some x → W2.cell? ⟨ag, j, none⟩ = some (.int .i64 ((x : Nat) : Int)) := by
    have hc := fun g hg => hown.cells (g := g) hg
    rcases hown.2 with ⟨e, e'⟩ | ⟨ag, cc, cur, e, e1, e2, e3, _⟩
    · omega
    · injection e with e _ _
      refine ⟨ag, e, e1, ⟨cur, e2⟩, fun j x hj => ?_⟩
      have := hc ag (by rw [e]; rfl) j (.int .i64 ((x : Nat) : Int)) (by simp [nums, hj])
      rw [Go.WideShapes.add_plain, Nat.zero_add] at this
      exact this
  subst hra
  have hfa : W2.frozen? ⟨ag, p, none⟩ = false := by simp [World.frozen?, hah]
  have hla := heap_lt hah
  obtain ⟨xp, hxp⟩ : ∃ xp, r.pgs[p]? = some xp := ⟨_, List.getElem?_eq_getElem hpl⟩
  have hcp := hac p xp hxp
  have HRU : Hid (_) := hrun
  have HB2 : Hid (Below W1.heap.size W1 W2) := hbel2
  have HOW : Hid (_) := hown
  have HAG : Hid (W1.heap.size ≤ ag) := hagB
  have H2 : Hid (Fam base W2 fB rs (nx + 1)) := H1.out.keep (keepB hB1 hbel2) (by simp)
  clear hrun hbel2 hown hagB hac hxp hI hah
  go_upto_region 3 with (at_builtin; refine wpList_append_run _ _ 23 rfl rfl _ _ _ _ rfl rfl HRU.out ?_)
  clear c0 c1 lf fz1 fz0 hgl g0 g1 g2 hfzg HRU
  obtain ⟨g3, cap3, c0, c1, lf, -, -, -, -, -, hgl, -, -, -, -, -, -⟩ := H2.out.at_ HR.out
  go_upto_region 6 with fail
  have hbel3 : Below W1.heap.size W1 (W2.setCell ⟨ag, p, none⟩ (.int .i64 ((nx : Int) + 1))) := HB2.out.setCell HAG.out _
  have H3 : Hid (Fam base (W2.setCell ⟨ag, p, none⟩ (.int .i64 ((nx : Int) + 1))) fB rs (nx + 1)) := H1.out.keep (keepB hB1 hbel3) (by simp)
  have HO3 : Hid (_) := own_put HOW.out (.int .i64 ((nx : Int) + 1)) hpl
  have HK3 : Hid (Keep [] base W1 (W2.setCell ⟨ag, p, none⟩ (.int .i64 ((nx : Int) + 1)))) := keepB hB1 hbel3
  clear c0 c1 lf hgl hbel3 H1 H2 HB2 HAG HOW hcp hla hfa
  generalize W2.setCell ⟨ag, p, none⟩ (.int .i64 ((nx : Int) + 1)) = W3 at *
  obtain ⟨g4, cap4, c0, c1, lf, -, -, -, -, -, hgl, g0, g1, -, hfzg, -, -⟩ := H3.out.at_ HR.out
  have hI3 : Ints base W3 (.slice (some ⟨ag, 0, none⟩) r.pgs.length rcap) (r.pgs.set p (nx + 1)) := by
    refine Ints.own (B := W1.heap.size) (l := r.pgs.set p (nx + 1)) (n := r.pgs.length) ?_ (by simp)
    have := HO3.out
    rw [show (nums r.pgs).set p (.int .i64 ((nx : Int) + 1)) = (r.pgs.set p (nx + 1)).map fun x => Value.int .i64 ((x : Nat) : Int) by simp [nums, List.map_set]] at this
    exact this
  have hk3 := (H3.out.book b r HR.out)
  have hput := H3.out.put HR.out (r' := withP r (r.pgs.set p (nx + 1)) (.slice (some ⟨ag, 0, none⟩) r.pgs.length rcap)) c0 _ (rcells_P _ _ _ _ _ HR.out) ⟨hk3.1, hI3, hk3.2.2.1, by unfold withP; simp; exact k4⟩
  have HPUT : Hid (_) := hput
  clear hput hk3 hI3 H3 HO3
  go_wp2_with fail
  go_end0
  exact ⟨rfl, _, HPUT.out.1, ((HK1.out.mono (by simp)).trans (HK3.out.mono (by simp))).trans (HPUT.out.2.mono (by simp))⟩
set_option maxRecDepth 100000 in
set_option maxHeartbeats 4000000 in
theorem own_new (h : Fam base w fB rs nx) (hnx : nx ≤ 100000) (hB : base ≤ w.heap.size) {b : Nat} {r : Rb} (hr : rs[b]? = some r) (hlt : r.pgs.length < 1000) :
    Calls Try.prog 46 #[.pointer (some ⟨fB, 0, none⟩), .int .i64 (b : Int), .int .i64 (r.pgs.length : Int)] w fun e w' => e = .returned (.tuple #[]) ∧ ∃ v', Fam base w' fB (rs.set b (withP r (r.pgs ++ [nx + 1]) v')) (nx + 1) ∧ Keep [58, 55] base w w' := by
  obtain ⟨g, cap, c0, c1, lf, fz1, fz0, hbl, hcap, -, hgl, g0, g1, g2, -, -, -⟩ := h.at_ hr
  obtain ⟨k1, k2, k3, k4⟩ := h.book b r hr
  obtain ⟨pa, pc, e1, -⟩ := k2
  rw [e1] at g1
  have hfew := h.few
  have H : Hid (Fam base w fB rs nx) := h
  have HR : Hid (rs[b]? = some r) := hr
  have HE : Hid (r.vP = .slice pa r.pgs.length pc) := e1
  have hbl' : (b : Int) < (rs.length : Int) := by omega
  clear h k1 k3 e1
  go_enter Try.func46, Try.ntmps46
  go_upto_region 2 with fail
  have hn := H.out.next (nx + 1)
  rw [show ((nx + 1 : Nat) : Int) = (nx : Int) + 1 from rfl] at hn
  have HK1 : Hid (_) := hn.2
  have hB1 : base ≤ (w.setCell ⟨fB, 1, none⟩ (.int .i64 ((nx : Int) + 1))).heap.size := Nat.le_trans hB hn.2.size
  have H1 : Hid (Fam base (w.setCell ⟨fB, 1, none⟩ (.int .i64 ((nx : Int) + 1))) fB rs (nx + 1)) := hn.1
  clear hn H c0 c1 lf fz1 fz0 hgl g0 g1 g2
  generalize w.setCell ⟨fB, 1, none⟩ (.int .i64 ((nx : Int) + 1)) = W1 at *
  obtain ⟨g', cap', c0, c1, lf, fz1, fz0, -, hcap', -, hgl, g0, g1, g2, hfzg, -, -⟩ := H1.out.at_ HR.out
  have hI := (H1.out.book b r HR.out).2.1
  rw [HE.out] at g1 hI
  obtain ⟨ra, rcap, W2, hrun, hown, hbel2⟩ := hI.copy k4 23
  have HRU : Hid (_) := hrun
  have HB2 : Hid (Below W1.heap.size W1 W2) := hbel2
  have HOW : Hid (W2.ownsRow W1.heap.size 3 1 (.slice ra r.pgs.length rcap) r.pgs.length (nums r.pgs)) := hown
  have H2 : Hid (Fam base W2 fB rs (nx + 1)) := H1.out.keep (keepB hB1 hbel2) (by simp)
  clear hrun hbel2 hown hI
  go_upto_region 3 with (at_builtin; refine wpList_append_run _ _ 23 rfl rfl _ _ _ _ rfl rfl HRU.out ?_)
  clear c0 c1 lf fz1 fz0 hgl g0 g1 g2 hfzg HRU
  obtain ⟨g3, cap3, c0, c1, lf, -, -, -, -, -, hgl, -, -, -, -, -, -⟩ := H2.out.at_ HR.out
  obtain ⟨rb, rcap3, W3, hrun3, hown3, hbel3⟩ := nums_push HOW.out HB2.out.size (by omega) (nx + 1) 23
  rw [show ((nx + 1 : Nat) : Int) = (nx : Int) + 1 from rfl] at hrun3 c1
  have HRU3 : Hid (_) := hrun3
  have hbel4 := HB2.out.trans hbel3
  have H3 : Hid (Fam base W3 fB rs (nx + 1)) := H1.out.keep (keepB hB1 hbel4) (by simp)
  have HK3 : Hid (Keep [] base W1 W3) := keepB hB1 hbel4
  have HO3 : Hid (W3.ownsRow W1.heap.size 3 1 (.slice rb (r.pgs.length + 1) rcap3) (r.pgs.length + 1) (nums (r.pgs ++ [nx + 1]))) := hown3
  clear hrun3 hown3 hbel3 hbel4 HB2 HOW H2 H1
  go_upto_region 6 with (at_builtin; refine wpList_append_run _ _ 23 rfl rfl _ _ _ _ rfl rfl HRU3.out ?_)
  clear c0 c1 lf hgl HRU3
  obtain ⟨g4, cap4, c0, c1, lf, -, -, -, -, -, hgl, g0, g1, -, hfzg, -, -⟩ := H3.out.at_ HR.out
  have hI3 : Ints base W3 (.slice rb (r.pgs.length + 1) rcap3) (r.pgs ++ [nx + 1]) := Ints.own (B := W1.heap.size) HO3.out (by simp)
  have hk3 := (H3.out.book b r HR.out)
  have hput := H3.out.put HR.out (r' := withP r (r.pgs ++ [nx + 1]) (.slice rb (r.pgs.length + 1) rcap3)) c0 _ (rcells_P _ _ _ _ _ HR.out) ⟨hk3.1, hI3, hk3.2.2.1, by unfold withP; simp; omega⟩
  have HPUT : Hid (_) := hput
  clear hput hk3 hI3 H3 HO3
  rw [HE.out] at g1
  go_wp2_with fail
  go_end0
  exact ⟨rfl, _, HPUT.out.1, ((HK1.out.mono (by simp)).trans (HK3.out.mono (by simp))).trans (HPUT.out.2.mono (by simp))⟩
end
end Go.Proofs.Ytmipgpkeegggpaa.P
