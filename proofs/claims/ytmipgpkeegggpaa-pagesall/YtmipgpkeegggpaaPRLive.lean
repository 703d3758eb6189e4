-- PROVED: the reference's Live.
import Derived.Test.YtmipgpkeegggpaaPRDrop
import Derived.Deep.QuietTactic
import Derived.BigQuiet
namespace Go.Proofs.Ytmipgpkeegggpaa.P
open Go.RowKit
set_option linter.unusedVariables false
/-- Numbers of pages that were met: of the books ahead of i, and the first k of book i. -/
def Met' (rs : List Rb) (i k : Nat) (x : Nat) : Prop := (∃ i' r, i' < i ∧ rs[i']? = some r ∧ x ∈ r.pgs) ∨ ∃ r, rs[i]? = some r ∧ x ∈ r.pgs.take k
structure Seen (rs : List Rb) (i k : Nat) (S : List Nat) : Prop where
  nod : S.Nodup
  mem : ∀ x, x ∈ S ↔ Met' rs i k x
  few : S.length ≤ 1000 * i + k
def rall (rs : List Rb) : List Nat := rs.flatMap (·.pgs)
def rlive (rs : List Rb) : Nat := dist (rall rs)
theorem Seen.start (rs : List Rb) : Seen rs 0 0 [] := ⟨List.nodup_nil, fun x => by
  constructor
  · intro h; simp at h
  · rintro (⟨i', r, h, _⟩ | ⟨r, _, h⟩)
    · omega
    · simp at h, by simp⟩
theorem Seen.next {rs : List Rb} {i : Nat} {S : List Nat} {r : Rb} (h : Seen rs i r.pgs.length S) (hr : rs[i]? = some r) (hl : r.pgs.length ≤ 1000) : Seen rs (i + 1) 0 S := ⟨h.nod, fun x => by
  rw [h.mem]
  unfold Met'
  constructor
  · rintro (⟨i', r', h1, h2, h3⟩ | ⟨r', h2, h3⟩)
    · exact .inl ⟨i', r', by omega, h2, h3⟩
    · rw [hr] at h2; cases h2; exact .inl ⟨i, r, by omega, hr, List.mem_of_mem_take h3⟩
  · rintro (⟨i', r', h1, h2, h3⟩ | ⟨r', h2, h3⟩)
    · by_cases e : i' = i
      · subst e; rw [hr] at h2; cases h2; exact .inr ⟨r, hr, by rw [List.take_of_length_le (Nat.le_refl _)]; exact h3⟩
      · exact .inl ⟨i', r', by omega, h2, h3⟩
    · simp at h3, by have := h.few; omega⟩
theorem take_snoc_mem {l : List Nat} {k x y : Nat} (h : l[k]? = some x) : y ∈ l.take (k + 1) ↔ y ∈ l.take k ∨ y = x := by
  rw [List.take_add_one, h]; simp
theorem Seen.old {rs : List Rb} {i k x : Nat} {S : List Nat} {r : Rb} (h : Seen rs i k S) (hr : rs[i]? = some r) (hx : r.pgs[k]? = some x) (hm : x ∈ S) : Seen rs i (k + 1) S := ⟨h.nod, fun y => by
  rw [h.mem]
  unfold Met'
  constructor
  · rintro (h1 | ⟨r', h2, h3⟩)
    · exact .inl h1
    · rw [hr] at h2; cases h2; exact .inr ⟨r, hr, (take_snoc_mem hx).2 (.inl h3)⟩
  · rintro (h1 | ⟨r', h2, h3⟩)
    · exact .inl h1
    · rw [hr] at h2; cases h2
      rcases (take_snoc_mem hx).1 h3 with h4 | rfl
      · exact .inr ⟨r, hr, h4⟩
      · exact (h.mem y).1 hm, by have := h.few; omega⟩
theorem Seen.new {rs : List Rb} {i k x : Nat} {S : List Nat} {r : Rb} (h : Seen rs i k S) (hr : rs[i]? = some r) (hx : r.pgs[k]? = some x) (hm : x ∉ S) : Seen rs i (k + 1) (S ++ [x]) := ⟨by
    rw [List.nodup_append]
    exact ⟨h.nod, by simp, fun a ha b hb => by simp at hb; subst hb; exact fun e => hm (e ▸ ha)⟩, fun y => by
  rw [List.mem_append, h.mem]
  unfold Met'
  constructor
  · rintro ((h1 | ⟨r', h2, h3⟩) | h4)
    · exact .inl h1
    · rw [hr] at h2; cases h2; exact .inr ⟨r, hr, (take_snoc_mem hx).2 (.inl h3)⟩
    · simp at h4; exact .inr ⟨r, hr, (take_snoc_mem hx).2 (.inr h4)⟩
  · rintro (h1 | ⟨r', h2, h3⟩)
    · exact .inl (.inl h1)
    · rw [hr] at h2; cases h2
      rcases (take_snoc_mem hx).1 h3 with h4 | rfl
      · exact .inl (.inr ⟨r, hr, h4⟩)
      · exact .inr (by simp), by have := h.few; simp; omega⟩
theorem Seen.all {rs : List Rb} {S : List Nat} (h : Seen rs rs.length 0 S) : S.length = rlive rs := by
  unfold rlive
  rw [← dist_nodup h.nod]
  refine dist_congr _ _ fun x => ?_
  rw [h.mem]
  unfold Met' rall
  rw [List.mem_flatMap]
  constructor
  · rintro (⟨i, r, _, h2, h3⟩ | ⟨r, _, h3⟩)
    · exact ⟨r, List.mem_of_getElem? h2, h3⟩
    · simp at h3
  · rintro ⟨r, h1, h2⟩
    obtain ⟨i, hi⟩ := List.mem_iff_getElem?.1 h1
    exact .inl ⟨i, r, (List.getElem?_eq_some_iff.1 hi).1, hi, h2⟩
theorem below_drewN {B : Nat} {a w : World} (h : Below B a w) : ∀ n, Below B a (w.drewN n) := fun n => by
  induction n with
  | zero => exact h
  | succ n ih => exact ih.drew
section
variable {base fB nx : Nat} {w : World} {rs : List Rb}
set_option maxRecDepth 100000 in
set_option maxHeartbeats 4000000 in
theorem rlive_any (h : Fam base w fB rs nx) (hB : base ≤ w.heap.size) :
    Calls Try.prog 49 #[.pointer (some ⟨fB, 0, none⟩)] w fun e w' => e = .returned (.int .i64 (rlive rs : Int)) ∧ Below w.heap.size w w' := by
  obtain ⟨v, h1, h2⟩ := h.fam
  obtain ⟨va, vcap, rfl⟩ : ∃ a cap, v = .slice a rs.length cap := by
    rcases h2.2 with ⟨h4, h5⟩ | ⟨g, cap, cur, h4, _⟩
    · exact ⟨none, 0, by rw [h4, h5]⟩
    · exact ⟨_, _, h4⟩
  have hfew := h.few
  have H : Hid (Fam base w fB rs nx) := h
  have HV : Hid (w.heap[fB]? = some (.cells #[.slice va rs.length vcap, .int .i64 (nx : Int)] 58 (0, 0))) := h1
  clear h1 h2 h
  go_enter Try.func49, Try.ntmps49
  go_wp2_with fail
  go_loopw [3, 4] (fun s i wr => ∃ (i' : Nat) (S : List Nat) (a : Option Addr) (c : Nat), i = .int .i64 (i' : Int) ∧ s = .slice a S.length c ∧ i' ≤ rs.length ∧ Hid (Seen rs i' 0 S) ∧ Hid (wr.ownsRow w.heap.size 3 1 (.slice a S.length c) S.length (nums S)) ∧ Hid (Below w.heap.size w wr)) (fun _ i _ => rs.length - (intOf i).toNat)
  case atStart => exact ⟨0, [], none, 0, rfl, rfl, by omega, Seen.start rs, World.ownsRow_nil _ _ _ _, Below.refl _ _⟩
  case round =>
    obtain ⟨i, S, a, cS, rfl, rfl, hi, HSE, HOW, HBL⟩ := hrel
    have hv := (HBL.out.block _ (heap_lt HV.out)).trans HV.out
    have f0 := cellsOf hv 0
    simp at f0
    have lf := heap_lt hv
    by_cases hlt : i < rs.length
    · have hlt' : (i : Int) < (rs.length : Int) := by omega
      obtain ⟨r, hr⟩ : ∃ r, rs[i]? = some r := ⟨_, List.getElem?_eq_getElem hlt⟩
      have HR : Hid (rs[i]? = some r) := hr
      have hpl := (H.out.book i r hr).2.2.2
      obtain ⟨pa, pcap, hvp, -⟩ := (H.out.book i r hr).2.1
      have HVP : Hid (r.vP = .slice pa r.pgs.length pcap) := hvp
      clear hr hvp hv
      go_wp2_with fail
      go_loopw [3, 5] (fun s k wr => ∃ (k' : Nat) (S : List Nat) (a : Option Addr) (c : Nat), k = .int .i64 (k' : Int) ∧ s = .slice a S.length c ∧ k' ≤ r.pgs.length ∧ Hid (Seen rs i k' S) ∧ Hid (wr.ownsRow w.heap.size 3 1 (.slice a S.length c) S.length (nums S)) ∧ Hid (Below w.heap.size w wr)) (fun _ k _ => r.pgs.length - (intOf k).toNat)
      case atStart => exact ⟨0, S, a, cS, rfl, rfl, by omega, HSE, HOW, HBL⟩
      case round =>
        clear HSE HOW HBL f0 lf
        obtain ⟨k, S, a, cS, rfl, rfl, hk, HSE, HOW, HBL⟩ := hrel
        have H2 := H.out.keep (keepB hB HBL.out) (by simp)
        obtain ⟨g, cap, e0, -, lf, -, -, -, hcap, -, hgl, -, c1, -⟩ := H2.at_ HR.out
        have hv := (HBL.out.block _ (heap_lt HV.out)).trans HV.out
        have f0 : wr.cell? ⟨fB, 0, none⟩ = some (.slice va rs.length vcap) := cellsOf hv 0
        rw [f0] at e0
        injection e0 with e0
        injection e0 with e0 x1 x2
        subst e0
        clear x1 x2 hv
        rw [HVP.out] at c1
        have HP2 : Hid (Ints base wr r.vP r.pgs) := (H2.book i r HR.out).2.1
        clear H2
        by_cases hlk : k < r.pgs.length
        · have hlk' : (k : Int) < (r.pgs.length : Int) := by omega
          obtain ⟨x, hx⟩ : ∃ x, r.pgs[k]? = some x := ⟨_, List.getElem?_eq_getElem hlk⟩
          obtain ⟨bb, off, cc, e1, -, hbl, hcl⟩ := HP2.out.at_ hx
          rw [HVP.out] at e1
          injection e1 with e1 x1 x2
          subst e1
          clear x1 x2
          have HX : Hid (r.pgs[k]? = some x) := hx
          have hSf := HSE.out.few
          clear hx HP2
          have HC : Hid (∀ j y, S[j]? = some y → ∃ sg, a = some ⟨sg, 0, none⟩ ∧ sg < wr.heap.size ∧ wr.cell? ⟨sg, j, none⟩ = some (.int .i64 ((y : Nat) : Int))) := fun j y hj => by
            have hjl := (List.getElem?_eq_some_iff.1 hj).1
            have hc := fun g hg => HOW.out.cells (g := g) hg
            rcases HOW.out.2 with ⟨e, e'⟩ | ⟨sg, cc, cur, e, e1, e2, e3, _⟩
            · omega
            · injection e with e _ _
              refine ⟨sg, e, heap_lt e2, ?_⟩
              have := hc sg (by rw [e]; rfl) j (.int .i64 ((y : Nat) : Int)) (by simp [nums, hj])
              rw [Go.WideShapes.add_plain, Nat.zero_add] at this
              exact this
          have hSl : S.length ≤ 2000000 := by omega
          generalize wr = W2 at *
          go_wp2_with fail
          go_loopw [6, 7] (fun is j wz => ∃ (j' : Nat) (B : Bool), j = .int .i64 (j' : Int) ∧ is = .bool B ∧ j' ≤ S.length ∧ Hid (B = decide (x ∈ S.take j')) ∧ Hid (Below W2.heap.size W2 wz)) (fun _ j _ => S.length - (intOf j).toNat)
          case atStart => exact ⟨0, false, rfl, rfl, by omega, by simp [Hid], Below.refl _ _⟩
          case round =>
            obtain ⟨j, B, rfl, rfl, hj, HBB, HBZ⟩ := hrel
            have f0' : wr.cell? ⟨fB, 0, none⟩ = some (.slice (some ⟨g, 0, none⟩) rs.length vcap) := (HBZ.out.cell (p := ⟨fB, 0, none⟩) lf).trans f0
            have c1' : wr.cell? ⟨g, i * 3 + 1, none⟩ = some (.slice (some ⟨bb, off, none⟩) r.pgs.length pcap) := (HBZ.out.cell (p := ⟨g, i * 3 + 1, none⟩) hgl).trans c1
            have hcl' : wr.cell? ⟨bb, off + k, none⟩ = some (.int .i64 (x : Int)) := (HBZ.out.cell (p := ⟨bb, off + k, none⟩) hbl).trans hcl
            by_cases hlj : j < S.length
            · have hlj' : (j : Int) < (S.length : Int) := by omega
              obtain ⟨y, hy⟩ : ∃ y, S[j]? = some y := ⟨_, List.getElem?_eq_getElem hlj⟩
              obtain ⟨sg, hsg, hsl, hsc⟩ := HC.out j y hy
              have hsc' : wr.cell? ⟨sg, j, none⟩ = some (.int .i64 (y : Int)) := (HBZ.out.cell (p := ⟨sg, j, none⟩) hsl).trans hsc
              have HT : Hid (decide (x ∈ S.take (j + 1)) = (decide (x ∈ S.take j) || decide (y = x))) := (by
                have := take_snoc_mem (y := x) hy
                show decide _ = _
                rw [Bool.eq_iff_iff]
                simp only [Bool.or_eq_true, decide_eq_true_eq]
                rw [this]
                exact or_congr Iff.rfl ⟨fun e => e.symm, fun e => e.symm⟩)
              subst hsg
              clear hy hsc HC f0 c1 hcl
              cases B
              · by_cases hyx : y = x
                · subst hyx
                  go_wp2_with fail
                  go_quiet (fail)
                  go_wp2_with fail
                  go_roundw
                  case rel => exact ⟨j + 1, true, by go_num, rfl, by omega, (show _ = _ from by rw [HT.out, ← HBB.out]; simp), below_drewN HBZ.out _⟩
                  case measure => simp [intOf]; omega
                · have hyx' : ¬ (y : Int) = (x : Int) := by omega
                  have hyx2 : ((y : Int) == (x : Int)) = false := by simpa using hyx'
                  go_wp2_with fail
                  go_quiet (fail)
                  go_wp2_with fail
                  go_roundw
                  case rel => exact ⟨j + 1, false, by go_num, rfl, by omega, (show _ = _ from by rw [HT.out, ← HBB.out]; simp [hyx]), below_drewN HBZ.out _⟩
                  case measure => simp [intOf]; omega
              · go_wp2_with fail
                go_quiet (fail)
                go_wp2_with fail
                go_roundw
                case rel => exact ⟨j + 1, true, by go_num, rfl, by omega, (show _ = _ from by rw [HT.out, ← HBB.out]; simp), below_drewN HBZ.out _⟩
                case measure => simp [intOf]; omega
            · have hj2 : j = S.length := by omega
              have hlj' : ¬ (j : Int) < (S.length : Int) := by omega
              have hBx : B = decide (x ∈ S) := by
                have := HBB.out
                rw [hj2, List.take_of_length_le (Nat.le_refl _)] at this
                exact this
              have HBX : Hid (_) := hBx
              have hBW := Below.chain HBL.out HBZ.out HBL.out.size
              have HBW : Hid (Below w.heap.size w wr) := hBW
              have hOW2 : wr.ownsRow w.heap.size 3 1 (.slice a S.length cS) S.length (nums S) := own_same HOW.out fun g cur _ hg => HBZ.out.block g (heap_lt hg)
              have HOW2 : Hid (_) := hOW2
              clear hBx
              cases B
              · have hns : x ∉ S := by have := HBX.out; simpa using this
                obtain ⟨na, ncap, W5, hrun, hown5, hbel5⟩ := nums_push hOW2 hBW.size (by omega) x 23
                have HRU : Hid (_) := hrun
                have HSN : Hid (Seen rs i (k + 1) (S ++ [x])) := HSE.out.new HR.out HX.out hns
                have HO5 : Hid (W5.ownsRow w.heap.size 3 1 (.slice na (S ++ [x]).length ncap) (S ++ [x]).length (nums (S ++ [x]))) := (show World.ownsRow _ _ _ _ _ _ _ from by rw [List.length_append]; exact hown5)
                have HB5 : Hid (Below w.heap.size w W5) := hBW.trans hbel5
                clear hrun hown5 hbel5 hBW hOW2 hns
                go_wp2_with (at_builtin; refine wpList_append_run _ _ 23 rfl rfl _ _ _ _ rfl rfl HRU.out ?_)
                go_roundw
                case rel => exact ⟨k + 1, S ++ [x], na, ncap, by go_num, by simp, by omega, HSN, HO5, HB5⟩
                case measure => simp [intOf]; omega
              · have hns : x ∈ S := by have := HBX.out; simpa using this
                have HSN : Hid (Seen rs i (k + 1) S) := HSE.out.old HR.out HX.out hns
                clear hBW hOW2 hns
                go_wp2_with fail
                go_roundw
                case rel => exact ⟨k + 1, S, a, cS, by go_num, rfl, by omega, HSN, HOW2, HBW⟩
                case measure => simp [intOf]; omega
        · have hk2 : k = r.pgs.length := by omega
          have hlk' : ¬ (k : Int) < (r.pgs.length : Int) := by omega
          have HN : Hid (Seen rs (i + 1) 0 S) := (hk2 ▸ HSE.out).next HR.out hpl
          go_wp2_with fail
          go_roundw
          case rel => exact ⟨i + 1, S, a, cS, by go_num, rfl, by omega, HN, HOW, HBL⟩
          case measure => simp [intOf]; omega
    · have hi2 : i = rs.length := by omega
      have hlt' : ¬ (i : Int) < (rs.length : Int) := by omega
      have hse := (hi2 ▸ HSE.out).all
      have hlen : (S.length : Int) = (rlive rs : Int) := by rw [hse]
      have HL : Hid (_) := hlen
      have hSf := HSE.out.few
      clear hse hlen hv
      go_wp2_with fail
      go_ret
      exact ⟨by rw [← HL.out]; rfl, HBL.out⟩
end
end Go.Proofs.Ytmipgpkeegggpaa.P
