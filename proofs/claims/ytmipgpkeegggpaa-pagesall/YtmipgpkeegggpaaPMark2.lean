-- PROVED: a book is marked, walked (5.2).
import Derived.Test.YtmipgpkeegggpaaPMark
import Derived.Deep.RegionHeld3
namespace Go.Proofs.Ytmipgpkeegggpaa.P
open Go.RowKit
set_option linter.unusedVariables false
theorem Sys.slice {base : Nat} {w : World} {bs : List Bk} (h : Sys base w bs) {i : Nat} {b : Bk} (hb : bs[i]? = some b) : ∃ a cap, b.row = .slice a b.pgs.length cap := by
  obtain ⟨h1, h2, h3⟩ := h.bm.book i b hb
  rcases h3.2 with ⟨h4, h5⟩ | ⟨g, cap, cur, h4, h5, h6, h7, _⟩
  · exact ⟨none, 0, by rw [h4, h5]⟩
  · exact ⟨_, _, h4⟩
def HeldM (A : Nat) (wr : World) (x y z : Value) (W : World) : Prop := W.cell? ⟨A, 1, none⟩ = some x ∧ W.cell? ⟨A, 2, none⟩ = some y ∧ W.cell? ⟨A, 3, none⟩ = some z ∧ Hid (A < W.heap.size) ∧ Hid (Below wr.heap.size wr W)
theorem HeldM.go {A : Nat} {wr : World} {x y z : Value} {W w' : World} (h : HeldM A wr x y z W) (hb : Below W.heap.size W w') : HeldM A wr x y z w' :=
  have hl := h.2.2.2.1.out
  ⟨(hb.cell (p := ⟨A, 1, none⟩) hl).trans h.1, (hb.cell (p := ⟨A, 2, none⟩) hl).trans h.2.1, (hb.cell (p := ⟨A, 3, none⟩) hl).trans h.2.2.1, Nat.lt_of_lt_of_le hl hb.size, Below.chain h.2.2.2.2.out hb h.2.2.2.2.out.size⟩
theorem HeldM.drew {A : Nat} {wr : World} {x y z : Value} {W : World} (h : HeldM A wr x y z W) : HeldM A wr x y z W.drew := h.go (Below.refl _ _).drew
theorem HeldM.alloc {A : Nat} {wr : World} {x y z : Value} {W : World} (h : HeldM A wr x y z W) (o : Obj) : HeldM A wr x y z (W.alloc o) := h.go ((Below.refl _ _).alloc (Nat.le_refl _) _)
set_option maxRecDepth 100000 in
set_option maxHeartbeats 2000000 in
theorem mark_yes {base : Nat} {w : World} {bs : List Bk} (h : Sys base w bs) (hf : bs.length < 1000) {i : Nat} {b : Bk} (hb : bs[i]? = some b) {A : Nat} (hA : b.at_ = A) (ho : b.opn = true) :
    Calls Try.prog 30 #[.pointer (some ⟨A, 0, none⟩)] w fun e w' => ∃ q v, e = .returned (.pointer (some ⟨q, 0, none⟩)) ∧ w.heap.size ≤ q ∧ Sys base w' (bs ++ [{ b with at_ := q, row := v }]) ∧ Keep [90] base w w' := by
  obtain ⟨h1, h2, h3⟩ := h.bm.book i b hb
  obtain ⟨a, cap, hrow⟩ := h.slice hb
  have hlen := h.all i b hb
  rw [ho, hrow, hA] at h2
  have HK2 : Hid (_) := h2
  obtain ⟨b0, b1, b2, b3, f0, f1, f2, f3, lb⟩ := blk4 h2
  have HS : Hid (Sys base w bs) := h
  have HB : Hid (bs[i]? = some b) := hb
  have HR : Hid (b.row = .slice a b.pgs.length cap) := hrow
  have HO : Hid (b.opn = true) := ho
  have HN : Hid (∀ t, t < b.pgs.length → ∃ p, b.pgs[t]? = some p) := fun t ht => ⟨_, List.getElem?_eq_getElem ht⟩
  clear h h1 h2 h3 hb hrow ho hA
  generalize hn : b.pgs.length = n at *
  have HL : Hid (b.pgs.length = n) := hn
  clear hn
  go_enter Try.func30, Try.ntmps30
  go_wp2
  go_loopw [19] (fun i wr => ∃ t : Nat, i = .int .i64 (t : Int) ∧ t ≤ n ∧ Hid (PM base wr (bs ++ [part b t]) (live bs)) ∧ Hid (Keep [90] base w wr)) (fun i _ => n - (intOf i).toNat)
  case atStart => exact ⟨0, rfl, by omega, mark_start HS.out.pm HB.out, Keep.refl _ _ _⟩
  case round =>
    obtain ⟨t, rfl, ht, HP, HK⟩ := hrel
    have e2 := (HK.out.same A _ _ _ HK2.out (by simp)).trans HK2.out
    clear b0 b1 b2 b3 f0 f1 f2 f3 lb
    obtain ⟨b0, b1, b2, b3, f0, f1, f2, f3, lb⟩ := blk4 e2
    clear e2
    by_cases hlt : t < n
    · obtain ⟨p, hp⟩ := HN.out t (by first | exact hlt | (rw [HL.out]; exact hlt))
      obtain ⟨g, cap', k1, k2, k3, k4, k5, k6, k7, arr', k8⟩ := HS.out.row HB.out hp
      obtain ⟨arr, p1, p2, p3, p4⟩ := mark_step HP.out HB.out hp
      have hcb := cnt_le (bs ++ [part b t]) p
      rw [HR.out] at k1
      injection k1 with k1 _ _
      subst k1
      have e3 := HK.out.same g _ _ _ k8 (by simp)
      have c1 : wr.cell? ⟨g, t, none⟩ = some (.pointer (some ⟨p, 0, none⟩)) := (World.cell?_of_block (a := ⟨g, t, none⟩) e3).trans k6
      have c2 := (cellsOf p1 40).trans p2
      have c3 : wr.frozen? ⟨p, 40, none⟩ = false := by simp [World.frozen?, p1]
      have c4 := heap_lt p1
      have c5 : g < wr.heap.size := Nat.lt_of_lt_of_le k5 HK.out.size
      have HP3 : Hid (_) := p3
      have HP4 : Hid (_) := p4
      have c6 : (t : Int) < n := by omega
      have c7 : (cnt (bs ++ [part b t]) p : Int) ≤ 1001 := by simp at hcb; omega
      clear p1 p2 p3 p4 k2 k3 k4 k5 k6 k7 k8 e3 hp hcb HP
      generalize cnt (bs ++ [part b t]) p = C at *
      go_wp2
      go_roundw
      case rel => exact ⟨t + 1, by go_num, by omega, HP3, HK.out.trans HP4.out⟩
      case measure => simp [intOf]; omega
    · have ht2 : t = n := by omega
      subst ht2
      have hz : base ≤ wr.heap.size := Nat.le_trans HS.out.size HK.out.size
      have h3 := ((HS.out.bm.keep HK.out (by simp)).book i b HB.out).2.2
      rw [HR.out] at h3
      have HC : Hid (∀ W, HeldM A wr (.int .i64 (b.len : Int)) (.slice a t cap) (.pointer (some ⟨b.fam, 0, none⟩)) W → Calls Try.prog 48 #[.slice a t cap] W fun e w' => ∃ a' cap', e = .returned (.slice a' t cap') ∧ Hid (w'.ownsRow wr.heap.size 87 1 (.slice a' t cap') t (ptrs b.pgs)) ∧ HeldM A wr (.int .i64 (b.len : Int)) (.slice a t cap) (.pointer (some ⟨b.fam, 0, none⟩)) w') := fun W hS => by
        have hW := hS.2.2.2.2.out
        have ho := own_same h3 (w' := W) fun g cur _ hg => hW.block g (heap_lt hg)
        rw [HL.out] at ho
        rw [← HL.out] at ho hS ⊢
        refine (copyP_any ho (by rw [HL.out]; exact hlen)).mono fun e w' ⟨v', q1, q2, q3⟩ => ?_
        obtain ⟨a', cap', rfl⟩ : ∃ a' cap', v' = .slice a' b.pgs.length cap' := by
          rcases q2.2 with ⟨h4, h5⟩ | ⟨g, cap, cur, h4, h5, h6, h7, _⟩
          · exact ⟨none, 0, by rw [h4, h5]⟩
          · exact ⟨_, _, h4⟩
        refine ⟨a', cap', q1, ⟨q2.1, q2.2.imp id ?_⟩, hS.go q3⟩
        rintro ⟨g, cap, cur, e1, e2, e3⟩
        exact ⟨g, cap, cur, e1, Nat.le_trans hW.size e2, e3⟩
      clear h3
      have hW : HeldM A wr (.int .i64 (b.len : Int)) (.slice a t cap) (.pointer (some ⟨b.fam, 0, none⟩)) wr := ⟨b1, b2, b3, lb, Below.refl _ _⟩
      go_wp2_with fail
      go_region_held3 (fun W => W.cell? ⟨A, 1, none⟩ = some (.int .i64 (b.len : Int)) ∧ W.cell? ⟨A, 2, none⟩ = some (.slice a t cap) ∧ W.cell? ⟨A, 3, none⟩ = some (.pointer (some ⟨b.fam, 0, none⟩)) ∧ Hid (A < W.heap.size) ∧ Hid (Below wr.heap.size wr W)) (first | assumption | exact HeldM.drew (by assumption) | exact HeldM.alloc (by assumption) _) (first | (go_at_call 48; refine Calls.mono (HC.out _ (by assumption)) ?_; rintro e w7 ⟨a', cap', rfl, HO7, hW7⟩))
      have hB7 := hW7.2.2.2.2.out
      have hend := mark_end HS.out HB.out hf (by rw [HL.out]; exact HP.out) HK.out hB7 (by rw [HL.out]; exact HO7.out)
      rw [HO.out] at hend
      have HE : Hid (_) := hend
      clear hend
      go_wp2_with fail
      go_ret
      exact ⟨_, _, rfl, Nat.le_trans HK.out.size hB7.size, by rw [HO.out]; exact HE.out.1, HE.out.2⟩
end Go.Proofs.Ytmipgpkeegggpaa.P
