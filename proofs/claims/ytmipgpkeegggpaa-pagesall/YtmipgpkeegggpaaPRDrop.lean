-- PROVED: the reference's Drop and Live.
import Derived.Test.YtmipgpkeegggpaaPRSet
import Derived.Deep.RegionHeld3
namespace Go.Proofs.Ytmipgpkeegggpaa.P
open Go.RowKit
set_option linter.unusedVariables false
section
variable {base fB nx : Nat} {w : World} {rs : List Rb}
theorem Fam.drop {g cap : Nat} (h : Fam base w fB rs nx) {i : Nat} {r : Rb} (hr : rs[i]? = some r) (hv : w.cell? ⟨fB, 0, none⟩ = some (.slice (some ⟨g, 0, none⟩) rs.length cap)) :
    Fam base (((w.setCell ⟨g, i * 3, none⟩ (.slice none 0 0)).setCell ⟨g, i * 3 + 1, none⟩ (.slice none 0 0)).setCell ⟨g, i * 3 + 2, none⟩ (.bool true)) fB (rs.set i (goneR r)) nx ∧ Keep [55] base w (((w.setCell ⟨g, i * 3, none⟩ (.slice none 0 0)).setCell ⟨g, i * 3 + 1, none⟩ (.slice none 0 0)).setCell ⟨g, i * 3 + 2, none⟩ (.bool true)) := by
  obtain ⟨g', cap', e0, _, _, _, _, hl, _, hbg, hgl, _, _, _, _, ⟨cur, hcur⟩, hown⟩ := h.at_ hr
  rw [hv] at e0
  injection e0 with e0
  injection e0 with e0 e1 e2
  injection e0 with e0
  injection e0 with e0 _ _
  subst e0 e2
  obtain ⟨v, h1, h2⟩ := h.fam
  have q0 := Lib.heap_setCell_same (i := i * 3) hcur (.slice none 0 0)
  have q1 := Lib.heap_setCell_same (i := i * 3 + 1) q0 (.slice none 0 0)
  have kk : Keep [55] base w (((w.setCell ⟨g, i * 3, none⟩ (.slice none 0 0)).setCell ⟨g, i * 3 + 1, none⟩ (.slice none 0 0)).setCell ⟨g, i * 3 + 2, none⟩ (.bool true)) := (((Keep.refl _ _ _).set (p := ⟨g, i * 3, none⟩) hcur (by simp) hbg _).set (p := ⟨g, i * 3 + 1, none⟩) q0 (by simp) hbg _).set (p := ⟨g, i * 3 + 2, none⟩) q1 (by simp) hbg _
  have hvv : v = .slice (some ⟨g, 0, none⟩) rs.length cap := by
    have := cellsOf h1 0
    rw [hv] at this
    simp at this
    exact this.symm
  subst hvv
  refine ⟨⟨h.low, ⟨_, (kk.same _ _ _ _ h1 (by simp)).trans h1, ?_⟩, fun j c hc' => ?_, by rw [List.length_set]; exact h.few⟩, kk⟩
  · rw [rcells_G _ _ _ hr, List.length_set]; exact own_put3 (own_put3 (own_put3 hown _) _) _
  · rcases rget_set hr hc' with ⟨rfl, rfl⟩ | ⟨_, h7⟩
    · exact ⟨Cells.nil _ _, Ints.nil _ _, by simp [goneR], by simp [goneR]⟩
    · obtain ⟨g1, g2, g3⟩ := h.book j c h7
      exact ⟨g1.keep kk (by simp) (by simp [Mine]), g2.keep kk (by simp), g3⟩
set_option maxRecDepth 100000 in
set_option maxHeartbeats 4000000 in
theorem rdrop_any (h : Fam base w fB rs nx) {b : Nat} {r : Rb} (hr : rs[b]? = some r) :
    Calls Try.prog 33 #[.pointer (some ⟨fB, 0, none⟩), .int .i64 (b : Int)] w fun e w' => e = .returned (.tuple #[]) ∧ Fam base w' fB (rs.set b (goneR r)) nx ∧ Keep [55] base w w' := by
  obtain ⟨g, cap, c0, c1, lf, fz1, fz0, hbl, hcap, -, hgl, g0, g1, g2, hfz, -, -⟩ := h.at_ hr
  obtain ⟨ca, cc, e1, -⟩ := (h.book b r hr).1
  obtain ⟨pa, pc, e2, -⟩ := (h.book b r hr).2.1
  rw [e1] at g0
  rw [e2] at g1
  have hfew := h.few
  have hbl' : (b : Int) < (rs.length : Int) := by omega
  have HD : Hid (_) := h.drop hr c0
  clear h e1 e2 hr
  go_enter Try.func33, Try.ntmps33
  go_wp2_with fail
  go_end0
  exact ⟨rfl, HD.out⟩
end
end Go.Proofs.Ytmipgpkeegggpaa.P
