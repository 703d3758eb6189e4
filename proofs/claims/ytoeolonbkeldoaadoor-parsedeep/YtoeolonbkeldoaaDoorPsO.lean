/- The parser's over by its contract: a node that begins where its first kid does. -/
import Derived.Test.YtoeolonbkeldoaaDoorPsN
import Derived.BigRegion
namespace Go.Proofs.YtoeolonbkeldoaaDoor.R
open Go.RowKit
open L (TokAt tkA own_block own_below cells5h cells5 info_of)
set_option linter.unusedVariables false
theorem ndCells_at : ∀ (vs : List (Ps.Nd × Value × Value)) (j : Nat) (h : j < vs.length), (ndCells vs)[j * 6 + 5]? = some (.int .i64 (vs[j].1.a : Int))
  | [], j, h => by simp at h
  | x :: vs, 0, h => by
    rw [show ndCells (x :: vs) = (ndA x.1 x.2.1 x.2.2).toList ++ ndCells vs from rfl, List.getElem?_append_left (by simp)]
    rfl
  | x :: vs, j + 1, h => by
    have ih := ndCells_at vs j (by simpa using h)
    rw [show ndCells (x :: vs) = (ndA x.1 x.2.1 x.2.2).toList ++ ndCells vs from rfl, List.getElem?_append_right (by simp; omega)]
    rw [show (j + 1) * 6 + 5 - (ndA x.1 x.2.1 x.2.2).toList.length = j * 6 + 5 by simp; omega]
    simpa using ih
/-- A node's place, where it lies. -/
theorem RS.place {F : Nat → Prop} {base B dep : Nat} {st : Ps.St} {nv : Value} {W : World} (h : RS F base B dep st nv W) {j : Nat} (hj : j < st.nodes.length) : ∃ gn cap, nv = .slice (some ⟨gn, 0, none⟩) st.nodes.length cap ∧ st.nodes.length ≤ cap ∧ gn < W.heap.size ∧ W.cell? ⟨gn, j * 6 + 5, none⟩ = some (.int .i64 ((st.nodes.getD j {}).a : Int)) := by
  obtain ⟨vs, e, ho, -⟩ := h.nd
  have hl : vs.length = st.nodes.length := by rw [← e, List.length_map]
  rcases ho.2 with ⟨_, h0⟩ | ⟨g, cap, cur, hv, hb, hg, hcap, hcs, hm, ht⟩
  · omega
  · have hgl : g < W.heap.size := Nat.lt_of_not_le fun hge => by rw [Array.getElem?_eq_none hge] at hg; cases hg
    refine ⟨g, cap, by rw [hv, hl], by omega, hgl, ?_⟩
    have hj' : j < vs.length := by omega
    have hc : W.cell? ⟨g, j * 6 + 5, none⟩ = (ndCells vs)[j * 6 + 5]? := by
      subst hv
      exact ho.cellAt (j * 6 + 5) (by omega)
    rw [hc, ndCells_at vs j hj']
    have : st.nodes.getD j {} = vs[j].1 := by
      rw [← e, List.getD_eq_getElem?_getD, List.getElem?_map, List.getElem?_eq_getElem hj']; rfl
    rw [this]
theorem over_eq (n : Ps.Nd) (k0 : Nat) (K : List Nat) (st : Ps.St) : (Ps.over n (k0 :: K) st).2 = (Ps.add { n with kids := k0 :: K, a := (st.nodes.getD k0 {}).a } st).2 := rfl
set_option maxRecDepth 100000 in
set_option maxHeartbeats 4000000 in
theorem over_any {F : Nat → Prop} {base B dep : Nat} {st : Ps.St} {nv : Value} {w : World} (h : RS F base B dep st nv w) (hlen : st.nodes.length ≤ 1000000000) (k : Nat) (t : List UInt8) (k0 : Nat) (K : List Nat) (g cap : Nat) (hcap : (k0 :: K).length ≤ cap) (hg : g < w.heap.size)
    (hc : ∀ j (h : j < (k0 :: K).length), w.cell? ⟨g, j, none⟩ = some (.int .i64 (((k0 :: K)[j] : Nat) : Int))) (hap : Apart F B nv (.slice (some ⟨g, 0, none⟩) (k0 :: K).length cap)) (hk0 : k0 < st.nodes.length) :
    Calls Tryd.prog 71 #[.pointer (some ⟨B, 0, none⟩), .agg #[.int .i64 (k : Int), .int .i64 0, .string ⟨t.toArray⟩, .slice none 0 0, .slice none 0 0, .int .i64 0], .slice (some ⟨g, 0, none⟩) (k0 :: K).length cap] w fun e w' => e = .returned (.int .i64 (st.nodes.length : Int)) ∧ Leaves F base B dep nv w (Ps.over { k := k, t := t } (k0 :: K) st).2 w' := by
  rw [over_eq]
  obtain ⟨q1, q2, q3, q4, f2, hlt⟩ := (show w.cell? ⟨B, 1, none⟩ = some nv ∧ w.cell? ⟨B, 2, none⟩ = some (.int .i64 (dep : Int)) ∧ w.cell? ⟨B, 3, none⟩ = some (.bool st.failed) ∧ w.cell? ⟨B, 4, none⟩ = some (.int .i64 (st.at_ : Int)) ∧ w.frozen? ⟨B, 2, none⟩ = false ∧ B < w.heap.size from by
    obtain ⟨tv, h1, -, -⟩ := h.rd
    obtain ⟨q0, q1, q2, q3, q4, f0, f1, f2, f3, f4, hlt⟩ := cells5h h1
    exact ⟨q1, q2, q3, q4, f2, hlt⟩)
  obtain ⟨gn, ncap, hnv, hncap, hgn, hpl⟩ := h.place hk0
  have hc0 := hc 0 (by simp)
  have hkids : KidsIn w (.slice (some ⟨g, 0, none⟩) (k0 :: K).length cap) (k0 :: K) := ⟨_, _, rfl, hcap, .inr ⟨g, rfl, hg, hc⟩⟩
  generalize hA : (st.nodes.getD k0 {}).a = A at *
  have HADD : Hid (∀ W, Below w.heap.size w W → Calls Tryd.prog 15 #[.pointer (some ⟨B, 0, none⟩), .agg #[.int .i64 (k : Int), .int .i64 0, .string ⟨t.toArray⟩, .slice none 0 0, .slice (some ⟨g, 0, none⟩) (k0 :: K).length cap, .int .i64 (A : Int)]] W fun e w' => e = .returned (.int .i64 (st.nodes.length : Int)) ∧ Leaves F base B dep nv w (Ps.add { k := k, t := t, kids := k0 :: K, a := A } st).2 w') := fun W hW => by
    have hW' := h.below hW
    have c := Chg.below (B := B) nv hW
    have hadd := add_any hW' hW'.hbw hlen { k := k, t := t, kids := k0 :: K, a := A } nil0 (.slice (some ⟨g, 0, none⟩) (k0 :: K).length cap) ⟨⟨none, 0, rfl, Nat.le_refl _, .inl rfl⟩, hkids.go hap c, (fun _ h => nomatch h), hap, (fun _ h => nomatch h), fun j hj => by
      have : g = j := by simpa [blockOf] using hj
      have := hW.size
      omega⟩ rfl rfl
    refine hadd.mono ?_
    rintro e w' ⟨rfl, nv', hr, hc'⟩
    exact ⟨rfl, nv', hr, c.trans hc'⟩
  have hi0 : (0 : Int) < (k0 :: K).length := by rw [List.length_cons]; omega
  have hk0' : (k0 : Int) < st.nodes.length := by omega
  have hk00 : (0 : Int) ≤ k0 := by omega
  simp only [List.getElem_cons_zero] at hc0
  have hgB : gn < w.heap.size := hgn
  clear h hlen hc hap hkids hk0
  generalize (k0 :: K).length = kl at *
  generalize st.nodes.length = nl at *
  subst hnv
  go_enter Tryd.func71, Tryd.ntmps71
  go_wp2_with fail
  go_region
  all_goals
    go_wp2_with fail
    refine Calls.mono (HADD.out _ (by repeat (first | with_reducible exact Below.refl _ _ | (with_reducible refine Below.drew ?_) | (with_reducible refine Below.setCell ?_ (by first | exact Nat.le_refl _ | omega | simp) _) | (with_reducible refine Below.alloc ?_ (by first | exact Nat.le_refl _ | omega | simp | (simp; omega)) _)))) ?_
    rintro e w1 ⟨rfl, hl⟩
    go_wp2_with fail
    go_ret
    exact ⟨rfl, hl⟩
end Go.Proofs.YtoeolonbkeldoaaDoor.R
