/- Texts: PsCh PsEx. -/
import Derived.Test.YtpjmapoiinjakaaGreatDoorPsCl
import Derived.Test.YtpjmapoiinjakaaGreatDoorPsCb
section
namespace Go.Proofs.YtpjmapoiinjakaaGreatDoor.R
open Go.RowKit
open L (tkA)
set_option linter.unusedVariables false
set_option maxRecDepth 100000 in
set_option maxHeartbeats 2000000 in
theorem logics_any {F : Nat → Prop} {base B dep : Nat} {s : Ps.St} {nv : Value} {w : World} (h : RS F base B dep s nv w) :
    Calls Tryz.prog 117 #[] w fun e w' => ∃ g, e = .returned (.slice (some ⟨g, 0, none⟩) 2 2) ∧ RS (fun k => F k ∨ k = g) base B dep s nv w' ∧ Chg B nv nv w w' ∧ LgIn (fun k => F k ∨ k = g) w' g 0 [([124, 124], 17), ([38, 38], 16)] := by
  have H : Hid (_) := h
  clear h
  go_enter Tryz.func117, Tryz.ntmps117
  go_wp2_with fail
  go_ret
  have hX : ∀ (W : World) (V : Array Value) (t : TypeId), (W.alloc (.cells V t)).heap[W.heap.size]? = some (.cells V t (0, 0)) := fun W V t => Array.getElem?_push_size
  refine ⟨w.heap.size, rfl, H.out.more _, (Chg.refl B nv w).alloc _, .inr rfl, by rw [alloc_size']; omega, fun j hj => ?_⟩
  have : j = 0 ∨ j = 1 := by simp at hj; omega
  rcases this with rfl | rfl
  all_goals
    refine ⟨?_, ?_⟩ <;> (unfold World.cell?; rw [hX]; rfl)
theorem push_at (W : World) (o : Obj) (k : Nat) : (W.alloc o).heap[k]? = if k = W.heap.size then some o else W.heap[k]? := by
  show (W.heap.push o)[k]? = _
  rw [Array.getElem?_push]
theorem push5 (w : World) (o0 o1 o2 o3 o4 : Obj) {W : World} (h : ((((w.alloc o0).alloc o1).alloc o2).alloc o3).alloc o4 = W) :
    W.heap[w.heap.size]? = some o0 ∧ W.heap[w.heap.size + 1]? = some o1 ∧ W.heap[w.heap.size + 1 + 1]? = some o2 ∧ W.heap[w.heap.size + 1 + 1 + 1]? = some o3 ∧ W.heap[w.heap.size + 1 + 1 + 1 + 1]? = some o4 ∧ W.heap.size = w.heap.size + 1 + 1 + 1 + 1 + 1 := by
  subst h
  refine ⟨?_, ?_, ?_, ?_, ?_, by simp only [alloc_size']⟩ <;> repeat (first | rw [push_at, if_neg (by simp only [alloc_size']; omega)] | rw [push_at, if_pos (by simp only [alloc_size'])])
set_option maxRecDepth 100000 in
set_option maxHeartbeats 2000000 in
theorem binaries_any {F : Nat → Prop} {base B dep : Nat} {s : Ps.St} {nv : Value} {w : World} (h : RS F base B dep s nv w) :
    Calls Tryz.prog 121 #[] w fun e w' => ∃ g, e = .returned (.slice (some ⟨g, 0, none⟩) 4 4) ∧ RS (fun k => F k ∨ (w.heap.size ≤ k ∧ k < w'.heap.size)) base B dep s nv w' ∧ Chg B nv nv w w' ∧ BnIn (fun k => F k ∨ (w.heap.size ≤ k ∧ k < w'.heap.size)) w' g 0 [[[61, 61, 61], [33, 61, 61]], [[60], [60, 61], [62], [62, 61]], [[43], [45]], [[42], [47], [37]]] := by
  have H : Hid (_) := h
  clear h
  go_enter Tryz.func121, Tryz.ntmps121
  go_wp2_with fail
  go_ret
  have hb : Below w.heap.size w (((((w.alloc (.cells #[.string ⟨#[61, 61, 61]⟩, .string ⟨#[33, 61, 61]⟩] 9)).alloc (.cells #[.string ⟨#[60]⟩, .string ⟨#[60, 61]⟩, .string ⟨#[62]⟩, .string ⟨#[62, 61]⟩] 9)).alloc (.cells #[.string ⟨#[43]⟩, .string ⟨#[45]⟩] 9)).alloc (.cells #[.string ⟨#[42]⟩, .string ⟨#[47]⟩, .string ⟨#[37]⟩] 9)).alloc (.cells #[.slice (some ⟨w.heap.size, 0, none⟩) 2 2, .slice (some ⟨w.heap.size + 1, 0, none⟩) 4 4, .slice (some ⟨w.heap.size + 1 + 1, 0, none⟩) 2 2, .slice (some ⟨w.heap.size + 1 + 1 + 1, 0, none⟩) 3 3] 114)) :=
    (((((Below.refl _ _).alloc (Nat.le_refl _) _).alloc (by simp) _).alloc (by simp; omega) _).alloc (by simp; omega) _).alloc (by simp; omega) _
  have hT : ∀ (W : World) (g : Nat) (T : List (List UInt8)) (V : Array Value) (t : TypeId), W.heap[g]? = some (.cells V t (0, 0)) → (∀ j (h : j < T.length), V[j]? = some (.string ⟨T[j].toArray⟩)) → TxIn W g 0 T := fun W g T V t hg hV =>
    ⟨Nat.lt_of_not_le (fun hge => by rw [Array.getElem?_eq_none hge] at hg; cases hg), fun j hj => by unfold World.cell?; rw [hg]; simpa using hV j hj⟩
  obtain ⟨W, hW⟩ : ∃ W, W = (((((w.alloc (.cells #[.string ⟨#[61, 61, 61]⟩, .string ⟨#[33, 61, 61]⟩] 9)).alloc (.cells #[.string ⟨#[60]⟩, .string ⟨#[60, 61]⟩, .string ⟨#[62]⟩, .string ⟨#[62, 61]⟩] 9)).alloc (.cells #[.string ⟨#[43]⟩, .string ⟨#[45]⟩] 9)).alloc (.cells #[.string ⟨#[42]⟩, .string ⟨#[47]⟩, .string ⟨#[37]⟩] 9)).alloc (.cells #[.slice (some ⟨w.heap.size, 0, none⟩) 2 2, .slice (some ⟨w.heap.size + 1, 0, none⟩) 4 4, .slice (some ⟨w.heap.size + 1 + 1, 0, none⟩) 2 2, .slice (some ⟨w.heap.size + 1 + 1 + 1, 0, none⟩) 3 3] 114)) := ⟨_, rfl⟩
  rw [← hW] at hb ⊢
  obtain ⟨h0, h1, h2, h3, h4, hz⟩ := push5 w _ _ _ _ _ hW.symm
  clear hW
  refine ⟨w.heap.size + 1 + 1 + 1 + 1, rfl, H.out.grow hb.size (fun k hk _ => hb.block k hk) (fun k hk => ?_), Chg.below nv hb, .inr ⟨by omega, by omega⟩, by omega, fun j hj => ?_⟩
  · rcases hk with hk | hk
    · exact ⟨.inl hk, Nat.lt_of_lt_of_le (H.out.far k hk).1 hb.size⟩
    · exact ⟨.inr hk.1, hk.2⟩
  · have : j = 0 ∨ j = 1 ∨ j = 2 ∨ j = 3 := by simp at hj; omega
    rcases this with rfl | rfl | rfl | rfl
    · exact ⟨w.heap.size, by unfold World.cell?; rw [h4]; rfl, .inr ⟨by omega, by omega⟩, hT _ _ _ _ _ h0 (fun i hi => by
        have : i = 0 ∨ i = 1 := by simp at hi; omega
        rcases this with rfl | rfl <;> rfl)⟩
    · exact ⟨w.heap.size + 1, by unfold World.cell?; rw [h4]; rfl, .inr ⟨by omega, by omega⟩, hT _ _ _ _ _ h1 (fun i hi => by
        have : i = 0 ∨ i = 1 ∨ i = 2 ∨ i = 3 := by simp at hi; omega
        rcases this with rfl | rfl | rfl | rfl <;> rfl)⟩
    · exact ⟨w.heap.size + 1 + 1, by unfold World.cell?; rw [h4]; rfl, .inr ⟨by omega, by omega⟩, hT _ _ _ _ _ h2 (fun i hi => by
        have : i = 0 ∨ i = 1 := by simp at hi; omega
        rcases this with rfl | rfl <;> rfl)⟩
    · exact ⟨w.heap.size + 1 + 1 + 1, by unfold World.cell?; rw [h4]; rfl, .inr ⟨by omega, by omega⟩, hT _ _ _ _ _ h3 (fun i hi => by
        have : i = 0 ∨ i = 1 ∨ i = 2 := by simp at hi; omega
        rcases this with rfl | rfl | rfl <;> rfl)⟩
open Ps in
theorem choice_ru {L : Lv} (g : GrL L) {s s' : Ps.St} {r : Nat} (h : Ru (choice L) s r s') : ∃ x s1 b s2, Ru (chain (chain L.u binaries) logics) s x s1 ∧ Ru (take [63]) s1 b s2 ∧ ((b = false ∧ r = x ∧ s' = s2) ∨ (b = true ∧ ∃ y s3 u s4 z s5, Ru L.e s2 y s3 ∧ Ru (want [58]) s3 u s4 ∧ Ru L.e s4 z s5 ∧ Ru (over { k := 18 } [x, y, z]) s5 r s')) := by
  obtain ⟨e, n⟩ := h
  unfold choice at e
  simp only [] at e
  rcases e0 : chain (chain L.u binaries) logics s with ⟨x, s1⟩
  simp only [e0] at e
  rcases e1 : take [63] s1 with ⟨b, s2⟩
  simp only [e1] at e
  have gt : Gr (take [63]) := fun s => Nat.le_of_eq (by rw [take_n])
  cases b
  · simp only at e
    obtain ⟨rfl, rfl⟩ := Prod.mk.inj e
    have n1 := gb gt e1 n
    exact ⟨_, s1, false, _, ⟨e0, n1⟩, ⟨e1, n⟩, .inl ⟨rfl, rfl, rfl⟩⟩
  · simp only at e
    rcases e2 : L.e s2 with ⟨y, s3⟩
    simp only [e2] at e
    rcases e3 : want [58] s3 with ⟨u, s4⟩
    simp only [e3] at e
    rcases e4 : L.e s4 with ⟨z, s5⟩
    simp only [e4] at e
    have n5 := gb (gr_over _ _) e n
    have n4 := gb g.e e4 n5
    have n3 := gb (gr_want _) e3 n4
    have n2 := gb g.e e2 n3
    have n1 := gb gt e1 n2
    exact ⟨x, s1, true, s2, ⟨e0, n1⟩, ⟨e1, n2⟩, .inr ⟨rfl, y, s3, u, s4, z, s5, ⟨e2, n3⟩, ⟨e3, n4⟩, ⟨e4, n5⟩, ⟨e, n⟩⟩⟩
section
variable {F : Nat → Prop} {base B dep : Nat} {L : Ps.Lv} {s s' : Ps.St} {nv : Value} {w : World} {r : Nat}
theorem Tells.of {F F' : Nat → Prop} {nv0 : Value} {w0 : World} {v : Value} {e : Ending} {w' : World} (h : Tells F' base B dep nv w s' v e w') (hF : ∀ k, F k → F' k) (c : Chg B nv0 nv w0 w) : Tells F base B dep nv0 w0 s' v e w' := by
  obtain ⟨rfl, nv', hr, hc⟩ := h
  exact ⟨rfl, nv', hr.less hF, c.trans hc⟩
set_option maxRecDepth 100000 in
set_option maxHeartbeats 2000000 in
theorem c_compared (hL : ∀ F, LvC F base B dep L) (hI : Ps.IxL L) (hS : Ps.ShL L) (E : Ru (Ps.chain L.u Ps.binaries) s r s') (h : RS F base B dep s nv w) : Calls Tryz.prog 118 #[.pointer (some ⟨B, 0, none⟩)] w (Tells F base B dep nv w s' (.int .i64 (r : Int))) := by
  have HB : Hid (_) := binaries_any h
  have HCH : Hid (∀ {F : Nat → Prop} {nv : Value} {w : World} {rv : Value}, RS F base B dep s nv w → BnV F w rv [[[61, 61, 61], [33, 61, 61]], [[60], [60, 61], [62], [62, 61]], [[43], [45]], [[42], [47], [37]]] → Calls Tryz.prog 120 #[.pointer (some ⟨B, 0, none⟩), rv, .func (.func 122) #[.pointer (some ⟨B, 0, none⟩)] #[]] w (Tells F base B dep nv w s' (.int .i64 (r : Int)))) := fun h hv =>
    c_chain_binary (part := L.u) (hL F).gr.u hI.u hS.u (fun E h => c_u hL E h) [[[61, 61, 61], [33, 61, 61]], [[60], [60, 61], [62], [62, 61]], [[43], [45]], [[42], [47], [37]]] (by simp) (by simp) (by simp) E h hv
  clear h E
  go_enter Tryz.func118, Tryz.ntmps118
  go_wp2_with fail
  refine Calls.mono HB.out ?_
  rintro e w1 ⟨g, rfl, hr1, hc1, hv1⟩
  go_wp2_with fail
  refine Calls.mono (HCH.out hr1 ⟨g, 0, rfl, hv1⟩) ?_
  intro e w2 ht
  obtain ⟨rfl, nv2, hr2, hc2⟩ := ht.of (fun k hk => .inl hk) hc1
  go_wp2_with fail
  go_ret
  exact ⟨rfl, nv2, hr2, hc2⟩
set_option maxRecDepth 100000 in
set_option maxHeartbeats 2000000 in
theorem c_choice (hL : ∀ F, LvC F base B dep L) (hI : Ps.IxL L) (hS : Ps.ShL L) (E : Ru (Ps.choice L) s r s') (h : RS F base B dep s nv w) : Calls Tryz.prog 112 #[.pointer (some ⟨B, 0, none⟩)] w (Tells F base B dep nv w s' (.int .i64 (r : Int))) := by
  obtain ⟨x, s1, b, s2, E1, E2, E3⟩ := choice_ru (hL F).gr E
  have HB : Hid (_) := logics_any h
  have HCH : Hid (∀ {F : Nat → Prop} {nv : Value} {w : World} {rv : Value}, RS F base B dep s nv w → LgV F w rv [([124, 124], 17), ([38, 38], 16)] → Calls Tryz.prog 116 #[.pointer (some ⟨B, 0, none⟩), rv, .func (.func 118) #[.pointer (some ⟨B, 0, none⟩)] #[]] w (Tells F base B dep nv w s1 (.int .i64 (x : Int)))) := fun h hv =>
    c_chain_logic (part := Ps.chain L.u Ps.binaries) (Ps.gr_chain (hL F).gr.u _) (Ps.ix_chain hI.u _) (Ps.sh_chain hS.u _) (fun E h => c_compared hL hI hS E h) [([124, 124], 17), ([38, 38], 16)] (by simp) (by simp) E1 h hv
  have hx : x < s1.nodes.length := by
    have := Ps.ix_chain (Ps.ix_chain hI.u Ps.binaries) Ps.logics s
    rw [E1.eq] at this; exact this
  have h12 : s2.nodes = s1.nodes := by have := Ps.take_n [63] s1; rw [E2.eq] at this; exact this
  clear h E E1
  rcases E3 with ⟨rfl, rfl, rfl⟩ | ⟨rfl, y, s3, u, s4, z, s5, E3, E4, E5, E6⟩
  · clear hx h12
    go_enter Tryz.func112, Tryz.ntmps112
    go_wp2_with fail
    refine Calls.mono HB.out ?_
    rintro e w1 ⟨g, rfl, hr1, hc1, hv1⟩
    go_wp2_with fail
    refine Calls.mono (HCH.out hr1 ⟨g, 0, rfl, hv1⟩) ?_
    intro e w2 ht
    obtain ⟨rfl, nv2, hr2, hc2⟩ := ht.of (fun k hk => .inl hk) hc1
    go_wp2_with fail
    refine Calls.mono (c_take (m := [63]) E2 hr2) ?_
    rintro e w3 ⟨rfl, nv3, hr3, hc3⟩
    go_wp2_with fail
    go_ret
    exact ⟨rfl, nv3, hr3, hc2.trans hc3⟩
  · have HK : Hid (x < s5.nodes.length) := (show x < s5.nodes.length from by
      have h3 := (hL F).gr.e s2
      rw [E3.eq] at h3
      have h4 := Ps.gr_want [58] s3
      rw [E4.eq] at h4
      have h5 := (hL F).gr.e s4
      rw [E5.eq] at h5
      rw [h12] at h3
      simp only at h3 h4 h5
      omega)
    clear hx h12
    go_enter Tryz.func112, Tryz.ntmps112
    go_wp2_with fail
    refine Calls.mono HB.out ?_
    rintro e w1 ⟨g, rfl, hr1, hc1, hv1⟩
    go_wp2_with fail
    refine Calls.mono (HCH.out hr1 ⟨g, 0, rfl, hv1⟩) ?_
    intro e w2 ht
    obtain ⟨rfl, nv2, hr2, hc2⟩ := ht.of (fun k hk => .inl hk) hc1
    clear hr1 hc1 hv1
    go_wp2_with fail
    refine Calls.mono (c_take (m := [63]) E2 hr2) ?_
    rintro e w3 ⟨rfl, nv3, hr3, hc3⟩
    go_wp2_with fail
    refine Calls.mono (c_e hL E3 hr3) ?_
    rintro e w4 ⟨rfl, nv4, hr4, hc4⟩
    go_wp2_with fail
    refine Calls.mono (c_want (m := [58]) E4 hr4) ?_
    rintro e w5 ⟨rfl, nv5, hr5, hc5⟩
    go_wp2_with fail
    refine Calls.mono (c_e hL E5 hr5) ?_
    rintro e w6 ⟨rfl, nv6, hr6, hc6⟩
    go_wp2_with fail
    refine Calls.mono (c_over (k := 18) (t := []) E6 hr6 HK.out #[.int .i64 (x : Int), .int .i64 (y : Int), .int .i64 (z : Int)] 3 rfl (fun j hj => by
      have : j = 0 ∨ j = 1 ∨ j = 2 := by simp at hj; omega
      rcases this with rfl | rfl | rfl <;> rfl)) ?_
    rintro e w7 ⟨rfl, nv7, hr7, hc7⟩
    go_wp2_with fail
    go_ret
    exact ⟨rfl, nv7, hr7, ((((hc2.trans hc3).trans hc4).trans hc5).trans hc6).trans hc7⟩
end
end Go.Proofs.YtpjmapoiinjakaaGreatDoor.R
end
section
namespace Go.Proofs.YtpjmapoiinjakaaGreatDoor.R
open Go.RowKit
open L (tkA own_block own_below)
set_option linter.unusedVariables false
theorem ndCells_at0 : ∀ (vs : List (Ps.Nd × Value × Value)) (j : Nat) (h : j < vs.length), (ndCells vs)[j * 6]? = some (.int .i64 (vs[j].1.k : Int))
  | [], j, h => by simp at h
  | x :: vs, 0, h => by
    rw [show ndCells (x :: vs) = (ndA x.1 x.2.1 x.2.2).toList ++ ndCells vs from rfl, List.getElem?_append_left (by simp)]
    rfl
  | x :: vs, j + 1, h => by
    have ih := ndCells_at0 vs j (by simpa using h)
    rw [show ndCells (x :: vs) = (ndA x.1 x.2.1 x.2.2).toList ++ ndCells vs from rfl, List.getElem?_append_right (by simp; omega)]
    rw [show (j + 1) * 6 - (ndA x.1 x.2.1 x.2.2).toList.length = j * 6 by simp; omega]
    simpa using ih
/-- A node's kind, where it lies. -/
theorem RS.kind {F : Nat → Prop} {base B dep : Nat} {st : Ps.St} {nv : Value} {W : World} (h : RS F base B dep st nv W) {j : Nat} (hj : j < st.nodes.length) : ∃ gn cap, nv = .slice (some ⟨gn, 0, none⟩) st.nodes.length cap ∧ st.nodes.length ≤ cap ∧ gn < W.heap.size ∧ W.cell? ⟨gn, j * 6, none⟩ = some (.int .i64 ((st.nodes.getD j {}).k : Int)) := by
  obtain ⟨vs, e, ho, -⟩ := h.nd
  have hl : vs.length = st.nodes.length := by rw [← e, List.length_map]
  rcases ho.2 with ⟨_, h0⟩ | ⟨g, cap, cur, hv, hb, hg, hcap, hcs, hm, ht⟩
  · omega
  · have hgl : g < W.heap.size := Nat.lt_of_not_le fun hge => by rw [Array.getElem?_eq_none hge] at hg; cases hg
    refine ⟨g, cap, by rw [hv, hl], by omega, hgl, ?_⟩
    have hj' : j < vs.length := by omega
    have hc : W.cell? ⟨g, j * 6, none⟩ = (ndCells vs)[j * 6]? := by
      subst hv
      exact ho.cellAt (j * 6) (by omega)
    rw [hc, ndCells_at0 vs j hj']
    have : st.nodes.getD j {} = vs[j].1 := by
      rw [← e, List.getD_eq_getElem?_getD, List.getElem?_map, List.getElem?_eq_getElem hj']; rfl
    rw [this]
set_option maxRecDepth 100000 in
set_option maxHeartbeats 2000000 in
theorem isTarget_any (k : Nat) (w : World) : Calls Tryz.prog 113 #[.int .i64 (k : Int)] w fun e w' => e = .returned (.bool (Ps.isTarget k)) ∧ w' = w := by
  by_cases h3 : k = 3
  · subst h3
    go_enter Tryz.func113, Tryz.ntmps113
    go_wp2_with fail
    go_ret
    exact ⟨rfl, rfl⟩
  by_cases h11 : k = 11
  · subst h11
    go_enter Tryz.func113, Tryz.ntmps113
    go_wp2_with fail
    go_ret
    exact ⟨rfl, rfl⟩
  by_cases h12 : k = 12
  · subst h12
    go_enter Tryz.func113, Tryz.ntmps113
    go_wp2_with fail
    go_ret
    exact ⟨rfl, rfl⟩
  have e3 : ((k : Int) == 3) = false := by rw [beq_eq_false_iff_ne]; omega
  have e11 : ((k : Int) == 11) = false := by rw [beq_eq_false_iff_ne]; omega
  have e12 : ((k : Int) == 12) = false := by rw [beq_eq_false_iff_ne]; omega
  have hq : Ps.isTarget k = false := by unfold Ps.isTarget; simp [h3, h11, h12]
  rw [hq]
  go_enter Tryz.func113, Tryz.ntmps113
  go_wp2_with fail
  go_ret
  exact ⟨rfl, rfl⟩
open Ps in
theorem anyExpr_ru {L : Lv} (g : GrL L) {s s' : Ps.St} {r : Nat} (h : Ru (anyExpr L) s r s') : ∃ b s1, Ru (take [121, 105, 101, 108, 100]) s b s1 ∧ ((b = true ∧ ∃ y s2, Ru L.e s1 y s2 ∧ Ru (add { k := 20, a := (nxt s).a, kids := [y] }) s2 r s') ∨
    (b = false ∧ ∃ x s2, Ru (choice L) s1 x s2 ∧ ((Ps.isTarget (s2.nodes.getD x {}).k = false ∧ r = x ∧ s' = s2) ∨ (Ps.isTarget (s2.nodes.getD x {}).k = true ∧ ∃ b2 s3, Ru (take [61]) s2 b2 s3 ∧ ((b2 = false ∧ r = x ∧ s' = s3) ∨ (b2 = true ∧ ∃ y s4, Ru L.e s3 y s4 ∧ Ru (over { k := 19 } [x, y]) s4 r s')))))) := by
  obtain ⟨e, n⟩ := h
  unfold anyExpr at e
  rcases e0 : take [121, 105, 101, 108, 100] s with ⟨b, s1⟩
  have gt : ∀ m, Gr (take m) := fun m s => Nat.le_of_eq (by rw [take_n])
  cases b
  · simp only [e0] at e
    rcases e1 : choice L s1 with ⟨x, s2⟩
    simp only [e1] at e
    by_cases ht : Ps.isTarget (s2.nodes.getD x {}).k = true
    · rw [if_pos ht] at e
      rcases e2 : take [61] s2 with ⟨b2, s3⟩
      cases b2
      · simp only [e2] at e
        obtain ⟨rfl, rfl⟩ := Prod.mk.inj e
        have n2 := gb (gt _) e2 n
        have n1 := gb (gr_choice g) e1 n2
        exact ⟨false, s1, ⟨e0, n1⟩, .inr ⟨rfl, _, s2, ⟨e1, n2⟩, .inr ⟨ht, false, _, ⟨e2, n⟩, .inl ⟨rfl, rfl, rfl⟩⟩⟩⟩
      · simp only [e2] at e
        rcases e3 : L.e s3 with ⟨y, s4⟩
        simp only [e3] at e
        have n4 := gb (gr_over _ _) e n
        have n3 := gb g.e e3 n4
        have n2 := gb (gt _) e2 n3
        have n1 := gb (gr_choice g) e1 n2
        exact ⟨false, s1, ⟨e0, n1⟩, .inr ⟨rfl, x, s2, ⟨e1, n2⟩, .inr ⟨ht, true, s3, ⟨e2, n3⟩, .inr ⟨rfl, y, s4, ⟨e3, n4⟩, ⟨e, n⟩⟩⟩⟩⟩
    · rw [if_neg ht] at e
      obtain ⟨rfl, rfl⟩ := Prod.mk.inj e
      have n1 := gb (gr_choice g) e1 n
      exact ⟨false, s1, ⟨e0, n1⟩, .inr ⟨rfl, _, _, ⟨e1, n⟩, .inl ⟨by simpa using ht, rfl, rfl⟩⟩⟩
  · simp only [e0] at e
    rcases e1 : L.e s1 with ⟨y, s2⟩
    simp only [e1] at e
    have n2 := gb (gr_add _) e n
    have n1 := gb g.e e1 n2
    exact ⟨true, s1, ⟨e0, n1⟩, .inl ⟨rfl, y, s2, ⟨e1, n2⟩, ⟨e, n⟩⟩⟩
open Ps in
theorem anyUnary_ru {L : Lv} (g : GrL L) {s s' : Ps.St} {r : Nat} (h : Ru (anyUnary L) s r s') : ((Ps.mark s = [33] ∨ Ps.mark s = [45] ∨ Ps.mark s = [116, 121, 112, 101, 111, 102]) ∧ ∃ T s1 y s2, Ru skip s T s1 ∧ Ru L.u s1 y s2 ∧ Ru (add { k := 14, t := T.t, a := T.a, kids := [y] }) s2 r s') ∨ (¬ (Ps.mark s = [33] ∨ Ps.mark s = [45] ∨ Ps.mark s = [116, 121, 112, 101, 111, 102]) ∧ Ru L.p s r s') := by
  obtain ⟨e, n⟩ := h
  unfold anyUnary at e
  by_cases hm : Ps.mark s = [33] ∨ Ps.mark s = [45] ∨ Ps.mark s = [116, 121, 112, 101, 111, 102]
  · rw [if_pos hm] at e
    simp only [] at e
    rcases e0 : skip s with ⟨T, s1⟩
    simp only [e0] at e
    rcases e1 : L.u s1 with ⟨y, s2⟩
    simp only [e1] at e
    have n2 := gb (gr_add _) e n
    have n1 := gb g.u e1 n2
    exact .inl ⟨hm, T, s1, y, s2, ⟨e0, n1⟩, ⟨e1, n2⟩, ⟨e, n⟩⟩
  · rw [if_neg hm] at e
    exact .inr ⟨hm, e, n⟩
/-- Two cells of a token's box. -/
def Two (F : Nat → Prop) (X : Nat) (y1 y3 : Value) (W : World) : Prop := W.cell? ⟨X, 1, none⟩ = some y1 ∧ W.cell? ⟨X, 3, none⟩ = some y3 ∧ Hid (FarX F X W)
theorem Two.go {F : Nat → Prop} {X : Nat} {y1 y3 : Value} {W W' : World} (h : Two F X y1 y3 W) (hs : W.heap.size ≤ W'.heap.size) (hb : W'.heap[X]? = W.heap[X]?) : Two F X y1 y3 W' := by
  obtain ⟨a1, a3, h1⟩ := h
  exact ⟨(cell_of_block hb _).trans a1, (cell_of_block hb _).trans a3, ⟨h1.out.1, Nat.lt_of_lt_of_le h1.out.2 hs⟩⟩
theorem Two.drew {F : Nat → Prop} {X : Nat} {y1 y3 : Value} {W : World} (h : Two F X y1 y3 W) : Two F X y1 y3 W.drew := h.go (Nat.le_refl _) rfl
theorem Two.alloc {F : Nat → Prop} {X : Nat} {y1 y3 : Value} {W : World} (h : Two F X y1 y3 W) (o : Obj) : Two F X y1 y3 (W.alloc o) := h.go (by rw [alloc_size']; omega) (Below.heap_alloc W o X h.2.2.out.2)
theorem Two.call {F : Nat → Prop} {base B dep : Nat} {s : Ps.St} {nv nv' : Value} {X : Nat} {y1 y3 : Value} {W W' : World} (h : Two F X y1 y3 W) (hr : RS F base B dep s nv W) (c : Chg B nv nv' W W') : Two F X y1 y3 W' := h.go c.size (hr.keepF c h.2.2.out.1)
section
variable {F : Nat → Prop} {base B dep : Nat} {L : Ps.Lv} {s s' : Ps.St} {nv : Value} {w : World} {r : Nat}
set_option maxRecDepth 100000 in
set_option maxHeartbeats 2000000 in
theorem c_anyUnary (hL : ∀ F, LvC F base B dep L) (HW : Ru L.p s r s' → ∀ {nv w}, RS F base B dep s nv w → Calls Tryz.prog 53 #[.pointer (some ⟨B, 0, none⟩), .func (.func 128) #[.pointer (some ⟨B, 0, none⟩)] #[]] w (Tells F base B dep nv w s' (.int .i64 (r : Int))))
    (E : Ru (Ps.anyUnary L) s r s') (h : RS F base B dep s nv w) : Calls Tryz.prog 125 #[.pointer (some ⟨B, 0, none⟩)] w (Tells F base B dep nv w s' (.int .i64 (r : Int))) := by
  have HM : Hid (_) := c_mark h
  rcases anyUnary_ru (hL F).gr E with ⟨hm, ⟨tk, tt, tn, ta, tl, te⟩, s1, y, s2, E1, E2, E3⟩ | ⟨hm, E1⟩
  · clear E h HW
    generalize Ps.mark s = m at *
    have HU : Hid (∀ (F' : Nat → Prop) nv0 w0 X W, Hid (Som F' base B dep s1 nv0 w0 W) → Two F' X (.string ⟨tt.toArray⟩) (.int .i64 (ta : Int)) W → Calls Tryz.prog 122 #[.pointer (some ⟨B, 0, none⟩)] W fun e w' => e = .returned (.int .i64 (y : Int)) ∧ Two F' X (.string ⟨tt.toArray⟩) (.int .i64 (ta : Int)) w' ∧ Hid (Som F' base B dep s2 nv0 w0 w')) := fun F' nv0 w0 X W hP hX => by
      obtain ⟨nv5, hr5, hc5⟩ := hP.out
      refine (c_u hL E2 hr5).mono ?_
      rintro e w' ⟨rfl, nv6, hr6, hc6⟩
      exact ⟨rfl, hX.call hr5 hc6, ⟨nv6, hr6, hc5.trans hc6⟩⟩
    have HA : Hid (∀ (F' : Nat → Prop) nv0 w0 X W, Hid (Som F' base B dep s2 nv0 w0 W) → Two F' X (.string ⟨tt.toArray⟩) (.int .i64 (ta : Int)) W → Calls Tryz.prog 24 #[.pointer (some ⟨B, 0, none⟩), .agg #[.int .i64 14, .int .i64 0, .string ⟨tt.toArray⟩, .slice none 0 0, .slice (some ⟨W.heap.size, 0, none⟩) 1 1, .int .i64 (ta : Int)]] (W.alloc (.cells #[.int .i64 (y : Int)] 3)) fun e w' => e = .returned (.int .i64 (r : Int)) ∧ Two F' X (.string ⟨tt.toArray⟩) (.int .i64 (ta : Int)) w' ∧ Hid (Som F' base B dep s' nv0 w0 w')) := fun F' nv0 w0 X W hP hX => by
      obtain ⟨nv5, hr5, hc5⟩ := hP.out
      refine (c_addL (k := 14) (t := tt) (a := ta) (K := [y]) E3 hr5 #[.int .i64 (y : Int)] 1 rfl (fun j hj => by
        have : j = 0 := by simpa using hj
        subst this; rfl)).mono ?_
      rintro e w' ⟨rfl, nv6, hr6, hc6⟩
      exact ⟨rfl, hX.call hr5 hc6, ⟨nv6, hr6, hc5.trans hc6⟩⟩
    rcases hm with rfl | rfl | rfl
    all_goals
      go_enter Tryz.func125, Tryz.ntmps125
      go_wp2_with fail
      refine Calls.mono HM.out ?_
      rintro e w1 ⟨rfl, nv1, hr1, hc1⟩
      go_wp2_with fail
      refine Calls.mono (c_skip E1 hr1) ?_
      rintro e w2 ⟨rfl, nv2, hr2, hc2⟩
      simp only [tkA] at *
      have HP : Hid (Som (fun k => F k ∨ k = w2.heap.size) base B dep s1 nv w (w2.alloc (.cells #[.int .i64 (tk : Int), .string ⟨tt.toArray⟩, .int .i64 (tn : Int), .int .i64 (ta : Int), .bool tl] 34))) := ⟨nv2, hr2.more _, (hc1.trans hc2).alloc _⟩
      have hX : Two (fun k => F k ∨ k = w2.heap.size) w2.heap.size (.string ⟨tt.toArray⟩) (.int .i64 (ta : Int)) (w2.alloc (.cells #[.int .i64 (tk : Int), .string ⟨tt.toArray⟩, .int .i64 (tn : Int), .int .i64 (ta : Int), .bool tl] 34)) := by
        have hx : (w2.alloc (.cells #[.int .i64 (tk : Int), .string ⟨tt.toArray⟩, .int .i64 (tn : Int), .int .i64 (ta : Int), .bool tl] 34)).heap[w2.heap.size]? = some (.cells #[.int .i64 (tk : Int), .string ⟨tt.toArray⟩, .int .i64 (tn : Int), .int .i64 (ta : Int), .bool tl] 34 (0, 0)) := Array.getElem?_push_size
        exact ⟨by unfold World.cell?; rw [hx]; rfl, by unfold World.cell?; rw [hx]; rfl, ⟨.inr rfl, by rw [alloc_size']; omega⟩⟩
      generalize hX0 : w2.heap.size = X at hX HP
      generalize hW0 : w2.alloc (.cells #[.int .i64 (tk : Int), .string ⟨tt.toArray⟩, .int .i64 (tn : Int), .int .i64 (ta : Int), .bool tl] 34) = W0 at hX HP
      have HFX : Hid (∀ k, F k → (fun k => F k ∨ k = X) k) := (fun k hk => .inl hk)
      have hX' := hX
      obtain ⟨p1, p3, hpf⟩ := hX'
      clear hr1 hc1 hr2 hc2 HM
      generalize (fun k => F k ∨ k = X) = F' at *
      go_wp2_with fail
      go_region_held3 (fun W => W.cell? ⟨X, 1, none⟩ = some (.string ⟨tt.toArray⟩) ∧ W.cell? ⟨X, 3, none⟩ = some (.int .i64 (ta : Int)) ∧ Hid (FarX F' X W)) ((show Two F' X (.string ⟨tt.toArray⟩) (.int .i64 (ta : Int)) _; repeat (first | with_reducible assumption | with_reducible refine Two.drew ?_ | with_reducible refine Two.alloc ?_ _))) (first | (go_at_call 122; refine Calls.mono (HU.out F' nv w X _ (by first | exact HP | exact (show Som _ _ _ _ _ _ _ _ from HP.out.drew)) (by repeat (first | with_reducible assumption | with_reducible refine Two.drew ?_))) ?_; rintro e w5 ⟨rfl, hX5, HP5⟩) | (go_at_call 24; refine Calls.mono (HA.out F' nv w X _ HP5 hX5) ?_; rintro e w6 ⟨rfl, hX6, HP6⟩))
      go_wp2_with fail
      go_ret
      obtain ⟨nv9, hr9, hc9⟩ := HP6.out
      exact ⟨rfl, nv9, hr9.less HFX.out, hc9⟩
  · have HWP : Hid (_) := fun (nv : Value) (w : World) => HW E1 (nv := nv) (w := w)
    have n1 : (Ps.mark s == [33]) = false := by simp_all
    have n2 : (Ps.mark s == [45]) = false := by simp_all
    have n3 : (Ps.mark s == [116, 121, 112, 101, 111, 102]) = false := by simp_all
    clear E h HW hm
    generalize Ps.mark s = m at *
    go_enter Tryz.func125, Tryz.ntmps125
    go_wp2_with fail
    refine Calls.mono HM.out ?_
    rintro e w1 ⟨rfl, nv1, hr1, hc1⟩
    go_wp2_with fail
    refine Calls.mono (HWP.out _ _ hr1) ?_
    rintro e w2 ⟨rfl, nv2, hr2, hc2⟩
    go_wp2_with fail
    go_ret
    exact ⟨rfl, nv2, hr2, hc1.trans hc2⟩
set_option maxRecDepth 100000 in
set_option maxHeartbeats 2000000 in
theorem c_anyExpr (hL : ∀ F, LvC F base B dep L) (hI : Ps.IxL L) (hS : Ps.ShL L) (E : Ru (Ps.anyExpr L) s r s') (h : RS F base B dep s nv w) : Calls Tryz.prog 107 #[.pointer (some ⟨B, 0, none⟩)] w (Tells F base B dep nv w s' (.int .i64 (r : Int))) := by
  have HN : Hid (_) := c_next h
  have hfl := run_field3
  have HIT : Hid (∀ (k : Nat) (w : World), _) := isTarget_any
  have hix := Ps.ix_choice hI
  obtain ⟨b, s1, E1, E2⟩ := anyExpr_ru (hL F).gr E
  rcases eT : Ps.nxt s with ⟨tk, tt, tn, ta, tl, te⟩
  rw [eT] at HN E2
  simp only [tkA] at HN E2
  clear eT E h
  rcases E2 with ⟨rfl, y, s2, E2, E3⟩ | ⟨rfl, x, s2, E2, E3⟩
  · clear HIT hix
    go_enter Tryz.func107, Tryz.ntmps107
    go_wp2_with fail
    refine Calls.mono HN.out ?_
    rintro e w1 ⟨rfl, nv1, hr1, hc1⟩
    go_wp2_with fail
    refine Calls.mono (c_take (m := [121, 105, 101, 108, 100]) E1 hr1) ?_
    rintro e w2 ⟨rfl, nv2, hr2, hc2⟩
    go_wp2_with fail
    refine Calls.mono (c_e hL E2 hr2) ?_
    rintro e w3 ⟨rfl, nv3, hr3, hc3⟩
    go_wp2_with fail
    refine Calls.mono (c_addL (k := 20) (t := []) (a := ta) (K := [y]) E3 hr3 #[.int .i64 (y : Int)] 1 rfl (fun j hj => by
      have : j = 0 := by simpa using hj
      subst this; rfl)) ?_
    rintro e w4 ⟨rfl, nv4, hr4, hc4⟩
    go_wp2_with fail
    go_ret
    exact ⟨rfl, nv4, hr4, ((hc1.trans hc2).trans hc3).trans hc4⟩
  · have hx : x < s2.nodes.length := by have := hix s1; rw [E2.eq] at this; exact this
    have HX : Hid (_) := hx
    clear hx hix
    go_enter Tryz.func107, Tryz.ntmps107
    go_wp2_with fail
    refine Calls.mono HN.out ?_
    rintro e w1 ⟨rfl, nv1, hr1, hc1⟩
    go_wp2_with fail
    refine Calls.mono (c_take (m := [121, 105, 101, 108, 100]) E1 hr1) ?_
    rintro e w2 ⟨rfl, nv2, hr2, hc2⟩
    go_wp2_with fail
    refine Calls.mono (c_choice hL hI hS E2 hr2) ?_
    rintro e w3 ⟨rfl, nv3, hr3, hc3⟩
    obtain ⟨gn, ncap, hnv, hncap, hgn, hkd⟩ := hr3.kind HX.out
    obtain ⟨q1, q2, q3, q4, f2, hlt⟩ := hr3.cells
    have hx1 : (x : Int) < s2.nodes.length := by have := HX.out; omega
    have hx0 : (0 : Int) ≤ x := by omega
    have HC3 : Hid (_) := (hc1.trans hc2).trans hc3
    have HR3 : Hid (_) := hr3
    have HNV : Hid (nv3 = _) := hnv
    rw [hnv] at q1
    generalize (s2.nodes.getD x {}).k = kd at *
    clear hc1 hc2 hc3 hr1 hr2 hr3 hnv
    generalize hnl : s2.nodes.length = nl at *
    rcases E3 with ⟨hit, rfl, rfl⟩ | ⟨hit, b2, s3, E3, E4⟩
    · go_wp2_with fail
      refine Calls.mono (HIT.out _ _) ?_
      rintro e w4 ⟨rfl, rfl⟩
      rw [hit]
      go_wp2_with fail
      go_ret
      exact ⟨rfl, nv3, HR3.out, HC3.out⟩
    · rcases E4 with ⟨rfl, rfl, rfl⟩ | ⟨rfl, y, s4, E4, E5⟩
      · go_wp2_with fail
        refine Calls.mono (HIT.out _ _) ?_
        rintro e w4 ⟨rfl, rfl⟩
        rw [hit]
        go_wp2_with fail
        refine Calls.mono (c_take (m := [61]) E3 HR3.out) ?_
        rintro e w5 ⟨rfl, nv5, hr5, hc5⟩
        clear q1 q2 q3 q4 f2 hlt hkd hgn
        go_wp2_with fail
        go_ret
        exact ⟨rfl, nv5, hr5, HC3.out.trans hc5⟩
      · go_wp2_with fail
        refine Calls.mono (HIT.out _ _) ?_
        rintro e w4 ⟨rfl, rfl⟩
        rw [hit]
        go_wp2_with fail
        refine Calls.mono (c_take (m := [61]) E3 HR3.out) ?_
        rintro e w5 ⟨rfl, nv5, hr5, hc5⟩
        clear q1 q2 q3 q4 f2 hlt hkd hgn
        go_wp2_with fail
        refine Calls.mono (c_e hL E4 hr5) ?_
        rintro e w6 ⟨rfl, nv6, hr6, hc6⟩
        have HK : Hid (x < s4.nodes.length) := (show x < s4.nodes.length from by
          have h3 : s3.nodes = s2.nodes := by have := Ps.take_n [61] s2; rw [E3.eq] at this; exact this
          have h4 := (hL F).gr.e s3
          rw [E4.eq, h3] at h4
          have := HX.out
          simp only at h4
          omega)
        go_wp2_with fail
        refine Calls.mono (c_over (k := 19) (t := []) E5 hr6 HK.out #[.int .i64 (x : Int), .int .i64 (y : Int)] 2 rfl (fun j hj => by
          have : j = 0 ∨ j = 1 := by simp at hj; omega
          rcases this with rfl | rfl <;> rfl)) ?_
        rintro e w7 ⟨rfl, nv7, hr7, hc7⟩
        go_wp2_with fail
        go_ret
        exact ⟨rfl, nv7, hr7, ((HC3.out.trans hc5).trans hc6).trans hc7⟩
end
end Go.Proofs.YtpjmapoiinjakaaGreatDoor.R
end
