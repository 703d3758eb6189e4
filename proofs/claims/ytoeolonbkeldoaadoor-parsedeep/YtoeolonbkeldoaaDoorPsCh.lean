/- The parser's rows of levels, compared, choice by their contracts. -/
import Derived.Test.YtoeolonbkeldoaaDoorPsCl
import Derived.Test.YtoeolonbkeldoaaDoorPsCb
namespace Go.Proofs.YtoeolonbkeldoaaDoor.R
open Go.RowKit
open L (tkA)
set_option linter.unusedVariables false
set_option maxRecDepth 100000 in
set_option maxHeartbeats 2000000 in
theorem logics_any {F : Nat → Prop} {base B dep : Nat} {s : Ps.St} {nv : Value} {w : World} (h : RS F base B dep s nv w) :
    Calls Tryd.prog 81 #[] w fun e w' => ∃ g, e = .returned (.slice (some ⟨g, 0, none⟩) 2 2) ∧ RS (fun k => F k ∨ k = g) base B dep s nv w' ∧ Chg B nv nv w w' ∧ LgIn (fun k => F k ∨ k = g) w' g 0 [([124, 124], 17), ([38, 38], 16)] := by
  have H : Hid (_) := h
  clear h
  go_enter Tryd.func81, Tryd.ntmps81
  go_wp2_with fail
  go_ret
  have hX : ∀ (W : World) (V : Array Value) (t : TypeId), (W.alloc (.cells V t)).heap[W.heap.size]? = some (.cells V t (0, 0)) := fun W V t => Array.getElem?_push_size
  refine ⟨w.heap.size, rfl, H.out.more _, (Chg.refl B nv w).alloc _, .inr rfl, by rw [alloc_size']; omega, fun j hj => ?_⟩
  have : j = 0 ∨ j = 1 := by simp at hj; omega
  rcases this with rfl | rfl
  all_goals
    refine ⟨?_, ?_⟩ <;> (unfold World.cell?; rw [hX]; rfl)
theorem push_at (W : World) (o : Obj) (k : Nat) : (W.alloc o).heap[k]? = if k = W.heap.size then some o else W.heap[k]? := by
  show (W.heap.push o)[k]? = _
  rw [Array.getElem?_push]
theorem push5 (w : World) (o0 o1 o2 o3 o4 : Obj) {W : World} (h : ((((w.alloc o0).alloc o1).alloc o2).alloc o3).alloc o4 = W) :
    W.heap[w.heap.size]? = some o0 ∧ W.heap[w.heap.size + 1]? = some o1 ∧ W.heap[w.heap.size + 1 + 1]? = some o2 ∧ W.heap[w.heap.size + 1 + 1 + 1]? = some o3 ∧ W.heap[w.heap.size + 1 + 1 + 1 + 1]? = some o4 ∧ W.heap.size = w.heap.size + 1 + 1 + 1 + 1 + 1 := by
  subst h
  refine ⟨?_, ?_, ?_, ?_, ?_, by simp only [alloc_size']⟩ <;> repeat (first | rw [push_at, if_neg (by simp only [alloc_size']; omega)] | rw [push_at, if_pos (by simp only [alloc_size'])])
set_option maxRecDepth 100000 in
set_option maxHeartbeats 2000000 in
theorem binaries_any {F : Nat → Prop} {base B dep : Nat} {s : Ps.St} {nv : Value} {w : World} (h : RS F base B dep s nv w) :
    Calls Tryd.prog 84 #[] w fun e w' => ∃ g, e = .returned (.slice (some ⟨g, 0, none⟩) 4 4) ∧ RS (fun k => F k ∨ (w.heap.size ≤ k ∧ k < w'.heap.size)) base B dep s nv w' ∧ Chg B nv nv w w' ∧ BnIn (fun k => F k ∨ (w.heap.size ≤ k ∧ k < w'.heap.size)) w' g 0 [[[61, 61, 61], [33, 61, 61]], [[60], [60, 61], [62], [62, 61]], [[43], [45]], [[42], [47], [37]]] := by
  have H : Hid (_) := h
  clear h
  go_enter Tryd.func84, Tryd.ntmps84
  go_wp2_with fail
  go_ret
  have hb : Below w.heap.size w (((((w.alloc (.cells #[.string ⟨#[61, 61, 61]⟩, .string ⟨#[33, 61, 61]⟩] 9)).alloc (.cells #[.string ⟨#[60]⟩, .string ⟨#[60, 61]⟩, .string ⟨#[62]⟩, .string ⟨#[62, 61]⟩] 9)).alloc (.cells #[.string ⟨#[43]⟩, .string ⟨#[45]⟩] 9)).alloc (.cells #[.string ⟨#[42]⟩, .string ⟨#[47]⟩, .string ⟨#[37]⟩] 9)).alloc (.cells #[.slice (some ⟨w.heap.size, 0, none⟩) 2 2, .slice (some ⟨w.heap.size + 1, 0, none⟩) 4 4, .slice (some ⟨w.heap.size + 1 + 1, 0, none⟩) 2 2, .slice (some ⟨w.heap.size + 1 + 1 + 1, 0, none⟩) 3 3] 99)) :=
    (((((Below.refl _ _).alloc (Nat.le_refl _) _).alloc (by simp) _).alloc (by simp; omega) _).alloc (by simp; omega) _).alloc (by simp; omega) _
  have hT : ∀ (W : World) (g : Nat) (T : List (List UInt8)) (V : Array Value) (t : TypeId), W.heap[g]? = some (.cells V t (0, 0)) → (∀ j (h : j < T.length), V[j]? = some (.string ⟨T[j].toArray⟩)) → TxIn W g 0 T := fun W g T V t hg hV =>
    ⟨Nat.lt_of_not_le (fun hge => by rw [Array.getElem?_eq_none hge] at hg; cases hg), fun j hj => by unfold World.cell?; rw [hg]; simpa using hV j hj⟩
  obtain ⟨W, hW⟩ : ∃ W, W = (((((w.alloc (.cells #[.string ⟨#[61, 61, 61]⟩, .string ⟨#[33, 61, 61]⟩] 9)).alloc (.cells #[.string ⟨#[60]⟩, .string ⟨#[60, 61]⟩, .string ⟨#[62]⟩, .string ⟨#[62, 61]⟩] 9)).alloc (.cells #[.string ⟨#[43]⟩, .string ⟨#[45]⟩] 9)).alloc (.cells #[.string ⟨#[42]⟩, .string ⟨#[47]⟩, .string ⟨#[37]⟩] 9)).alloc (.cells #[.slice (some ⟨w.heap.size, 0, none⟩) 2 2, .slice (some ⟨w.heap.size + 1, 0, none⟩) 4 4, .slice (some ⟨w.heap.size + 1 + 1, 0, none⟩) 2 2, .slice (some ⟨w.heap.size + 1 + 1 + 1, 0, none⟩) 3 3] 99)) := ⟨_, rfl⟩
  rw [← hW] at hb ⊢
  obtain ⟨h0, h1, h2, h3, h4, hz⟩ := push5 w _ _ _ _ _ hW.symm
  clear hW
  refine ⟨w.heap.size + 1 + 1 + 1 + 1, rfl, H.out.grow hb.size (fun k hk _ => hb.block k hk) (fun k hk => ?_), Chg.below nv hb, .inr ⟨by omega, by omega⟩, by omega, fun j hj => ?_⟩
  · rcases hk with hk | hk
    · exact ⟨.inl hk, Nat.lt_of_lt_of_le (H.out.far k hk).1 hb.size⟩
    · exact ⟨.inr hk.1, hk.2⟩
  · have : j = 0 ∨ j = 1 ∨ j = 2 ∨ j = 3 := by simp at hj; omega
    rcases this with rfl | rfl | rfl | rfl
    · exact ⟨w.heap.size, by unfold World.cell?; rw [h4]; rfl, .inr ⟨by omega, by omega⟩, hT _ _ _ _ _ h0 (fun i hi => by
        have : i = 0 ∨ i = 1 := by simp at hi; omega
        rcases this with rfl | rfl <;> rfl)⟩
    · exact ⟨w.heap.size + 1, by unfold World.cell?; rw [h4]; rfl, .inr ⟨by omega, by omega⟩, hT _ _ _ _ _ h1 (fun i hi => by
        have : i = 0 ∨ i = 1 ∨ i = 2 ∨ i = 3 := by simp at hi; omega
        rcases this with rfl | rfl | rfl | rfl <;> rfl)⟩
    · exact ⟨w.heap.size + 1 + 1, by unfold World.cell?; rw [h4]; rfl, .inr ⟨by omega, by omega⟩, hT _ _ _ _ _ h2 (fun i hi => by
        have : i = 0 ∨ i = 1 := by simp at hi; omega
        rcases this with rfl | rfl <;> rfl)⟩
    · exact ⟨w.heap.size + 1 + 1 + 1, by unfold World.cell?; rw [h4]; rfl, .inr ⟨by omega, by omega⟩, hT _ _ _ _ _ h3 (fun i hi => by
        have : i = 0 ∨ i = 1 ∨ i = 2 := by simp at hi; omega
        rcases this with rfl | rfl | rfl <;> rfl)⟩
open Ps in
theorem choice_ru {L : Lv} (g : GrL L) {s s' : Ps.St} {r : Nat} (h : Ru (choice L) s r s') : ∃ x s1 b s2, Ru (chain (chain L.u binaries) logics) s x s1 ∧ Ru (take [63]) s1 b s2 ∧ ((b = false ∧ r = x ∧ s' = s2) ∨ (b = true ∧ ∃ y s3 u s4 z s5, Ru L.e s2 y s3 ∧ Ru (want [58]) s3 u s4 ∧ Ru L.e s4 z s5 ∧ Ru (over { k := 18 } [x, y, z]) s5 r s')) := by
  obtain ⟨e, n⟩ := h
  unfold choice at e
  simp only [] at e
  rcases e0 : chain (chain L.u binaries) logics s with ⟨x, s1⟩
  simp only [e0] at e
  rcases e1 : take [63] s1 with ⟨b, s2⟩
  simp only [e1] at e
  have gt : Gr (take [63]) := fun s => Nat.le_of_eq (by rw [take_n])
  cases b
  · simp only at e
    obtain ⟨rfl, rfl⟩ := Prod.mk.inj e
    have n1 := gb gt e1 n
    exact ⟨_, s1, false, _, ⟨e0, n1⟩, ⟨e1, n⟩, .inl ⟨rfl, rfl, rfl⟩⟩
  · simp only at e
    rcases e2 : L.e s2 with ⟨y, s3⟩
    simp only [e2] at e
    rcases e3 : want [58] s3 with ⟨u, s4⟩
    simp only [e3] at e
    rcases e4 : L.e s4 with ⟨z, s5⟩
    simp only [e4] at e
    have n5 := gb (gr_over _ _) e n
    have n4 := gb g.e e4 n5
    have n3 := gb (gr_want _) e3 n4
    have n2 := gb g.e e2 n3
    have n1 := gb gt e1 n2
    exact ⟨x, s1, true, s2, ⟨e0, n1⟩, ⟨e1, n2⟩, .inr ⟨rfl, y, s3, u, s4, z, s5, ⟨e2, n3⟩, ⟨e3, n4⟩, ⟨e4, n5⟩, ⟨e, n⟩⟩⟩
section
variable {F : Nat → Prop} {base B dep : Nat} {L : Ps.Lv} {s s' : Ps.St} {nv : Value} {w : World} {r : Nat}
theorem Tells.of {F F' : Nat → Prop} {nv0 : Value} {w0 : World} {v : Value} {e : Ending} {w' : World} (h : Tells F' base B dep nv w s' v e w') (hF : ∀ k, F k → F' k) (c : Chg B nv0 nv w0 w) : Tells F base B dep nv0 w0 s' v e w' := by
  obtain ⟨rfl, nv', hr, hc⟩ := h
  exact ⟨rfl, nv', hr.less hF, c.trans hc⟩
set_option maxRecDepth 100000 in
set_option maxHeartbeats 2000000 in
theorem c_compared (hL : ∀ F, LvC F base B dep L) (hI : Ps.IxL L) (hS : Ps.ShL L) (E : Ru (Ps.chain L.u Ps.binaries) s r s') (h : RS F base B dep s nv w) : Calls Tryd.prog 82 #[.pointer (some ⟨B, 0, none⟩)] w (Tells F base B dep nv w s' (.int .i64 (r : Int))) := by
  have HB : Hid (_) := binaries_any h
  have HCH : Hid (∀ {F : Nat → Prop} {nv : Value} {w : World} {rv : Value}, RS F base B dep s nv w → BnV F w rv [[[61, 61, 61], [33, 61, 61]], [[60], [60, 61], [62], [62, 61]], [[43], [45]], [[42], [47], [37]]] → Calls Tryd.prog 83 #[.pointer (some ⟨B, 0, none⟩), rv, .func (.func 85) #[.pointer (some ⟨B, 0, none⟩)] #[]] w (Tells F base B dep nv w s' (.int .i64 (r : Int)))) := fun h hv =>
    c_chain_binary (part := L.u) (hL F).gr.u hI.u hS.u (fun E h => c_u hL E h) [[[61, 61, 61], [33, 61, 61]], [[60], [60, 61], [62], [62, 61]], [[43], [45]], [[42], [47], [37]]] (by simp) (by simp) (by simp) E h hv
  clear h E
  go_enter Tryd.func82, Tryd.ntmps82
  go_wp2_with fail
  refine Calls.mono HB.out ?_
  rintro e w1 ⟨g, rfl, hr1, hc1, hv1⟩
  go_wp2_with fail
  refine Calls.mono (HCH.out hr1 ⟨g, 0, rfl, hv1⟩) ?_
  intro e w2 ht
  obtain ⟨rfl, nv2, hr2, hc2⟩ := ht.of (fun k hk => .inl hk) hc1
  go_wp2_with fail
  go_ret
  exact ⟨rfl, nv2, hr2, hc2⟩
set_option maxRecDepth 100000 in
set_option maxHeartbeats 2000000 in
theorem c_choice (hL : ∀ F, LvC F base B dep L) (hI : Ps.IxL L) (hS : Ps.ShL L) (E : Ru (Ps.choice L) s r s') (h : RS F base B dep s nv w) : Calls Tryd.prog 78 #[.pointer (some ⟨B, 0, none⟩)] w (Tells F base B dep nv w s' (.int .i64 (r : Int))) := by
  obtain ⟨x, s1, b, s2, E1, E2, E3⟩ := choice_ru (hL F).gr E
  have HB : Hid (_) := logics_any h
  have HCH : Hid (∀ {F : Nat → Prop} {nv : Value} {w : World} {rv : Value}, RS F base B dep s nv w → LgV F w rv [([124, 124], 17), ([38, 38], 16)] → Calls Tryd.prog 80 #[.pointer (some ⟨B, 0, none⟩), rv, .func (.func 82) #[.pointer (some ⟨B, 0, none⟩)] #[]] w (Tells F base B dep nv w s1 (.int .i64 (x : Int)))) := fun h hv =>
    c_chain_logic (part := Ps.chain L.u Ps.binaries) (Ps.gr_chain (hL F).gr.u _) (Ps.ix_chain hI.u _) (Ps.sh_chain hS.u _) (fun E h => c_compared hL hI hS E h) [([124, 124], 17), ([38, 38], 16)] (by simp) (by simp) E1 h hv
  have hx : x < s1.nodes.length := by
    have := Ps.ix_chain (Ps.ix_chain hI.u Ps.binaries) Ps.logics s
    rw [E1.eq] at this; exact this
  have h12 : s2.nodes = s1.nodes := by have := Ps.take_n [63] s1; rw [E2.eq] at this; exact this
  clear h E E1
  rcases E3 with ⟨rfl, rfl, rfl⟩ | ⟨rfl, y, s3, u, s4, z, s5, E3, E4, E5, E6⟩
  · clear hx h12
    go_enter Tryd.func78, Tryd.ntmps78
    go_wp2_with fail
    refine Calls.mono HB.out ?_
    rintro e w1 ⟨g, rfl, hr1, hc1, hv1⟩
    go_wp2_with fail
    refine Calls.mono (HCH.out hr1 ⟨g, 0, rfl, hv1⟩) ?_
    intro e w2 ht
    obtain ⟨rfl, nv2, hr2, hc2⟩ := ht.of (fun k hk => .inl hk) hc1
    go_wp2_with fail
    refine Calls.mono (c_take (m := [63]) E2 hr2) ?_
    rintro e w3 ⟨rfl, nv3, hr3, hc3⟩
    go_wp2_with fail
    go_ret
    exact ⟨rfl, nv3, hr3, hc2.trans hc3⟩
  · have HK : Hid (x < s5.nodes.length) := (show x < s5.nodes.length from by
      have h3 := (hL F).gr.e s2
      rw [E3.eq] at h3
      have h4 := Ps.gr_want [58] s3
      rw [E4.eq] at h4
      have h5 := (hL F).gr.e s4
      rw [E5.eq] at h5
      rw [h12] at h3
      simp only at h3 h4 h5
      omega)
    clear hx h12
    go_enter Tryd.func78, Tryd.ntmps78
    go_wp2_with fail
    refine Calls.mono HB.out ?_
    rintro e w1 ⟨g, rfl, hr1, hc1, hv1⟩
    go_wp2_with fail
    refine Calls.mono (HCH.out hr1 ⟨g, 0, rfl, hv1⟩) ?_
    intro e w2 ht
    obtain ⟨rfl, nv2, hr2, hc2⟩ := ht.of (fun k hk => .inl hk) hc1
    clear hr1 hc1 hv1
    go_wp2_with fail
    refine Calls.mono (c_take (m := [63]) E2 hr2) ?_
    rintro e w3 ⟨rfl, nv3, hr3, hc3⟩
    go_wp2_with fail
    refine Calls.mono (c_e hL E3 hr3) ?_
    rintro e w4 ⟨rfl, nv4, hr4, hc4⟩
    go_wp2_with fail
    refine Calls.mono (c_want (m := [58]) E4 hr4) ?_
    rintro e w5 ⟨rfl, nv5, hr5, hc5⟩
    go_wp2_with fail
    refine Calls.mono (c_e hL E5 hr5) ?_
    rintro e w6 ⟨rfl, nv6, hr6, hc6⟩
    go_wp2_with fail
    refine Calls.mono (c_over (k := 18) (t := []) E6 hr6 HK.out #[.int .i64 (x : Int), .int .i64 (y : Int), .int .i64 (z : Int)] 3 rfl (fun j hj => by
      have : j = 0 ∨ j = 1 ∨ j = 2 := by simp at hj; omega
      rcases this with rfl | rfl | rfl <;> rfl)) ?_
    rintro e w7 ⟨rfl, nv7, hr7, hc7⟩
    go_wp2_with fail
    go_ret
    exact ⟨rfl, nv7, hr7, ((((hc2.trans hc3).trans hc4).trans hc5).trans hc6).trans hc7⟩
end
end Go.Proofs.YtoeolonbkeldoaaDoor.R
