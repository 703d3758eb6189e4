/- Texts: PsOo. -/
import Derived.Test.YtpjmapoiinjakaaGreatDoorBn12
import Derived.Deep.Upon
namespace Go.Proofs.YtpjmapoiinjakaaGreatDoor.R
open Go.RowKit
open L (tkA own_block own_below info_of wpList_append_run)
set_option linter.unusedVariables false
section
variable {F : Nat → Prop} {base B dep : Nat} {s s' : Ps.St} {nv nv' : Value} {w0 W W' : World} {e : TypeId} {v : Value} {n : Nat} {xs : List Value}
/-- A row behind another one, and what stays. -/
theorem KO.name2 {N : List (List UInt8)} (h : KO F base B dep s nv w0 W 9 v N.length (nc N)) (x : List UInt8) (hn : N.length + 1 ≤ 1000000) :
    ∃ a' cap' w3, (Builtin.append_ #[35, 35] 35 #[v, .slice (some ⟨W.heap.size, 0, none⟩) 1 1]).run Tryz.prog (W.alloc (.cells #[.string ⟨x.toArray⟩] 9)) = .ok (.slice a' (N.length + 1) cap') w3 ∧ KO F base B dep s nv w0 w3 9 (.slice a' (N ++ [x]).length cap') (N ++ [x]).length (nc (N ++ [x])) ∧ (∀ nv0, Chg B nv0 nv w0 W → Chg B nv0 nv w0 w3) ∧
      W.heap.size ≤ w3.heap.size ∧ (∀ k, k < W.heap.size → v.ownBlock ≠ some k → w3.heap[k]? = W.heap[k]?) ∧ (∀ k, (Value.slice a' (N ++ [x]).length cap').ownBlock = some k → v.ownBlock = some k ∨ W.heap.size ≤ k) := by
  obtain ⟨i0, hi, hz0, hz1, hz2⟩ := info_of infoStr
  have hW : Below W.heap.size W (W.alloc (.cells #[.string ⟨x.toArray⟩] 9)) := (Below.refl _ _).alloc (Nat.le_refl _) _
  have ho1 := own_below h.own hW
  have nl := own_block h.own
  have hnews : ∀ j u, [Value.string ⟨x.toArray⟩][j]? = some u → (W.alloc (.cells #[.string ⟨x.toArray⟩] 9)).cell? ((⟨W.heap.size, 0, none⟩ : Addr).add j) = some u := fun j u hj => by
    have hj0 : j = 0 := by
      rcases Nat.lt_or_ge j 1 with h | h
      · omega
      · rw [List.getElem?_eq_none (by simpa using h)] at hj; cases hj
    subst hj0
    simp at hj; subst hj; simp [Addr.add]
  obtain ⟨v', w3, hr, ho, hg, _, hat⟩ := run_append_own_at (P := Tryz.prog) (W.alloc (.cells #[.string ⟨x.toArray⟩] 9)) w0.heap.size 35 35 9 i0 _ 1 16 Tryz.underlying35 hi hz0 hz1 hz2 rfl (by decide) v N.length (nc N) ho1 ⟨W.heap.size, 0, none⟩ 1 1 [.string ⟨x.toArray⟩] rfl hnews (by intro u hu; simp at hu; subst hu; rfl) (by unfold maxLen; omega) (by omega) (Nat.le_trans h.sz hW.size)
  obtain ⟨a, cap, rfl⟩ : ∃ a cap, v' = .slice a (N.length + 1) cap := by
    rcases ho.2 with ⟨_, e⟩ | ⟨g, cap, cur, e, _⟩
    · omega
    · exact ⟨_, _, e⟩
  have hsz : W.heap.size ≤ w3.heap.size := Nat.le_trans hW.size hg.size
  have nl' := own_block ho
  have hbl : ∀ k, k < W.heap.size → v.ownBlock ≠ some k → w3.heap[k]? = W.heap[k]? := fun k hk hne => (hg.block k (Nat.lt_of_lt_of_le hk hW.size) (fun e => hne e.symm)).trans (hW.block k hk)
  have hnew : ∀ k, (Value.slice a (N.length + 1) cap).ownBlock = some k → v.ownBlock = some k ∨ W.heap.size ≤ k := fun k hk => by
    rcases hat with e | e
    · exact .inl (e ▸ hk)
    · rw [e] at hk
      have hk' : (W.alloc (.cells #[.string ⟨x.toArray⟩] 9)).heap.size = k := by simpa using hk
      exact .inr (by have := hW.size; omega)
  have hl : (N ++ [x]).length = N.length + 1 := by simp
  refine ⟨a, cap, w3, hr, ?_, fun nv0 c0 => ⟨hg.os.trans (hW.os.trans c0.os), hg.tape.trans (hW.tape.trans c0.tape), hg.output.trans (hW.output.trans c0.output), Nat.le_trans c0.size hsz, fun k hk h2 h3 => (hbl k (Nat.lt_of_lt_of_le hk c0.size) (fun e => by have := (nl k e).1; omega)).trans (c0.block k hk h2 h3), c0.fresh⟩, hsz, hbl, by rw [hl]; exact hnew⟩
  rw [hl]
  refine ⟨h.rs.grow hsz (fun k hk hnf => hbl k hk (fun e => hnf (.inr e))) (fun k hk => ?_), by simpa using ho, Nat.le_trans h.sz hsz⟩
  rcases hk with hk | hk
  · have := (h.rs.far k (.inl hk)).1
    exact ⟨.inl (.inl hk), by omega⟩
  · refine ⟨?_, (nl' k hk).2⟩
    rcases hnew k hk with e | e
    · exact .inl (.inr e)
    · exact .inr e
end
/-- An object's box, its reader's, its names, beside the reader. -/
structure Ob (F : Nat → Prop) (base B dep : Nat) (s : Ps.St) (nv : Value) (w0 W : World) (X Y x5 : Nat) (N : List (List UInt8)) (na : Option Addr) (ncap : Nat) : Prop where
  ko : KO (fun k => F k ∨ k = X ∨ k = Y) base B dep s nv w0 W 9 (.slice na N.length ncap) N.length (nc N)
  box : W.heap[X]? = some (.cells #[.int .i64 8, .int .i64 0, .string ⟨#[]⟩, .slice na N.length ncap, .slice none 0 0, .int .i64 (x5 : Int)] 43 (0, 0))
  self : W.heap[Y]? = some (.cells #[.pointer (some ⟨B, 0, none⟩)] 69 (0, 0))
  nX : ∀ k, (Value.slice na N.length ncap).ownBlock = some k → k ≠ X ∧ k ≠ Y ∧ ¬ F k
  XY : X ≠ Y ∧ ¬ F X ∧ ¬ F Y ∧ w0.heap.size ≤ X
variable {F : Nat → Prop} {base B dep : Nat} {s s' : Ps.St} {nv nv' : Value} {w0 W W' : World} {X Y x5 : Nat} {N : List (List UInt8)} {na : Option Addr} {ncap : Nat}
theorem Ob.go (h : Ob F base B dep s nv w0 W X Y x5 N na ncap) (hr : RS (fun k => (F k ∨ k = X ∨ k = Y) ∨ (Value.slice na N.length ncap).ownBlock = some k) base B dep s' nv' W') (c : Chg B nv nv' W W') : Ob F base B dep s' nv' w0 W' X Y x5 N na ncap :=
  ⟨h.ko.go hr c, (h.ko.rs.keepF c (.inl (.inr (.inl rfl)))).trans h.box, (h.ko.rs.keepF c (.inl (.inr (.inr rfl)))).trans h.self, h.nX, h.XY⟩
theorem Ob.facts (h : Ob F base B dep s nv w0 W X Y x5 N na ncap) : W.cell? ⟨X, 3, none⟩ = some (.slice na N.length ncap) ∧ W.cell? ⟨Y, 0, none⟩ = some (.pointer (some ⟨B, 0, none⟩)) ∧ W.frozen? ⟨X, 3, none⟩ = false ∧ X < W.heap.size ∧ Y < W.heap.size := by
  have h1 := h.box
  have h2 := h.self
  exact ⟨by simp [World.cell?, h1], by simp [World.cell?, h2], by simp [World.frozen?, h1], Nat.lt_of_not_le (fun hg => by rw [Array.getElem?_eq_none hg] at h1; cases h1), Nat.lt_of_not_le (fun hg => by rw [Array.getElem?_eq_none hg] at h2; cases h2)⟩
/-- One name more. -/
theorem Ob.more (h : Ob F base B dep s nv w0 W X Y x5 N na ncap) (x : List UInt8) (hn : N.length + 1 ≤ 1000000) :
    ∃ a' cap' w3, (Builtin.append_ #[35, 35] 35 #[.slice na N.length ncap, .slice (some ⟨W.heap.size, 0, none⟩) 1 1]).run Tryz.prog (W.alloc (.cells #[.string ⟨x.toArray⟩] 9)) = .ok (.slice a' (N.length + 1) cap') w3 ∧
      w3.cell? ⟨X, 3, none⟩ = some (.slice na N.length ncap) ∧ w3.frozen? ⟨X, 3, none⟩ = false ∧ X < w3.heap.size ∧ Ob F base B dep s nv w0 (w3.setCell ⟨X, 3, none⟩ (.slice a' (N.length + 1) cap')) X Y x5 (N ++ [x]) a' cap' ∧ (∀ nv0, Chg B nv0 nv w0 W → Chg B nv0 nv w0 (w3.setCell ⟨X, 3, none⟩ (.slice a' (N.length + 1) cap'))) ∧ W.heap.size ≤ (w3.setCell ⟨X, 3, none⟩ (.slice a' (N.length + 1) cap')).heap.size ∧ (∀ k, F k → (w3.setCell ⟨X, 3, none⟩ (.slice a' (N.length + 1) cap')).heap[k]? = W.heap[k]?) := by
  obtain ⟨a', cap', w3, hr, hko, hc, hsz, hbl, hnew⟩ := h.ko.name2 x hn
  obtain ⟨_, _, _, hlX, hlY⟩ := h.facts
  have nX : (Value.slice na N.length ncap).ownBlock ≠ some X := fun e => (h.nX X e).1 rfl
  have nY : (Value.slice na N.length ncap).ownBlock ≠ some Y := fun e => (h.nX Y e).2.1 rfl
  have hX3 := (hbl X hlX nX).trans h.box
  have hY3 := (hbl Y hlY nY).trans h.self
  have hs : (w3.setCell ⟨X, 3, none⟩ (.slice a' (N.length + 1) cap')).heap.size = w3.heap.size := by simp [World.setCell]
  have hne : ∀ k, k ≠ X → (w3.setCell ⟨X, 3, none⟩ (.slice a' (N.length + 1) cap')).heap[k]? = w3.heap[k]? := fun k hk => Below.heap_setCell w3 ⟨X, 3, none⟩ _ k hk
  have hl : (N ++ [x]).length = N.length + 1 := by simp
  have hnk : ∀ k, (Value.slice a' (N ++ [x]).length cap').ownBlock = some k → k ≠ X ∧ k ≠ Y ∧ ¬ F k := fun k hk => by
    rcases hnew k hk with e | e
    · exact h.nX k e
    · refine ⟨by omega, by omega, fun hF => ?_⟩
      have := (h.ko.rs.far k (.inl (.inl hF))).1
      omega
  refine ⟨a', cap', w3, hr, by simp [World.cell?, hX3], by simp [World.frozen?, hX3], by omega, ⟨⟨hko.rs.foreign (.inl (.inr (.inl rfl))) 3 _, own_keep hko.own (fun k hk => hne k (hnk k hk).1), by rw [hs]; exact hko.sz⟩, ?_, (hne Y (Ne.symm h.XY.1)).trans hY3, hnk, h.XY⟩, fun nv0 c0 => (hc nv0 c0).setX h.XY.2.2.2 3 _, by rw [hs]; exact hsz, fun k hk => ?_⟩
  · rw [hl]; simp [World.setCell, Array.getElem?_modify, hX3]
  · rw [hne k (fun e => h.XY.2.1 (e ▸ hk))]
    exact hbl k (h.ko.rs.far k (.inl (.inl hk))).1 (fun e => (h.nX k e).2.2 hk)
open Ps in
theorem pair_ru {L : Lv} (g : GrL L) {s s' : Ps.St} {p : List UInt8 × Nat} (h : Ru (pair L) s p s') : ∃ t s1 u s2 y, Ru (textOf [3, 4, 2]) s t s1 ∧ Ru (want [58]) s1 u s2 ∧ Ru L.e s2 y s' ∧ p = (t, y) := by
  obtain ⟨e, n⟩ := h
  unfold pair at e
  simp only [] at e
  rcases e0 : textOf [3, 4, 2] s with ⟨t, s1⟩
  simp only [e0] at e
  rcases e1 : want [58] s1 with ⟨u, s2⟩
  simp only [e1] at e
  rcases e2 : L.e s2 with ⟨y, s3⟩
  simp only [e2] at e
  obtain ⟨rfl, rfl⟩ := Prod.mk.inj e
  have n2 := gb g.e e2 n
  have n1 := gb (gr_want _) e1 n2
  exact ⟨t, s1, u, s2, y, ⟨e0, n1⟩, ⟨e1, n2⟩, ⟨e2, n⟩, rfl⟩
/-- What is left by a call that gathers a name. -/
def ObR (F : Nat → Prop) (base B dep : Nat) (s' : Ps.St) (nv : Value) (w0 w : World) (X Y x5 : Nat) (N : List (List UInt8)) (w' : World) : Prop :=
  ∃ na ncap nv', Ob F base B dep s' nv' w0 w' X Y x5 N na ncap ∧ (∀ nv0, Chg B nv0 nv w0 w → Chg B nv0 nv' w0 w') ∧ w.heap.size ≤ w'.heap.size ∧ (∀ k, F k → w'.heap[k]? = w.heap[k]?)
/-- What the walk is told behind the append. -/
def ApR (F : Nat → Prop) (base B dep : Nat) (s' : Ps.St) (nv : Value) (w0 w : World) (X Y x5 : Nat) (N : List (List UInt8)) (x : List UInt8) (old v' : Value) (w3 : World) : Prop :=
  ∃ a' cap', v' = .slice a' (N.length + 1) cap' ∧ w3.cell? ⟨X, 3, none⟩ = some old ∧ w3.frozen? ⟨X, 3, none⟩ = false ∧ X < w3.heap.size ∧ Hid (ObR F base B dep s' nv w0 w X Y x5 (N ++ [x]) (w3.setCell ⟨X, 3, none⟩ (.slice a' (N.length + 1) cap')))
set_option maxRecDepth 100000 in
set_option maxHeartbeats 4000000 in
theorem c_pair {L : Ps.Lv} {p : List UInt8 × Nat} {w : World} (hL : ∀ F, LvC F base B dep L) (E : Ru (Ps.pair L) s p s') (h : Ob F base B dep s nv w0 w X Y x5 N na ncap) (hn : N.length + 1 ≤ 1000000) :
    Calls Tryz.prog 134 #[.pointer (some ⟨X, 0, none⟩), .pointer (some ⟨Y, 0, none⟩)] w fun e w' => e = .returned (.int .i64 (p.2 : Int)) ∧ ObR F base B dep s' nv w0 w X Y x5 (N ++ [p.1]) w' := by
  obtain ⟨t, s1, u, s2, y, E1, E2, E3, rfl⟩ := pair_ru (hL F).gr E
  obtain ⟨c3, cY, f3, hlX, hlY⟩ := h.facts
  have H : Hid (_) := h
  have HN : Hid (N.length + 1 ≤ 1000000) := hn
  have HTX : Hid (∀ W, (W = w.alloc (.cells #[.int .i64 3, .int .i64 4, .int .i64 2] 3) ∨ W = (w.alloc (.cells #[.int .i64 3, .int .i64 4, .int .i64 2] 3)).drew ∨ W = w.drew.alloc (.cells #[.int .i64 3, .int .i64 4, .int .i64 2] 3)) → Calls Tryz.prog 108 #[.pointer (some ⟨B, 0, none⟩), .slice (some ⟨w.heap.size, 0, none⟩) 3 3] W fun e w' => e = .returned (.string ⟨t.toArray⟩) ∧ w'.cell? ⟨X, 3, none⟩ = some (.slice na N.length ncap) ∧ w'.cell? ⟨Y, 0, none⟩ = some (.pointer (some ⟨B, 0, none⟩)) ∧ X < w'.heap.size ∧ Y < w'.heap.size ∧ Hid (ObR F base B dep s1 nv w0 w X Y x5 N w' ∧ ∃ nv', Ob F base B dep s1 nv' w0 w' X Y x5 N na ncap ∧ (∀ nv0, Chg B nv0 nv w0 w → Chg B nv0 nv' w0 w') ∧ w.heap.size ≤ w'.heap.size ∧ (∀ k, F k → w'.heap[k]? = w.heap[k]?))) := fun W hW => by
    have hb : Below w.heap.size w W := by
      rcases hW with rfl | rfl | rfl
      · exact (Below.refl _ _).alloc (Nat.le_refl _) _
      · exact ((Below.refl _ _).alloc (Nat.le_refl _) _).drew
      · exact (Below.refl _ _).drew.alloc (Nat.le_refl _) _
    have hx : W.heap[w.heap.size]? = some (.cells #[.int .i64 3, .int .i64 4, .int .i64 2] 3 (0, 0)) := by
      rcases hW with rfl | rfl | rfl <;> exact Array.getElem?_push_size
    have hr := h.ko.rs.below hb
    have := textOf_any hr (E1.back (Ps.gr_textOf _)) [3, 4, 2] w.heap.size 3 (Nat.lt_of_not_le (fun hg => by rw [Array.getElem?_eq_none hg] at hx; cases hx)) (fun j hj => by
      have : j = 0 ∨ j = 1 ∨ j = 2 := by simp at hj; omega
      unfold World.cell?; rw [hx]
      rcases this with rfl | rfl | rfl <;> rfl) (by simp) (by simp)
    rw [E1.eq] at this
    refine this.mono ?_
    rintro e w' ⟨rfl, nv', hr', hc'⟩
    have cc := (Chg.below nv hb).trans hc'
    have ho := h.go hr' cc
    have hf := ho.facts
    have hk : ∀ k, F k → w'.heap[k]? = w.heap[k]? := fun k hk => h.ko.rs.keepF cc (.inl (.inl hk))
    exact ⟨rfl, hf.1, hf.2.1, hf.2.2.2.1, hf.2.2.2.2, ⟨na, ncap, nv', ho, fun nv0 c0 => c0.trans cc, cc.size, hk⟩, nv', ho, fun nv0 c0 => c0.trans cc, cc.size, hk⟩
  have HAP : Hid (∀ W, Hid (ObR F base B dep s1 nv w0 w X Y x5 N W ∧ ∃ nv', Ob F base B dep s1 nv' w0 W X Y x5 N na ncap ∧ (∀ nv0, Chg B nv0 nv w0 w → Chg B nv0 nv' w0 W) ∧ w.heap.size ≤ W.heap.size ∧ (∀ k, F k → W.heap[k]? = w.heap[k]?)) → ∃ v' w3, (Builtin.append_ #[35, 35] 35 #[.slice na N.length ncap, .slice (some ⟨W.heap.size, 0, none⟩) 1 1]).run Tryz.prog (W.alloc (.cells #[.string ⟨t.toArray⟩] 9)) = .ok v' w3 ∧ ApR F base B dep s1 nv w0 w X Y x5 N t (.slice na N.length ncap) v' w3) := fun W hW => by
    obtain ⟨_, nv', ho, hc, hs, hk⟩ := hW.out
    obtain ⟨a', cap', w3, hr, k1, k2, k3, ho', hc', hs', hk'⟩ := ho.more t HN.out
    exact ⟨_, w3, hr, a', cap', rfl, k1, k2, k3, ⟨a', cap', nv', ho', fun nv0 c0 => hc' nv0 (hc nv0 c0), Nat.le_trans hs hs', fun k hF => (hk' k hF).trans (hk k hF)⟩⟩
  clear h hn E E1
  go_enter Tryz.func134, Tryz.ntmps134
  go_upto_region 1 with fail
  go_cut [] (fun wx => Hid (ObR F base B dep s1 nv w0 w X Y x5 (N ++ [t]) wx))
  case first =>
    go_region_law (first | (refine step_append_ex (by rfl) _ _ 35 (by rfl) _ _ (by rfl) (by rfl) (ApR F base B dep s1 nv w0 w X Y x5 N t (.slice na N.length ncap)) (HAP.out _ (by assumption)) ?_; rintro v' w7 ⟨a7, cap7, rfl, hc7, hf7, hl7, HA7⟩) | (go_simp; go_at_call 108; refine Calls.mono (HTX.out _ (by first | exact .inl rfl | exact .inr (.inl rfl) | exact .inr (.inr rfl))) ?_; rintro e w5 ⟨rfl, hx5, hy5, hX5, hY5, HO5⟩; try dsimp only))
    all_goals
      go_wp2_with fail
      go_meet
      case rel => exact HA7
  case rest =>
    clear HTX HAP c3 cY f3
    obtain ⟨na2, ncap2, nv2, ho2, hc2, hs2, hk2⟩ := Hid.out hcut
    have HH : Hid (_ ∧ _ ∧ _ ∧ _) := (show _ ∧ _ ∧ _ ∧ _ from ⟨ho2, hc2, hs2, hk2⟩)
    obtain ⟨d3, dY, g3, hmX, hmY⟩ := ho2.facts
    clear ho2 hc2 hs2 hk2 hcut
    go_wp2_with fail
    refine Calls.mono (c_want (m := [58]) E2 HH.out.1.ko.rs) ?_
    rintro e w3 ⟨rfl, nv3, hr3, hc3⟩
    have ho3 := HH.out.1.go hr3 hc3
    obtain ⟨e3, eY, _, _, _⟩ := ho3.facts
    have HO3 : Hid (_) := ho3
    have HC3 : Hid (_) := hc3
    clear ho3 hc3 d3 dY g3 hr3
    go_wp2_with fail
    refine Calls.mono (c_e hL E3 HO3.out.ko.rs) ?_
    rintro e w4 ⟨rfl, nv4, hr4, hc4⟩
    have HO4 : Hid (_) := HO3.out.go hr4 hc4
    have HC4 : Hid (_) := HC3.out.trans hc4
    have HF : Hid (∀ k, F k → w4.heap[k]? = w.heap[k]?) := fun k hk => (HO3.out.ko.rs.keepF hc4 (.inl (.inl hk))).trans ((HH.out.1.ko.rs.keepF HC3.out (.inl (.inl hk))).trans (HH.out.2.2.2 k hk))
    clear e3 eY hr4 hc4
    go_wp2_with fail
    go_ret
    exact ⟨rfl, na2, ncap2, nv4, HO4.out, fun nv0 c0 => (HH.out.2.1 nv0 c0).trans HC4.out, Nat.le_trans HH.out.2.2.1 HC4.out.size, HF.out⟩
end Go.Proofs.YtpjmapoiinjakaaGreatDoor.R
namespace Go.Proofs.YtpjmapoiinjakaaGreatDoor.R
open Go.RowKit
open L (tkA own_block own_below info_of wpList_append_run)
set_option linter.unusedVariables false
section
variable {F : Nat → Prop} {base B dep : Nat} {s s' : Ps.St} {nv nv' : Value} {w0 W W' : World} {e : TypeId} {v : Value} {n : Nat} {xs : List Value}
/-- One kid behind a row, and what stays. -/
theorem KO.kid2 {K : List Nat} (h : KO F base B dep s nv w0 W 3 v K.length (kc K)) (x : Nat) (hn : K.length + 1 ≤ 1000000) :
    ∃ a' cap' w3, (Builtin.append_ #[41, 41] 41 #[v, .slice (some ⟨W.heap.size, 0, none⟩) 1 1]).run Tryz.prog (W.alloc (.cells #[.int .i64 (x : Int)] 3)) = .ok (.slice a' (K.length + 1) cap') w3 ∧ KO F base B dep s nv w0 w3 3 (.slice a' (K ++ [x]).length cap') (K ++ [x]).length (kc (K ++ [x])) ∧ (∀ nv0, Chg B nv0 nv w0 W → Chg B nv0 nv w0 w3) ∧
      W.heap.size ≤ w3.heap.size ∧ (∀ k, k < W.heap.size → v.ownBlock ≠ some k → w3.heap[k]? = W.heap[k]?) ∧ (∀ k, (Value.slice a' (K ++ [x]).length cap').ownBlock = some k → v.ownBlock = some k ∨ W.heap.size ≤ k) := by
  obtain ⟨i0, hi, hz0, hz1, hz2⟩ := info_of infoInt
  have hW : Below W.heap.size W (W.alloc (.cells #[.int .i64 (x : Int)] 3)) := (Below.refl _ _).alloc (Nat.le_refl _) _
  have ho1 := own_below h.own hW
  have nl := own_block h.own
  have hnews : ∀ j u, [Value.int .i64 (x : Int)][j]? = some u → (W.alloc (.cells #[.int .i64 (x : Int)] 3)).cell? ((⟨W.heap.size, 0, none⟩ : Addr).add j) = some u := fun j u hj => by
    have hj0 : j = 0 := by
      rcases Nat.lt_or_ge j 1 with h | h
      · omega
      · rw [List.getElem?_eq_none (by simpa using h)] at hj; cases hj
    subst hj0
    simp at hj; subst hj; simp [Addr.add]
  obtain ⟨v', w3, hr, ho, hg, _, hat⟩ := run_append_own_at (P := Tryz.prog) (W.alloc (.cells #[.int .i64 (x : Int)] 3)) w0.heap.size 41 41 3 i0 _ 1 8 Tryz.underlying41 hi hz0 hz1 hz2 rfl (by decide) v K.length (kc K) ho1 ⟨W.heap.size, 0, none⟩ 1 1 [.int .i64 (x : Int)] rfl hnews (by intro u hu; simp at hu; subst hu; rfl) (by unfold maxLen; omega) (by omega) (Nat.le_trans h.sz hW.size)
  obtain ⟨a, cap, rfl⟩ : ∃ a cap, v' = .slice a (K.length + 1) cap := by
    rcases ho.2 with ⟨_, e⟩ | ⟨g, cap, cur, e, _⟩
    · omega
    · exact ⟨_, _, e⟩
  have hsz : W.heap.size ≤ w3.heap.size := Nat.le_trans hW.size hg.size
  have nl' := own_block ho
  have hbl : ∀ k, k < W.heap.size → v.ownBlock ≠ some k → w3.heap[k]? = W.heap[k]? := fun k hk hne => (hg.block k (Nat.lt_of_lt_of_le hk hW.size) (fun e => hne e.symm)).trans (hW.block k hk)
  have hnew : ∀ k, (Value.slice a (K.length + 1) cap).ownBlock = some k → v.ownBlock = some k ∨ W.heap.size ≤ k := fun k hk => by
    rcases hat with e | e
    · exact .inl (e ▸ hk)
    · rw [e] at hk
      have hk' : (W.alloc (.cells #[.int .i64 (x : Int)] 3)).heap.size = k := by simpa using hk
      exact .inr (by have := hW.size; omega)
  have hl : (K ++ [x]).length = K.length + 1 := by simp
  refine ⟨a, cap, w3, hr, ?_, fun nv0 c0 => ⟨hg.os.trans (hW.os.trans c0.os), hg.tape.trans (hW.tape.trans c0.tape), hg.output.trans (hW.output.trans c0.output), Nat.le_trans c0.size hsz, fun k hk h2 h3 => (hbl k (Nat.lt_of_lt_of_le hk c0.size) (fun e => by have := (nl k e).1; omega)).trans (c0.block k hk h2 h3), c0.fresh⟩, hsz, hbl, by rw [hl]; exact hnew⟩
  rw [hl]
  refine ⟨h.rs.grow hsz (fun k hk hnf => hbl k hk (fun e => hnf (.inr e))) (fun k hk => ?_), by simpa using ho, Nat.le_trans h.sz hsz⟩
  rcases hk with hk | hk
  · have := (h.rs.far k (.inl hk)).1
    exact ⟨.inl (.inl hk), by omega⟩
  · refine ⟨?_, (nl' k hk).2⟩
    rcases hnew k hk with e | e
    · exact .inl (.inr e)
    · exact .inr e
end
variable {F : Nat → Prop} {base B dep : Nat} {s s' : Ps.St} {nv nv' : Value} {w0 W W' : World} {X Y x5 : Nat} {N : List (List UInt8)} {na : Option Addr} {ncap : Nat}
/-- An object's names, and kids, that are being gathered. -/
structure Ok2 (F : Nat → Prop) (base B dep : Nat) (s : Ps.St) (nv : Value) (w0 W : World) (X Y x5 : Nat) (N : List (List UInt8)) (na : Option Addr) (ncap : Nat) (K : List Nat) (ka : Option Addr) (kcap : Nat) : Prop where
  ob : Ob (fun k => F k ∨ (Value.slice ka K.length kcap).ownBlock = some k) base B dep s nv w0 W X Y x5 N na ncap
  own : W.ownsRow w0.heap.size 3 1 (.slice ka K.length kcap) K.length (kc K)
  old : ∀ k, F k → k < w0.heap.size
theorem Ok2.kid {K : List Nat} {ka : Option Addr} {kcap : Nat} (h : Ok2 F base B dep s nv w0 W X Y x5 N na ncap K ka kcap) (x : Nat) (hn : K.length + 1 ≤ 1000000) :
    ∃ a' cap' w3, (Builtin.append_ #[41, 41] 41 #[.slice ka K.length kcap, .slice (some ⟨W.heap.size, 0, none⟩) 1 1]).run Tryz.prog (W.alloc (.cells #[.int .i64 (x : Int)] 3)) = .ok (.slice a' (K.length + 1) cap') w3 ∧ Ok2 F base B dep s nv w0 w3 X Y x5 N na ncap (K ++ [x]) a' cap' ∧ (∀ nv0, Chg B nv0 nv w0 W → Chg B nv0 nv w0 w3) ∧ W.heap.size ≤ w3.heap.size ∧ (∀ k, F k → w3.heap[k]? = W.heap[k]?) := by
  have hko : KO (fun k => F k ∨ k = X ∨ k = Y ∨ (Value.slice na N.length ncap).ownBlock = some k) base B dep s nv w0 W 3 (.slice ka K.length kcap) K.length (kc K) :=
    ⟨h.ob.ko.rs.less (fun k hk => by
      rcases hk with (hk | hk | hk | hk) | hk
      · exact .inl (.inl (.inl hk))
      · exact .inl (.inr (.inl hk))
      · exact .inl (.inr (.inr hk))
      · exact .inr hk
      · exact .inl (.inl (.inr hk))), h.own, h.ob.ko.sz⟩
  obtain ⟨a', cap', w3, hr, hko', hc, hsz, hbl, hnew⟩ := hko.kid2 x hn
  obtain ⟨_, _, _, hlX, hlY⟩ := h.ob.facts
  have kX : (Value.slice ka K.length kcap).ownBlock ≠ some X := fun e => h.ob.XY.2.1 (.inr e)
  have kY : (Value.slice ka K.length kcap).ownBlock ≠ some Y := fun e => h.ob.XY.2.2.1 (.inr e)
  have nl := own_block h.ob.ko.own
  have kN : ∀ k, (Value.slice na N.length ncap).ownBlock = some k → (Value.slice ka K.length kcap).ownBlock ≠ some k := fun k hk e => (h.ob.nX k hk).2.2 (.inr e)
  refine ⟨a', cap', w3, hr, ⟨⟨⟨hko'.rs.less (fun k hk => ?_), own_keep h.ob.ko.own (fun k hk => hbl k (nl k hk).2 (kN k hk)), Nat.le_trans h.ob.ko.sz hsz⟩, (hbl X hlX kX).trans h.ob.box, (hbl Y hlY kY).trans h.ob.self, fun k hk => ⟨(h.ob.nX k hk).1, (h.ob.nX k hk).2.1, fun hf => ?_⟩, h.ob.XY.1, fun hf => ?_, fun hf => ?_, h.ob.XY.2.2.2⟩, hko'.own, h.old⟩, hc, hsz, fun k hk => hbl k (h.ob.ko.rs.far k (.inl (.inl (.inl hk)))).1 (fun e => ?_)⟩
  · rcases hk with ((hk | hk) | hk | hk) | hk
    · exact .inl (.inl hk)
    · exact .inr hk
    · exact .inl (.inr (.inl hk))
    · exact .inl (.inr (.inr (.inl hk)))
    · exact .inl (.inr (.inr (.inr hk)))
  · rcases hf with hf | hf
    · exact (h.ob.nX k hk).2.2 (.inl hf)
    · rcases hnew k hf with e | e
      · exact kN k hk e
      · have := (nl k hk).2; omega
  · rcases hf with hf | hf
    · exact h.ob.XY.2.1 (.inl hf)
    · rcases hnew X hf with e | e
      · exact kX e
      · omega
  · rcases hf with hf | hf
    · exact h.ob.XY.2.2.1 (.inl hf)
    · rcases hnew Y hf with e | e
      · exact kY e
      · omega
  · have := h.old k hk; have := (own_block h.own k e).1; omega
theorem Ok2.start {x : Nat} (h : Ob F base B dep s nv w0 W X Y x5 N na ncap) (old : ∀ k, F k → k < w0.heap.size) : Ok2 F base B dep s nv w0 (W.alloc (.cells #[.int .i64 (x : Int)] 3)) X Y x5 N na ncap [x] (some ⟨W.heap.size, 0, none⟩) 1 := by
  have hb : Below W.heap.size W (W.alloc (.cells #[.int .i64 (x : Int)] 3)) := (Below.refl _ _).alloc (Nat.le_refl _) _
  have hX : (W.alloc (.cells #[.int .i64 (x : Int)] 3)).heap[W.heap.size]? = some (.cells #[.int .i64 (x : Int)] 3 (0, 0)) := Array.getElem?_push_size
  obtain ⟨_, _, _, hlX, hlY⟩ := h.facts
  have nl := own_block h.ko.own
  have hnew : ∀ k, (Value.slice (some ⟨W.heap.size, 0, none⟩) [x].length 1).ownBlock = some k → k = W.heap.size := fun k hk => by simpa [Value.ownBlock] using hk.symm
  refine ⟨⟨⟨(h.ko.rs.more (.cells #[.int .i64 (x : Int)] 3)).less (fun k hk => ?_), own_below h.ko.own hb, Nat.le_trans h.ko.sz hb.size⟩, (hb.block X hlX).trans h.box, (hb.block Y hlY).trans h.self, fun k hk => ⟨(h.nX k hk).1, (h.nX k hk).2.1, fun hf => ?_⟩, h.XY.1, fun hf => ?_, fun hf => ?_, h.XY.2.2.2⟩, ⟨rfl, .inr ⟨W.heap.size, 1, _, rfl, h.ko.sz, hX, Nat.le_refl _, by unfold maxLen; omega, rfl, rfl⟩⟩, old⟩
  · rcases hk with ((hk | hk) | hk | hk) | hk
    · exact .inl (.inl (.inl hk))
    · exact .inr (hnew k hk)
    · exact .inl (.inl (.inr (.inl hk)))
    · exact .inl (.inl (.inr (.inr hk)))
    · exact .inl (.inr hk)
  · rcases hf with hf | hf
    · exact (h.nX k hk).2.2 hf
    · have := hnew k hf; have := (nl k hk).2; omega
  · rcases hf with hf | hf
    · exact h.XY.2.1 hf
    · have := hnew X hf; omega
  · rcases hf with hf | hf
    · exact h.XY.2.2.1 hf
    · have := hnew Y hf; omega
theorem Ok2.go {K : List Nat} {ka : Option Addr} {kcap : Nat} (h : Ok2 F base B dep s nv w0 W X Y x5 N na ncap K ka kcap) (hr : RS (fun k => ((F k ∨ (Value.slice ka K.length kcap).ownBlock = some k) ∨ k = X ∨ k = Y) ∨ (Value.slice na N.length ncap).ownBlock = some k) base B dep s' nv' W') (c : Chg B nv nv' W W') : Ok2 F base B dep s' nv' w0 W' X Y x5 N na ncap K ka kcap :=
  ⟨h.ob.go hr c, own_keep h.own (fun k hk => h.ob.ko.rs.keepF c (.inl (.inl (.inr hk)))), h.old⟩
/-- What was gathered, as kids. -/
theorem Ok2.kv {K : List Nat} {ka : Option Addr} {kcap : Nat} (h : Ok2 F base B dep s nv w0 W X Y x5 N na ncap K ka kcap) : Ob F base B dep s nv w0 W X Y x5 N na ncap ∧ KV (fun k => F k ∨ k = X ∨ k = Y) B nv W (.slice ka K.length kcap) K := by
  have nl := own_block h.own
  obtain ⟨ad, cap, hv, h1, h2, h3, h4⟩ := own_cells h.own
  refine ⟨⟨⟨h.ob.ko.rs.less (fun k hk => ?_), h.ob.ko.own, h.ob.ko.sz⟩, h.ob.box, h.ob.self, fun k hk => ⟨(h.ob.nX k hk).1, (h.ob.nX k hk).2.1, fun hf => (h.ob.nX k hk).2.2 (.inl hf)⟩, h.ob.XY.1, fun hf => h.ob.XY.2.1 (.inl hf), fun hf => h.ob.XY.2.2.1 (.inl hf), h.ob.XY.2.2.2⟩, ⟨⟨ad, cap, hv, h1, ?_⟩, fun k hk => ⟨(h.ob.ko.rs.far k (.inl (.inl (.inr (h3 k hk))))).2.1, (h.ob.ko.rs.far k (.inl (.inl (.inr (h3 k hk))))).2.2, fun hf => ?_⟩, fun k hk => (nl k (h3 k hk)).2, h4⟩⟩
  · rcases hk with (hk | hk | hk) | hk
    · exact .inl (.inl (.inl hk))
    · exact .inl (.inr (.inl hk))
    · exact .inl (.inr (.inr hk))
    · exact .inr hk
  · rcases h2 with h2 | ⟨g, e, hg, hc⟩
    · exact .inl (List.length_eq_zero_iff.1 h2)
    · exact .inr ⟨g, e, hg, fun j hj => (hc j hj).trans (by simp [kc, hj])⟩
  · rcases hf with hf | rfl | rfl
    · have := h.old k hf; have := (nl k (h3 k hk)).1; omega
    · exact h.ob.XY.2.1 (.inr (h3 _ hk))
    · exact h.ob.XY.2.2.1 (.inr (h3 _ hk))
/-- Where the loop of an object's items stands. -/
structure ItO (F : Nat → Prop) (base B dep : Nat) (L : Ps.Lv) (nv : Value) (w0 w W : World) (X Y x5 : Nat) (a : Option Addr) (cap : Nat) (l1 : List (List UInt8 × Nat)) (s1 : Ps.St) (l : List (List UInt8 × Nat)) (s' : Ps.St) : Prop where
  ok : ∃ nv1 na ncap, Ok2 F base B dep s1 nv1 w0 W X Y x5 (l1.map (·.1)) na ncap (l1.map (·.2)) a cap ∧ (∀ nv0, Chg B nv0 nv w0 w → Chg B nv0 nv1 w0 W)
  run : ∃ f, Ru (Ps.itemsLoop (Ps.pair L) f l1) s1 l s' ∧ s1.toks.length ≤ f
  cnt : l1.length + s1.toks.length ≤ 100001
theorem Ob.good (h : Ob F base B dep s nv w0 W X Y x5 N na ncap) : Ps.Good s := h.ko.rs.good
set_option maxRecDepth 100000 in
set_option maxHeartbeats 2000000 in
theorem c_items_o {L : Ps.Lv} {w : World} {l : List (List UInt8 × Nat)} {m : List UInt8} (hL : ∀ F, LvC F base B dep L) (hS : Ps.ShL L) (E : Ru (Ps.items m (Ps.pair L)) s l s') (h : Ob F base B dep s nv w0 w X Y x5 [] na ncap) (old : ∀ k, F k → k < w0.heap.size) :
    Calls Tryz.prog 130 #[.pointer (some ⟨B, 0, none⟩), .string ⟨m.toArray⟩, .func (.func 134) #[] #[.pointer (some ⟨X, 0, none⟩), .pointer (some ⟨Y, 0, none⟩)]] w fun e w' => ∃ ad cap, e = .returned (.slice ad l.length cap) ∧ ∃ na' ncap' nv', Ob F base B dep s' nv' w0 w' X Y x5 (l.map (·.1)) na' ncap' ∧ (∀ nv0, Chg B nv0 nv w0 w → Chg B nv0 nv' w0 w') ∧ KV (fun k => F k ∨ k = X ∨ k = Y) B nv' w' (.slice ad l.length cap) (l.map (·.2)) := by
  rcases items_ru (Ps.gr_pair (hL F).gr) E with ⟨E0, rfl⟩ | ⟨s1, x, s2, s3, u, E1, E2, E3, E4⟩
  · have H : Hid (_) := h
    clear h E
    go_enter Tryz.func130, Tryz.ntmps130
    go_wp2_with fail
    refine Calls.mono (c_take E0 H.out.ko.rs) ?_
    rintro e w1 ⟨rfl, nv1, hr1, hc1⟩
    have HO : Hid (_) := H.out.go hr1 hc1
    have HC : Hid (_) := hc1
    clear hr1 hc1
    go_wp2_with fail
    go_ret
    exact ⟨none, 0, rfl, _, _, nv1, HO.out, fun nv0 c0 => c0.trans HC.out, KV.nil _ _ _ _⟩
  · have H : Hid (_) := h
    clear h E
    go_enter Tryz.func130, Tryz.ntmps130
    go_wp2_with fail
    refine Calls.mono (c_take E1 H.out.ko.rs) ?_
    rintro e w1 ⟨rfl, nv1, hr1, hc1⟩
    have HO1 : Hid (_) := H.out.go hr1 hc1
    have HC1 : Hid (_) := hc1
    clear hr1 hc1
    go_wp2_with fail
    refine Calls.mono (c_pair hL E2 HO1.out (by simp)) ?_
    rintro e w2 ⟨rfl, na2, ncap2, nv2, ho2, hch2, hsz2, hk2⟩
    have hg2 := ho2.good
    have hok := Ok2.start (x := x.2) ho2 old
    have HSTART : Hid (ItO F base B dep L nv w0 w (w2.alloc (.cells #[.int .i64 (x.2 : Int)] 3)) X Y x5 (some ⟨w2.heap.size, 0, none⟩) 1 [x] s2 l s3) := (show ItO _ _ _ _ _ _ _ _ _ _ _ _ _ _ _ _ _ _ from ⟨⟨nv2, na2, ncap2, hok, fun nv0 c0 => (hch2 nv0 (c0.trans HC1.out)).alloc _⟩, ⟨_, E3, Nat.le_refl _⟩, by have := ho2.ko.rs.few; simp; omega⟩)
    clear ho2 hch2 hsz2 hk2 hg2 hok E1 E2 E3
    go_wp2_with fail
    go_loopw [7] (fun v W => ∃ (l1 : List (List UInt8 × Nat)) (a : Option Addr) (cap : Nat) (s1 : Ps.St), v = .slice a l1.length cap ∧ Hid (ItO F base B dep L nv w0 w W X Y x5 a cap l1 s1 l s3)) (fun _ W => tokN B W)
    case atStart => exact ⟨[x], _, 1, s2, rfl, HSTART⟩
    case round =>
      obtain ⟨l1, a, cap, s1, rfl, HI⟩ := hrel
      clear HSTART
      obtain ⟨⟨nv1, na1, ncap1, hok, hchg⟩, ⟨f, hrun, hf⟩, hcnt⟩ := HI.out
      have hg := hok.ob.good
      have HT0 : Hid (_) := hok.ob.ko.rs.tokN
      obtain ⟨f, rfl⟩ : ∃ f', f = f' + 1 := ⟨f - 1, by have := hg.one; omega⟩
      have hlen : (l1.map (·.2)).length = l1.length := List.length_map ..
      rcases itemsLoop_ru (Ps.gr_pair (hL F).gr) hrun with ⟨E5, rfl⟩ | ⟨s4, y, s5, E5, E6, E7⟩
      · have HOK : Hid (_) := hok
        have HC : Hid (_) := hchg
        clear hrun hf hcnt hok HI HT0 hchg hg
        go_wp2_with fail
        refine Calls.mono (c_take (m := [44]) E5 HOK.out.ob.ko.rs) ?_
        rintro e w2 ⟨rfl, nv2, hr2, hc2⟩
        have HOK2 : Hid (_) := HOK.out.go hr2 hc2
        have HC2 : Hid (∀ nv0, Chg B nv0 nv w0 w → Chg B nv0 nv2 w0 w2) := (fun nv0 c0 => (HC.out nv0 c0).trans hc2)
        clear hr2 hc2 HOK HC
        go_wp2_with fail
        refine Calls.mono (c_want E4 HOK2.out.ob.ko.rs) ?_
        rintro e w3 ⟨rfl, nv3, hr3, hc3⟩
        have HE : Hid (_) := (HOK2.out.go hr3 hc3).kv
        have HC3 : Hid (∀ nv0, Chg B nv0 nv w0 w → Chg B nv0 nv3 w0 w3) := (fun nv0 c0 => (HC2.out nv0 c0).trans hc3)
        clear hr3 hc3 HOK2 HC2
        go_wp2_with fail
        go_ret
        exact ⟨a, cap, rfl, _, _, nv3, HE.out.1, HC3.out, by have := HE.out.2; rw [hlen] at this; exact this⟩
      · have htf := take_fewer hg (by decide) E5.eq
        have hle : s5.toks.length ≤ s4.toks.length := by
          have := Ps.sh_pair hS s4 (by have := Ps.sh_take [44] s1 hg; rw [E5.eq] at this; exact this.good)
          rw [E6.eq] at this
          exact this.le
        have HOK : Hid (_) := hok
        have HC : Hid (_) := hchg
        have HD : Hid (_ ∧ _) := (show _ ∧ _ from ⟨hf, hcnt⟩)
        have HD2 : Hid (_ ∧ _) := (show _ ∧ _ from ⟨htf, hle⟩)
        have HLN : Hid (_) := hlen
        clear hrun hf hcnt hok HI hchg htf hle hg hlen
        go_wp2_with fail
        refine Calls.mono (c_take (m := [44]) E5 HOK.out.ob.ko.rs) ?_
        rintro e w2 ⟨rfl, nv2, hr2, hc2⟩
        have HOK2 : Hid (_) := HOK.out.go hr2 hc2
        have HC2 : Hid (∀ nv0, Chg B nv0 nv w0 w → Chg B nv0 nv2 w0 w2) := (fun nv0 c0 => (HC.out nv0 c0).trans hc2)
        clear hr2 hc2 HOK HC
        go_wp2_with fail
        refine Calls.mono (c_pair hL E6 HOK2.out.ob (by simp; have := HD.out; have := HD2.out; omega)) ?_
        rintro e w3 ⟨rfl, na3, ncap3, nv3, ho3, hch3, hsz3, hk3⟩
        have hok3 : Ok2 F base B dep s5 nv3 w0 w3 X Y x5 (l1.map (·.1) ++ [y.1]) na3 ncap3 (l1.map (·.2)) a cap := ⟨ho3, own_keep HOK2.out.own (fun k hk => hk3 k (.inr hk)), HOK2.out.old⟩
        obtain ⟨a4, cap4, w4, hap, hok4, hc4, _, _⟩ := hok3.kid y.2 (by simp; have := HD.out; have := HD2.out; omega)
        rw [HLN.out] at hap
        have HRn : Hid (_) := hap
        have HOK4 : Hid (_) := hok4
        have HC4 : Hid (∀ nv0, Chg B nv0 nv w0 w → Chg B nv0 nv3 w0 w4) := (fun nv0 c0 => hc4 nv0 (hch3 nv0 (HC2.out nv0 c0)))
        clear ho3 hch3 hsz3 hk3 hok3 hap hok4 hc4 HOK2 HC2
        go_wp2_with (at_builtin; refine wpList_append_run _ _ 41 rfl rfl _ _ _ _ rfl rfl HRn.out ?_)
        go_roundw
        case rel =>
          refine ⟨l1 ++ [y], a4, cap4, s5, by simp, ?_⟩
          have h1 := HD.out
          have h2 := HD2.out
          exact (show ItO _ _ _ _ _ _ _ _ _ _ _ _ _ _ _ _ _ _ from ⟨⟨nv3, na3, ncap3, by simpa using HOK4.out, HC4.out⟩, ⟨f, E7, by omega⟩, by simp; omega⟩)
        case measure =>
          have h1 := HOK4.out.ob.ko.rs.tokN
          have := HD2.out
          have h3 := HT0.out
          show _ < _
          rw [h1, h3]; omega
/-- An object's own part of 'alone'. -/
def object (L : Ps.Lv) : Ps.M Nat := fun s => Ps.add { k := 8, a := (Ps.skip s).1.a, names := (Ps.items [125] (Ps.pair L) (Ps.skip s).2).1.map (·.1), kids := (Ps.items [125] (Ps.pair L) (Ps.skip s).2).1.map (·.2) } (Ps.items [125] (Ps.pair L) (Ps.skip s).2).2
open Ps in
theorem object_ru {L : Lv} (g : GrL L) {s s' : Ps.St} {r : Nat} (h : Ru (object L) s r s') : ∃ T s1 l s2, Ru skip s T s1 ∧ Ru (items [125] (pair L)) s1 l s2 ∧ Ru (add { k := 8, a := T.a, names := l.map (·.1), kids := l.map (·.2) }) s2 r s' := by
  obtain ⟨e, n⟩ := h
  unfold object at e
  rcases e0 : skip s with ⟨T, s1⟩
  simp only [e0] at e
  rcases e1 : items [125] (pair L) s1 with ⟨l, s2⟩
  simp only [e1] at e
  have n2 := gb (gr_add _) e n
  have n1 := gb (gr_items (gr_pair g) _) e1 n2
  exact ⟨T, s1, l, s2, ⟨e0, n1⟩, ⟨e1, n2⟩, ⟨e, n⟩⟩
end Go.Proofs.YtpjmapoiinjakaaGreatDoor.R
namespace Go.Proofs.YtpjmapoiinjakaaGreatDoor.R
open Go.RowKit
open L (tkA own_block own_below info_of wpList_append_run)
set_option linter.unusedVariables false
variable {F : Nat → Prop} {base B dep : Nat} {s s' : Ps.St} {nv nv' : Value} {w0 W W' : World} {X Y x5 : Nat} {N : List (List UInt8)} {na : Option Addr} {ncap : Nat}
theorem Ob.nmv (h : Ob F base B dep s nv w0 W X Y x5 N na ncap) : NV (fun k => F k ∨ k = X ∨ k = Y) B nv W (.slice na N.length ncap) N := by
  have nl := own_block h.ko.own
  obtain ⟨ad, cap, hv, h1, h2, h3, h4⟩ := own_cells h.ko.own
  refine ⟨⟨ad, cap, hv, h1, ?_⟩, fun k hk => ⟨(h.ko.rs.far k (.inr (h3 k hk))).2.1, (h.ko.rs.far k (.inr (h3 k hk))).2.2, fun hf => ?_⟩, fun k hk => (nl k (h3 k hk)).2, h4⟩
  · rcases h2 with h2 | ⟨g, e, hg, hc⟩
    · exact .inl (List.length_eq_zero_iff.1 h2)
    · exact .inr ⟨g, e, hg, fun j hj => (hc j hj).trans (by simp [nc, hj])⟩
  · have := h.nX k (h3 k hk)
    rcases hf with hf | hf | hf
    · exact this.2.2 hf
    · exact this.1 hf
    · exact this.2.1 hf
theorem Ob.six (h : Ob F base B dep s nv w0 W X Y x5 N na ncap) : (W.cell? ⟨X, 0, none⟩ = some (.int .i64 8) ∧ W.cell? ⟨X, 1, none⟩ = some (.int .i64 0) ∧ W.cell? ⟨X, 2, none⟩ = some (.string ⟨#[]⟩) ∧ W.cell? ⟨X, 3, none⟩ = some (.slice na N.length ncap) ∧ W.cell? ⟨X, 4, none⟩ = some (.slice none 0 0) ∧ W.cell? ⟨X, 5, none⟩ = some (.int .i64 (x5 : Int))) ∧ W.frozen? ⟨X, 4, none⟩ = false ∧ X < W.heap.size ∧ Y < W.heap.size ∧ W.cell? ⟨Y, 0, none⟩ = some (.pointer (some ⟨B, 0, none⟩)) ∧ ¬ Y = X := by
  have h1 := h.box
  have h2 := h.self
  obtain ⟨_, _, _, hx, hy⟩ := h.facts
  exact ⟨by refine ⟨?_, ?_, ?_, ?_, ?_, ?_⟩ <;> simp [World.cell?, h1], by simp [World.frozen?, h1], hx, hy, by simp [World.cell?, h2], fun e => h.XY.1 e.symm⟩
set_option maxRecDepth 100000 in
set_option maxHeartbeats 2000000 in
theorem c_object {L : Ps.Lv} {w : World} {r : Nat} (hL : ∀ F, LvC F base B dep L) (hS : Ps.ShL L) (E : Ru (object L) s r s') (h : RS F base B dep s nv w) : Calls Tryz.prog 133 #[.pointer (some ⟨B, 0, none⟩)] w (Tells F base B dep nv w s' (.int .i64 (r : Int))) := by
  obtain ⟨⟨tk, tt, tn, ta, tl, te⟩, s1, l, s2, E1, E2, E3⟩ := object_ru (hL F).gr E
  have hfl := run_field3
  have H : Hid (_) := h
  have hbY : Below w.heap.size w (w.alloc (.cells #[.pointer (some ⟨B, 0, none⟩)] 69)) := (Below.refl _ _).alloc (Nat.le_refl _) _
  have HR0 : Hid (_) := h.more (.cells #[.pointer (some ⟨B, 0, none⟩)] 69)
  have HY0 : Hid (_) := (Array.getElem?_push_size : (w.alloc (.cells #[.pointer (some ⟨B, 0, none⟩)] 69)).heap[w.heap.size]? = some (.cells #[.pointer (some ⟨B, 0, none⟩)] 69 (0, 0)))
  clear h E
  go_enter Tryz.func133, Tryz.ntmps133
  go_wp2_with fail
  refine Calls.mono (c_skip E1 HR0.out) ?_
  rintro e w1 ⟨rfl, nv1, hr1, hc1⟩
  simp only [tkA] at *
  have hY1 := (HR0.out.keepF hc1 (.inr rfl)).trans HY0.out
  have hlY : w.heap.size < w1.heap.size := by have := hc1.size; rw [alloc_size'] at this; omega
  have hob : Ob F base B dep s1 nv1 w (w1.alloc (.cells #[.int .i64 8, .int .i64 0, .string ⟨#[]⟩, .slice none 0 0, .slice none 0 0, .int .i64 (ta : Int)] 43)) w1.heap.size w.heap.size ta [] none 0 := by
    have hb1 : Below w1.heap.size w1 (w1.alloc (.cells #[.int .i64 8, .int .i64 0, .string ⟨#[]⟩, .slice none 0 0, .slice none 0 0, .int .i64 (ta : Int)] 43)) := (Below.refl _ _).alloc (Nat.le_refl _) _
    have hm := hr1.more (.cells #[.int .i64 8, .int .i64 0, .string ⟨#[]⟩, .slice none 0 0, .slice none 0 0, .int .i64 (ta : Int)] 43)
    refine ⟨KO.nil (hm.less fun k hk => ?_) (by rw [alloc_size']; omega), Array.getElem?_push_size, (hb1.block _ hlY).trans hY1, (fun k hk => by simp [Value.ownBlock] at hk), by omega, fun hF => ?_, fun hF => ?_, by omega⟩
    · rcases hk with hk | hk | hk
      · exact .inl (.inl hk)
      · exact .inr hk
      · exact .inl (.inr hk)
    · have := (H.out.far _ hF).1; omega
    · have := (H.out.far _ hF).1; omega
  have HC1 : Hid (Chg B nv nv1 w (w1.alloc (.cells #[.int .i64 8, .int .i64 0, .string ⟨#[]⟩, .slice none 0 0, .slice none 0 0, .int .i64 (ta : Int)] 43))) := ((Chg.below nv hbY).trans hc1).alloc _
  have HOB : Hid (_) := hob
  obtain ⟨c0, cf0⟩ := (show w1.cell? ⟨w.heap.size, 0, none⟩ = some (.pointer (some ⟨B, 0, none⟩)) ∧ True from ⟨by simp [World.cell?, hY1], trivial⟩)
  clear hob hr1 hc1 hY1 hbY HR0 HY0 cf0
  go_wp2_with fail
  refine Calls.mono (c_items_o (m := [125]) hL hS E2 HOB.out (fun k hk => (H.out.far k hk).1)) ?_
  rintro e w2 ⟨ad, cap, rfl, na, ncap, nv2, ho2, hch2, hk2⟩
  obtain ⟨⟨p0, p1, p2, p3, p4, p5⟩, f4, hlx, hly, cY, hne⟩ := ho2.six
  have HC2 : Hid (_) := (hch2 nv HC1.out).setX (show w.heap.size ≤ w1.heap.size by omega) 4 (.slice ad l.length cap)
  have HN2 : Hid (_) := ho2.nmv.set (X := w1.heap.size) (.inr (.inl rfl)) 4 (.slice ad l.length cap)
  have HK2 : Hid (_) := hk2.set (X := w1.heap.size) (.inr (.inl rfl)) 4 (.slice ad l.length cap)
  have HR2 : Hid (_) := (ho2.ko.rs.foreign (X := w1.heap.size) (.inl (.inr (.inl rfl))) 4 (.slice ad l.length cap)).less (F' := fun k => F k ∨ k = w1.heap.size ∨ k = w.heap.size) (fun k hk => .inl hk)
  have hlen : (l.map (·.1)).length = l.length := List.length_map ..
  rw [hlen] at p3 HN2
  clear ho2 hch2 hk2 HOB HC1 hlen
  go_wp2_with fail
  refine Calls.mono (c_addV (k := 8) (n := 0) (t := []) E3 HR2.out HN2.out HK2.out) ?_
  rintro e w3 ⟨rfl, nv3, hr3, hc3⟩
  clear p0 p1 p2 p3 p4 p5 f4 hlx hly cY
  go_wp2_with fail
  go_ret
  exact ⟨rfl, nv3, hr3.less (fun k hk => .inl hk), HC2.out.trans hc3⟩
end Go.Proofs.YtpjmapoiinjakaaGreatDoor.R
namespace Go.Proofs.YtpjmapoiinjakaaGreatDoor.R
open Go.RowKit
open L (tkA own_block own_below info_of wpList_append_run)
set_option linter.unusedVariables false
theorem src_nothing (xo : Option Addr) (c : Nat) (e t : TypeId) (sz : Nat) (ht : Tryz.prog.underlying t = some (.slice e)) (w : World) : Src Tryz.prog sz t (.slice xo 0 c) 0 [] w :=
  ⟨.inl ⟨e, ht⟩, fun w' => by simp [Builtin.lenOf], by cases xo <;> simp [Builtin.firstCells, loadCells, loadCellsFrom], by cases xo <;> simp [Builtin.firstCells, loadCells, loadCellsFrom], by simp, by simp⟩
section
variable {F : Nat → Prop} {base B dep : Nat} {s s' : Ps.St} {nv : Value} {w0 W : World} {v : Value}
/-- Kids behind kids. -/
theorem KO.kids {K0 K : List Nat} {a : Option Addr} {c : Nat} {ad : Option Addr} {cap : Nat} (h : KO F base B dep s nv w0 W 3 (.slice a K0.length c) K0.length (kc K0)) (hk : KV F B nv W (.slice ad K.length cap) K) (hn : K0.length + K.length ≤ 1000000) :
    ∃ a' cap' w3, (Builtin.append_ #[41, 41] 41 #[.slice a K0.length c, .slice ad K.length cap]).run Tryz.prog W = .ok (.slice a' (K0 ++ K).length cap') w3 ∧ KO F base B dep s nv w0 w3 3 (.slice a' (K0 ++ K).length cap') (K0 ++ K).length (kc (K0 ++ K)) ∧ (∀ nv0, Chg B nv0 nv w0 W → Chg B nv0 nv w0 w3) := by
  obtain ⟨i0, hi, hz0, hz1, hz2⟩ := info_of infoInt
  by_cases h0 : K = []
  · subst h0
    have hcap : K0.length ≤ c := by
      rcases h.own.2 with ⟨e, h⟩ | ⟨g, cap, cur, e, _, _, h4, _⟩
      · omega
      · simp only [Value.slice.injEq] at e; omega
    refine ⟨a, c, W, ?_, by simpa using h, fun nv0 c0 => c0⟩
    have := run_append_nothing (P := Tryz.prog) (ty := 41) W 41 41 3 i0 Tryz.underlying41 hi a K0.length c hcap _ (src_nothing ad cap 3 41 _ Tryz.underlying41 W)
    simpa using this
  · obtain ⟨ad', cap', e, hcap, hx⟩ := hk.kids
    simp only [Value.slice.injEq, true_and] at e
    obtain ⟨rfl, rfl⟩ := e
    obtain ⟨g, rfl, hg, hc⟩ := hx.resolve_left h0
    have hpos : 1 ≤ K.length := by
      cases K with
      | nil => exact absurd rfl h0
      | cons x K => simp
    obtain ⟨a', cap', w3, hr, hko, hch⟩ := h.cat 41 41 Tryz.underlying41 hi hz0 hz1 hz2 rfl (by omega) (Below.refl _ _) ⟨g, 0, none⟩ K.length cap (kc K) (by simp [kc]) (fun j u hj => by
      have hjl : j < K.length := by
        rcases Nat.lt_or_ge j K.length with h | h
        · exact h
        · rw [List.getElem?_eq_none (by simpa [kc] using h)] at hj; cases hj
      have h1 := hc j hjl
      have h2 : u = .int .i64 (K[j] : Int) := by
        have : (kc K)[j]? = some (.int .i64 (K[j] : Int)) := by simp [kc, hjl]
        rw [this] at hj; exact (Option.some.inj hj).symm
      rw [h2]
      rw [show (⟨g, 0, none⟩ : Addr).add j = ⟨g, j, none⟩ by unfold Addr.add; split <;> simp_all]
      exact h1) (by intro u hu; obtain ⟨k, _, rfl⟩ := List.mem_map.1 hu; rfl) hn hpos
    exact ⟨a', cap', w3, by simpa using hr, by simpa [kc] using hko, hch⟩
theorem c_overV {r k : Nat} {t : List UInt8} {k0 : Nat} {K : List Nat} {ad : Option Addr} {cap : Nat} (E : Ru (Ps.over { k := k, t := t } (k0 :: K)) s r s') (h : RS F base B dep s nv W) (hk : k0 < s.nodes.length) (hv : KV F B nv W (.slice ad (k0 :: K).length cap) (k0 :: K)) :
    Calls Tryz.prog 103 #[.pointer (some ⟨B, 0, none⟩), .agg #[.int .i64 (k : Int), .int .i64 0, .string ⟨t.toArray⟩, .slice none 0 0, .slice none 0 0, .int .i64 0], .slice ad (k0 :: K).length cap] W (Tells F base B dep nv W s' (.int .i64 (r : Int))) := by
  have e1 : s.nodes.length = r := congrArg Prod.fst E.eq
  have e2 : (Ps.over { k := k, t := t } (k0 :: K) s).2 = s' := congrArg Prod.snd E.eq
  obtain ⟨ad', cap', e, hcap, hx⟩ := hv.kids
  simp only [Value.slice.injEq, true_and] at e
  obtain ⟨rfl, rfl⟩ := e
  obtain ⟨g, rfl, hg, hc⟩ := hx.resolve_left (by simp)
  have := over_any h (E.back (Ps.gr_over _ _)) k t k0 K g cap hcap hg hc hv.ap hk
  rw [e1, e2] at this
  exact this
theorem c_textOf2 {t : List UInt8} (E : Ru (Ps.textOf [3, 4]) s t s') (h : RS F base B dep s nv W) : Calls Tryz.prog 108 #[.pointer (some ⟨B, 0, none⟩), .slice (some ⟨W.heap.size, 0, none⟩) 2 2] (W.alloc (.cells #[.int .i64 3, .int .i64 4] 3)) (Tells F base B dep nv W s' (.string ⟨t.toArray⟩)) := by
  have hb : Below W.heap.size W (W.alloc (.cells #[.int .i64 3, .int .i64 4] 3)) := (Below.refl _ _).alloc (Nat.le_refl _) _
  have hx : (W.alloc (.cells #[.int .i64 3, .int .i64 4] 3)).heap[W.heap.size]? = some (.cells #[.int .i64 3, .int .i64 4] 3 (0, 0)) := Array.getElem?_push_size
  have := textOf_any (h.below hb) (E.back (Ps.gr_textOf _)) [3, 4] W.heap.size 2 (by rw [alloc_size']; omega) (fun j hj => by
    have : j = 0 ∨ j = 1 := by simp at hj; omega
    unfold World.cell?; rw [hx]
    rcases this with rfl | rfl <;> rfl) (by simp) (by simp)
  rw [E.eq] at this
  refine this.mono ?_
  rintro e w' ⟨rfl, nv', hr, hc⟩
  exact ⟨rfl, nv', hr, (Chg.below nv hb).trans hc⟩
end
open Ps in
theorem primaryLoop_ru {L : Lv} {f p : Nat} {s s' : Ps.St} {r : Nat} (g : GrL L) (h : Ru (primaryLoop L (f + 1) p) s r s') :
    (∃ s1 t s2 o s3, Ru (take [46]) s true s1 ∧ Ru (textOf [3, 4]) s1 t s2 ∧ Ru (over { k := 11, t := t } [p]) s2 o s3 ∧ Ru (primaryLoop L f o) s3 r s') ∨
    (∃ s1 s2 y s3 u s4 o s5, Ru (take [46]) s false s1 ∧ Ru (take [91]) s1 true s2 ∧ Ru L.e s2 y s3 ∧ Ru (want [93]) s3 u s4 ∧ Ru (over { k := 12 } [p, y]) s4 o s5 ∧ Ru (primaryLoop L f o) s5 r s') ∨
    (∃ s1 s2 s3 K s4 o s5, Ru (take [46]) s false s1 ∧ Ru (take [91]) s1 false s2 ∧ Ru (take [40]) s2 true s3 ∧ Ru (items [41] L.e) s3 K s4 ∧ Ru (over { k := 13 } (p :: K)) s4 o s5 ∧ Ru (primaryLoop L f o) s5 r s') ∨
    (∃ s1 s2, Ru (take [46]) s false s1 ∧ Ru (take [91]) s1 false s2 ∧ Ru (take [40]) s2 false s' ∧ r = p) := by
  obtain ⟨e, n⟩ := h
  unfold primaryLoop at e
  have gt : ∀ m, Gr (take m) := fun m s => Nat.le_of_eq (by rw [take_n])
  rcases e0 : take [46] s with ⟨b, s1⟩
  cases b
  · simp only [e0] at e
    rcases e1 : take [91] s1 with ⟨b, s2⟩
    cases b
    · simp only [e1] at e
      rcases e2 : take [40] s2 with ⟨b, s3⟩
      cases b
      · simp only [e2] at e
        obtain ⟨rfl, rfl⟩ := Prod.mk.inj e
        have n2 := gb (gt _) e2 n
        have n1 := gb (gt _) e1 n2
        exact .inr (.inr (.inr ⟨s1, s2, ⟨e0, n1⟩, ⟨e1, n2⟩, ⟨e2, n⟩, rfl⟩))
      · simp only [e2] at e
        rcases e3 : items [41] L.e s3 with ⟨K, s4⟩
        simp only [e3] at e
        rcases e4 : over { k := 13 } (p :: K) s4 with ⟨o, s5⟩
        simp only [e4] at e
        have n5 := gb (gr_primaryLoop g _ _) e n
        have n4 := gb (gr_over _ _) e4 n5
        have n3 := gb (gr_items g.e _) e3 n4
        have n2 := gb (gt _) e2 n3
        have n1 := gb (gt _) e1 n2
        exact .inr (.inr (.inl ⟨s1, s2, s3, K, s4, o, s5, ⟨e0, n1⟩, ⟨e1, n2⟩, ⟨e2, n3⟩, ⟨e3, n4⟩, ⟨e4, n5⟩, ⟨e, n⟩⟩))
    · simp only [e1] at e
      rcases e2 : L.e s2 with ⟨y, s3⟩
      simp only [e2] at e
      rcases e3 : want [93] s3 with ⟨u, s4⟩
      simp only [e3] at e
      rcases e4 : over { k := 12 } [p, y] s4 with ⟨o, s5⟩
      simp only [e4] at e
      have n5 := gb (gr_primaryLoop g _ _) e n
      have n4 := gb (gr_over _ _) e4 n5
      have n3 := gb (gr_want _) e3 n4
      have n2 := gb g.e e2 n3
      have n1 := gb (gt _) e1 n2
      exact .inr (.inl ⟨s1, s2, y, s3, u, s4, o, s5, ⟨e0, n1⟩, ⟨e1, n2⟩, ⟨e2, n3⟩, ⟨e3, n4⟩, ⟨e4, n5⟩, ⟨e, n⟩⟩)
  · simp only [e0] at e
    rcases e1 : textOf [3, 4] s1 with ⟨t, s2⟩
    simp only [e1] at e
    rcases e2 : over { k := 11, t := t } [p] s2 with ⟨o, s3⟩
    simp only [e2] at e
    have n3 := gb (gr_primaryLoop g _ _) e n
    have n2 := gb (gr_over _ _) e2 n3
    have n1 := gb (gr_textOf _) e1 n2
    exact .inl ⟨s1, t, s2, o, s3, ⟨e0, n1⟩, ⟨e1, n2⟩, ⟨e2, n3⟩, ⟨e, n⟩⟩
open Ps in
theorem primary_ru {L : Lv} {s s' : Ps.St} {r : Nat} (g : GrL L) (h : Ru (primary L) s r s') : ∃ p s1, Ru (alone L) s p s1 ∧ Ru (primaryLoop L s1.toks.length p) s1 r s' := by
  obtain ⟨e, n⟩ := h
  unfold primary at e
  simp only [] at e
  rcases e0 : alone L s with ⟨p, s1⟩
  simp only [e0] at e
  exact ⟨p, s1, ⟨e0, gb (gr_primaryLoop g _ _) e n⟩, ⟨e, n⟩⟩
open Ps in
theorem itemsLoop_few {α : Type} {item : M α} (hi : Sh item) : ∀ (f : Nat) (l : List α) (s : St), Ps.Good s → (itemsLoop item f l s).1.length + (itemsLoop item f l s).2.toks.length ≤ l.length + s.toks.length
  | 0, l, s, g => by simp [itemsLoop]
  | f + 1, l, s, g => by
    unfold itemsLoop
    have h := sh_take [44] s g
    rcases e : take [44] s with ⟨b, s1⟩
    rw [e] at h
    cases b
    · simp only; have := h.le; simp only at this; omega
    · simp only
      have h1 := take_fewer g (by decide) e
      have h2 := hi s1 h.good
      have h3 := itemsLoop_few hi f (l ++ [(item s1).1]) (item s1).2 h2.good
      have h4 := h2.le
      simp only [List.length_append, List.length_cons, List.length_nil] at h3
      omega
open Ps in
theorem items_few {α : Type} {item : M α} (m : List UInt8) (hi : Sh item) (s : St) (g : Ps.Good s) : (items m item s).1.length ≤ s.toks.length := by
  unfold items
  have h := sh_take m s g
  rcases e : take m s with ⟨b, s1⟩
  rw [e] at h
  cases b
  · simp only
    have h2 := hi s1 h.good
    have h3 := itemsLoop_few hi (item s1).2.toks.length [(item s1).1] (item s1).2 h2.good
    have h4 := h2.le
    have h5 := h.le
    have h6 := (sh_itemsLoop hi (item s1).2.toks.length [(item s1).1] (item s1).2 h2.good).good.one
    simp only [List.length_cons, List.length_nil] at h3 h5
    omega
  · simp
theorem KV.inF {F : Nat → Prop} {B : Nat} {nv v : Value} {W : World} {K : List Nat} (h : KV F B nv W v K) {base dep : Nat} {s : Ps.St} {nv' : Value} {w5 : World} (hr : RS F base B dep s nv' w5) : KV F B nv W v K := h
/-- Where the loop of a primary stands. -/
structure PrL (F : Nat → Prop) (base B dep : Nat) (L : Ps.Lv) (nv : Value) (w W : World) (p : Nat) (s1 : Ps.St) (r : Nat) (s' : Ps.St) : Prop where
  som : Som F base B dep s1 nv w W
  run : ∃ f, Ru (Ps.primaryLoop L f p) s1 r s' ∧ s1.toks.length ≤ f
  lt : p < s1.nodes.length
set_option maxRecDepth 100000 in
set_option maxHeartbeats 2000000 in
theorem c_primary {F : Nat → Prop} {base B dep : Nat} {L : Ps.Lv} {s s' : Ps.St} {nv : Value} {w : World} {r : Nat} (hL : ∀ F, LvC F base B dep L) (hI : Ps.IxL L) (hS : Ps.ShL L)
    (HA : ∀ {r : Nat} {s' : Ps.St}, Ru (Ps.alone L) s r s' → RS F base B dep s nv w → Calls Tryz.prog 129 #[.pointer (some ⟨B, 0, none⟩)] w (Tells F base B dep nv w s' (.int .i64 (r : Int))))
    (E : Ru (Ps.primary L) s r s') (h : RS F base B dep s nv w) : Calls Tryz.prog 128 #[.pointer (some ⟨B, 0, none⟩)] w (Tells F base B dep nv w s' (.int .i64 (r : Int))) := by
  obtain ⟨p, s1, E1, E2⟩ := primary_ru (hL F).gr E
  have HAL : Hid (_) := HA E1 h
  have hp : p < s1.nodes.length := by have := Ps.ix_alone hI s; rw [E1.eq] at this; exact this
  clear HA h E
  go_enter Tryz.func128, Tryz.ntmps128
  go_wp2_with fail
  refine Calls.mono HAL.out ?_
  rintro e w1 ⟨rfl, nv1, hr1, hc1⟩
  have HSTART : Hid (PrL F base B dep L nv w w1 p s1 r s') := (show PrL _ _ _ _ _ _ _ _ _ _ _ _ from ⟨⟨nv1, hr1, hc1⟩, ⟨_, E2, Nat.le_refl _⟩, hp⟩)
  clear hr1 hc1 E2 E1 hp
  go_wp2_with fail
  go_loopw [3] (fun v W => ∃ (p : Nat) (s1 : Ps.St), v = .int .i64 (p : Int) ∧ Hid (PrL F base B dep L nv w W p s1 r s')) (fun _ W => tokN B W)
  case atStart => exact ⟨p, s1, rfl, HSTART⟩
  case round =>
    obtain ⟨p, s1, rfl, HI⟩ := hrel
    clear HSTART
    obtain ⟨⟨nv1, hr1, hc1⟩, ⟨f, hrun, hf⟩, hlt⟩ := HI.out
    have hg := hr1.good
    have HT0 : Hid (_) := hr1.tokN
    obtain ⟨f, rfl⟩ : ∃ f', f = f' + 1 := ⟨f - 1, by have := hg.one; omega⟩
    have HR1 : Hid (_) := hr1
    have HC1 : Hid (_) := hc1
    have HLT : Hid (_ ∧ _ ∧ _) := (show _ ∧ _ ∧ _ from ⟨hlt, hf, hg⟩)
    have hR := primaryLoop_ru (hL F).gr hrun
    clear hr1 hc1 hlt hf hg hrun HI
    rcases hR with ⟨s2, t, s3, o, s4, E1, E2, E3, E4⟩ | ⟨s2, s3, y, s4, u, s5, o, s6, E1, E2, E3, E4, E5, E6⟩ | ⟨s2, s3, s4, K, s5, o, s6, E1, E2, E3, E4, E5, E6⟩ | ⟨s2, s3, E1, E2, E3, rfl⟩
    · go_wp2_with fail
      refine Calls.mono (c_take (m := [46]) E1 HR1.out) ?_
      rintro e w2 ⟨rfl, nv2, hr2, hc2⟩
      have HC2 : Hid (_) := HC1.out.trans hc2
      clear hc2
      go_wp2_with fail
      refine Calls.mono (c_textOf2 E2 hr2) ?_
      rintro e w3 ⟨rfl, nv3, hr3, hc3⟩
      have HC3 : Hid (_) := HC2.out.trans hc3
      clear hc3
      have HK : Hid (p < s3.nodes.length) := (show p < s3.nodes.length from by
        have h2 : s2.nodes = s1.nodes := by have := Ps.take_n [46] s1; rw [E1.eq] at this; exact this
        have h3 := Ps.gr_textOf [3, 4] s2
        rw [E2.eq, h2] at h3
        have := HLT.out.1
        simp only at h3
        omega)
      go_wp2_with fail
      refine Calls.mono (c_over (k := 11) (t := t) E3 hr3 HK.out #[.int .i64 (p : Int)] 1 rfl (fun j hj => by
        have : j = 0 := by simpa using hj
        subst this; rfl)) ?_
      rintro e w4 ⟨rfl, nv4, hr4, hc4⟩
      have HC4 : Hid (_) := HC3.out.trans hc4
      clear hc4
      have HFU : Hid (s4.toks.length + 1 ≤ s1.toks.length ∧ s4.toks.length ≤ f ∧ o < s4.nodes.length) := (show _ ∧ _ ∧ _ from by
        have h1 := take_fewer HLT.out.2.2 (by decide) E1.eq
        have g2 : Ps.Good s2 := by have := Ps.sh_take [46] s1 HLT.out.2.2; rw [E1.eq] at this; exact this.good
        have h2 := Ps.sh_textOf [3, 4] s2 g2
        rw [E2.eq] at h2
        have h3 := Ps.sh_over { k := 11, t := t } [p] s3 h2.good
        rw [E3.eq] at h3
        have hix := Ps.ix_over { k := 11, t := t } [p] s3
        rw [E3.eq] at hix
        have h5 := h2.le
        have h6 := h3.le
        simp only at h5 h6 hix
        have := HLT.out.2.1
        exact ⟨by omega, by omega, hix⟩)
      have HR4 : Hid (_) := hr4
      clear hr4
      go_wp2_with fail
      go_roundw
      case rel => exact ⟨o, s4, rfl, (show PrL _ _ _ _ _ _ _ _ _ _ _ _ from ⟨⟨nv4, HR4.out, HC4.out⟩, ⟨f, E4, HFU.out.2.1⟩, HFU.out.2.2⟩)⟩
      case measure =>
        have h1 := HR4.out.tokN
        have h2 := HT0.out
        have := HFU.out.1
        show _ < _
        rw [h1, h2]; omega
    · go_wp2_with fail
      refine Calls.mono (c_take (m := [46]) E1 HR1.out) ?_
      rintro e w2 ⟨rfl, nv2, hr2, hc2⟩
      have HC2 : Hid (_) := HC1.out.trans hc2
      clear hc2
      go_wp2_with fail
      refine Calls.mono (c_take (m := [91]) E2 hr2) ?_
      rintro e w3 ⟨rfl, nv3, hr3, hc3⟩
      have HC3 : Hid (_) := HC2.out.trans hc3
      clear hc3
      go_wp2_with fail
      refine Calls.mono (c_e hL E3 hr3) ?_
      rintro e w4 ⟨rfl, nv4, hr4, hc4⟩
      have HC4 : Hid (_) := HC3.out.trans hc4
      clear hc4
      go_wp2_with fail
      refine Calls.mono (c_want (m := [93]) E4 hr4) ?_
      rintro e w5 ⟨rfl, nv5, hr5, hc5⟩
      have HC5 : Hid (_) := HC4.out.trans hc5
      clear hc5
      have HK : Hid (p < s5.nodes.length) := (show p < s5.nodes.length from by
        have h2 : s2.nodes = s1.nodes := by have := Ps.take_n [46] s1; rw [E1.eq] at this; exact this
        have h3 : s3.nodes = s2.nodes := by have := Ps.take_n [91] s2; rw [E2.eq] at this; exact this
        have h4 := (hL F).gr.e s3
        rw [E3.eq, h3, h2] at h4
        have h5 := Ps.gr_want [93] s4
        rw [E4.eq] at h5
        have := HLT.out.1
        simp only at h4 h5
        omega)
      go_wp2_with fail
      refine Calls.mono (c_over (k := 12) (t := []) E5 hr5 HK.out #[.int .i64 (p : Int), .int .i64 (y : Int)] 2 rfl (fun j hj => by
        have : j = 0 ∨ j = 1 := by simp at hj; omega
        rcases this with rfl | rfl <;> rfl)) ?_
      rintro e w6 ⟨rfl, nv6, hr6, hc6⟩
      have HC6 : Hid (_) := HC5.out.trans hc6
      clear hc6
      have HFU : Hid (s6.toks.length + 1 ≤ s1.toks.length ∧ s6.toks.length ≤ f ∧ o < s6.nodes.length) := (show _ ∧ _ ∧ _ from by
        have g2 := Ps.sh_take [46] s1 HLT.out.2.2
        rw [E1.eq] at g2
        have h1 := take_fewer g2.good (by decide) E2.eq
        simp only at h1
        have g3 := Ps.sh_take [91] s2 g2.good
        rw [E2.eq] at g3
        have h2 := hS.e s3 g3.good
        rw [E3.eq] at h2
        have h3 := Ps.sh_want [93] s4 h2.good
        rw [E4.eq] at h3
        have h4 := Ps.sh_over { k := 12 } [p, y] s5 h3.good
        rw [E5.eq] at h4
        have hix := Ps.ix_over { k := 12 } [p, y] s5
        rw [E5.eq] at hix
        have h5 := h2.le
        have h6 := h3.le
        have h7 := h4.le
        have h8 := g2.le
        simp only at h5 h6 h7 h8 hix
        have := HLT.out.2.1
        exact ⟨by omega, by omega, hix⟩)
      have HR6 : Hid (_) := hr6
      clear hr6
      go_wp2_with fail
      go_roundw
      case rel => exact ⟨o, s6, rfl, (show PrL _ _ _ _ _ _ _ _ _ _ _ _ from ⟨⟨nv6, HR6.out, HC6.out⟩, ⟨f, E6, HFU.out.2.1⟩, HFU.out.2.2⟩)⟩
      case measure =>
        have h1 := HR6.out.tokN
        have h2 := HT0.out
        have := HFU.out.1
        show _ < _
        rw [h1, h2]; omega
    · go_wp2_with fail
      refine Calls.mono (c_take (m := [46]) E1 HR1.out) ?_
      rintro e w2 ⟨rfl, nv2, hr2, hc2⟩
      have HC2 : Hid (_) := HC1.out.trans hc2
      clear hc2
      go_wp2_with fail
      refine Calls.mono (c_take (m := [91]) E2 hr2) ?_
      rintro e w3 ⟨rfl, nv3, hr3, hc3⟩
      have HC3 : Hid (_) := HC2.out.trans hc3
      clear hc3
      go_wp2_with fail
      refine Calls.mono (c_take (m := [40]) E3 hr3) ?_
      rintro e w4 ⟨rfl, nv4, hr4, hc4⟩
      have HC4 : Hid (_) := HC3.out.trans hc4
      clear hc4
      go_wp2_with fail
      refine Calls.mono (c_items_e (m := [41]) hL hS E4 hr4) ?_
      rintro e w5 ⟨ad, cap, rfl, nv5, hr5, hc5, hk⟩
      have HC5 : Hid (_) := HC4.out.trans hc5
      clear hc5
      have HK : Hid (p < s5.nodes.length ∧ K.length ≤ 100000) := (show _ ∧ _ from by
        have h2 : s2.nodes = s1.nodes := by have := Ps.take_n [46] s1; rw [E1.eq] at this; exact this
        have h3 : s3.nodes = s2.nodes := by have := Ps.take_n [91] s2; rw [E2.eq] at this; exact this
        have h4 : s4.nodes = s3.nodes := by have := Ps.take_n [40] s3; rw [E3.eq] at this; exact this
        have h5 := Ps.gr_items (hL F).gr.e [41] s4
        rw [E4.eq, h4, h3, h2] at h5
        have := HLT.out.1
        simp only at h5
        have h6 := items_few [41] hS.e s4 hr4.good
        rw [E4.eq] at h6
        have h7 := hr4.few
        exact ⟨by omega, by simp only at h6; omega⟩)
      have HKO : Hid (_) := KO.lit (w0 := w5) (e := 3) hr5 (Nat.le_refl _) #[.int .i64 (p : Int)] 1 rfl (by omega)
      have hb5 : Below w5.heap.size w5 (w5.alloc (.cells #[.int .i64 (p : Int)] 3)) := (Below.refl _ _).alloc (Nat.le_refl _) _
      obtain ⟨a6, cap6, w6, hap, hko6, hch6⟩ := KO.kids (K0 := [p]) HKO.out ((hk.go (Chg.below nv5 hb5)).inF hr5) (by have := HK.out.2; simp; omega)
      have HE : Hid (_) := hko6.kv hr5
      have HRn : Hid (_) := hap
      have HC6 : Hid (_) := HC5.out.trans (hch6 _ (Chg.below nv5 hb5))
      clear hko6 hch6 hap hb5 HKO hk hr5
      simp only [List.length_cons, List.length_nil, Nat.zero_add, List.singleton_append] at HRn HE
      go_wp2_with (at_builtin; refine wpList_append_run _ _ 41 rfl rfl _ _ _ _ rfl rfl HRn.out ?_)
      refine Calls.mono (c_overV (k := 13) (t := []) E5 HE.out.1 HK.out.1 HE.out.2) ?_
      rintro e w7 ⟨rfl, nv7, hr7, hc7⟩
      have HC7 : Hid (_) := HC6.out.trans hc7
      clear hc7
      have HFU : Hid (s6.toks.length + 1 ≤ s1.toks.length ∧ s6.toks.length ≤ f ∧ o < s6.nodes.length) := (show _ ∧ _ ∧ _ from by
        have g2 := Ps.sh_take [46] s1 HLT.out.2.2
        rw [E1.eq] at g2
        have g3 := Ps.sh_take [91] s2 g2.good
        rw [E2.eq] at g3
        have h1 := take_fewer g3.good (by decide) E3.eq
        simp only at h1
        have g4 := Ps.sh_take [40] s3 g3.good
        rw [E3.eq] at g4
        have h3 := Ps.sh_items hS.e [41] s4 g4.good
        rw [E4.eq] at h3
        have h4 := Ps.sh_over { k := 13 } (p :: K) s5 h3.good
        rw [E5.eq] at h4
        have hix := Ps.ix_over { k := 13 } (p :: K) s5
        rw [E5.eq] at hix
        have h6 := h3.le
        have h7 := h4.le
        have h8 := g2.le
        have h9 := g3.le
        simp only at h6 h7 h8 h9 hix
        have := HLT.out.2.1
        exact ⟨by omega, by omega, hix⟩)
      have HR7 : Hid (_) := hr7
      clear hr7
      go_wp2_with fail
      go_roundw
      case rel => exact ⟨o, s6, rfl, (show PrL _ _ _ _ _ _ _ _ _ _ _ _ from ⟨⟨nv7, HR7.out, HC7.out⟩, ⟨f, E6, HFU.out.2.1⟩, HFU.out.2.2⟩)⟩
      case measure =>
        have h1 := HR7.out.tokN
        have h2 := HT0.out
        have := HFU.out.1
        show _ < _
        rw [h1, h2]; omega
    · go_wp2_with fail
      refine Calls.mono (c_take (m := [46]) E1 HR1.out) ?_
      rintro e w2 ⟨rfl, nv2, hr2, hc2⟩
      have HC2 : Hid (_) := HC1.out.trans hc2
      clear hc2
      go_wp2_with fail
      refine Calls.mono (c_take (m := [91]) E2 hr2) ?_
      rintro e w3 ⟨rfl, nv3, hr3, hc3⟩
      have HC3 : Hid (_) := HC2.out.trans hc3
      clear hc3
      go_wp2_with fail
      refine Calls.mono (c_take (m := [40]) E3 hr3) ?_
      rintro e w4 ⟨rfl, nv4, hr4, hc4⟩
      have HC4 : Hid (_) := HC3.out.trans hc4
      clear hc4
      go_wp2_with fail
      go_ret
      exact ⟨rfl, nv4, hr4, HC4.out⟩
end Go.Proofs.YtpjmapoiinjakaaGreatDoor.R
namespace Go.Proofs.YtpjmapoiinjakaaGreatDoor.R
open Go.RowKit
open L (tkA)
set_option linter.unusedVariables false
section
variable {F : Nat → Prop} {base B dep : Nat} {L : Ps.Lv} {s s' : Ps.St} {nv : Value} {w : World} {r : Nat}
set_option maxRecDepth 100000 in
set_option maxHeartbeats 2000000 in
theorem c_alone (hL : ∀ F, LvC F base B dep L) (hS : Ps.ShL L) (E : Ru (Ps.alone L) s r s') (h : RS F base B dep s nv w) : Calls Tryz.prog 129 #[.pointer (some ⟨B, 0, none⟩)] w (Tells F base B dep nv w s' (.int .i64 (r : Int))) := by
  have HN : Hid (_) := c_next h
  have HM : Hid (∀ nv w, RS F base B dep s nv w → _) := fun nv w h => c_mark (w := w) (nv := nv) h
  have e := E.eq
  have n := E.small
  unfold Ps.alone at e
  simp only [] at e
  rcases eT : Ps.nxt s with ⟨tk, tt, tn, ta, tl, te⟩
  rw [eT] at HN e
  simp only [tkA] at HN e
  clear eT E h
  by_cases h1 : tk = 1
  · rw [if_pos h1] at e
    subst h1
    have E1 : Ru (Ps.leaf { k := 1, n := tn }) s r s' := ⟨e, n⟩
    clear e n HM
    go_enter Tryz.func129, Tryz.ntmps129
    go_wp2_with fail
    refine Calls.mono HN.out ?_
    rintro e w1 ⟨rfl, nv1, hr1, hc1⟩
    have hb1 : Below w1.heap.size w1 (w1.alloc (.cells #[.int .i64 1, .string ⟨tt.toArray⟩, .int .i64 (tn : Int), .int .i64 (ta : Int), .bool tl] 34)) := (Below.refl _ _).alloc (Nat.le_refl _) _
    have HR1 : Hid (_) := hr1.below hb1
    have HC1 : Hid (_) := hc1.trans (Chg.below nv1 hb1)
    clear hr1 hc1 hb1
    go_wp2_with fail
    refine Calls.mono (c_leaf (k := 1) (n := tn) (t := []) E1 HR1.out) ?_
    rintro e w9 ⟨rfl, nv9, hr9, hc9⟩
    go_wp2_with fail
    go_ret
    exact ⟨rfl, nv9, hr9, HC1.out.trans hc9⟩
  rw [if_neg h1] at e
  have b1 : ((tk : Int) == 1) = false := by rw [beq_eq_false_iff_ne]; omega
  by_cases h2 : tk = 2
  · rw [if_pos h2] at e
    subst h2
    have E1 : Ru (Ps.leaf { k := 2, t := tt }) s r s' := ⟨e, n⟩
    clear e n HM
    go_enter Tryz.func129, Tryz.ntmps129
    go_wp2_with fail
    refine Calls.mono HN.out ?_
    rintro e w1 ⟨rfl, nv1, hr1, hc1⟩
    have hb1 : Below w1.heap.size w1 (w1.alloc (.cells #[.int .i64 2, .string ⟨tt.toArray⟩, .int .i64 (tn : Int), .int .i64 (ta : Int), .bool tl] 34)) := (Below.refl _ _).alloc (Nat.le_refl _) _
    have HR1 : Hid (_) := hr1.below hb1
    have HC1 : Hid (_) := hc1.trans (Chg.below nv1 hb1)
    clear hr1 hc1 hb1
    go_wp2_with fail
    refine Calls.mono (c_leaf (k := 2) (n := 0) (t := tt) E1 HR1.out) ?_
    rintro e w9 ⟨rfl, nv9, hr9, hc9⟩
    go_wp2_with fail
    go_ret
    exact ⟨rfl, nv9, hr9, HC1.out.trans hc9⟩
  rw [if_neg h2] at e
  have b2 : ((tk : Int) == 2) = false := by rw [beq_eq_false_iff_ne]; omega
  by_cases h3 : tk = 3
  · rw [if_pos h3] at e
    subst h3
    have E1 : Ru (Ps.leaf { k := 3, t := tt }) s r s' := ⟨e, n⟩
    clear e n HM
    go_enter Tryz.func129, Tryz.ntmps129
    go_wp2_with fail
    refine Calls.mono HN.out ?_
    rintro e w1 ⟨rfl, nv1, hr1, hc1⟩
    have hb1 : Below w1.heap.size w1 (w1.alloc (.cells #[.int .i64 3, .string ⟨tt.toArray⟩, .int .i64 (tn : Int), .int .i64 (ta : Int), .bool tl] 34)) := (Below.refl _ _).alloc (Nat.le_refl _) _
    have HR1 : Hid (_) := hr1.below hb1
    have HC1 : Hid (_) := hc1.trans (Chg.below nv1 hb1)
    clear hr1 hc1 hb1
    go_wp2_with fail
    refine Calls.mono (c_leaf (k := 3) (n := 0) (t := tt) E1 HR1.out) ?_
    rintro e w9 ⟨rfl, nv9, hr9, hc9⟩
    go_wp2_with fail
    go_ret
    exact ⟨rfl, nv9, hr9, HC1.out.trans hc9⟩
  rw [if_neg h3] at e
  have b3 : ((tk : Int) == 3) = false := by rw [beq_eq_false_iff_ne]; omega
  clear h1 h2 h3
  generalize Ps.mark s = m at *
  by_cases m0 : m = [116, 114, 117, 101]
  · rw [if_pos m0] at e
    subst m0
    have E1 : Ru (Ps.leaf { k := 4, n := 1 }) s r s' := ⟨e, n⟩
    clear e n
    go_enter Tryz.func129, Tryz.ntmps129
    go_wp2_with fail
    refine Calls.mono HN.out ?_
    rintro e w1 ⟨rfl, nv1, hr1, hc1⟩
    have hb1 : Below w1.heap.size w1 (w1.alloc (.cells #[.int .i64 (tk : Int), .string ⟨tt.toArray⟩, .int .i64 (tn : Int), .int .i64 (ta : Int), .bool tl] 34)) := (Below.refl _ _).alloc (Nat.le_refl _) _
    have HR1 : Hid (_) := hr1.below hb1
    have HC1 : Hid (_) := hc1.trans (Chg.below nv1 hb1)
    clear hr1 hc1 hb1
    go_wp2_with fail
    refine Calls.mono (HM.out _ _ HR1.out) ?_
    rintro e w2 ⟨rfl, nv2, hr2, hc2⟩
    have HC2 : Hid (_) := HC1.out.trans hc2
    clear hc2
    go_wp2_with fail
    refine Calls.mono (c_leaf (k := 4) (n := 1) (t := []) E1 hr2) ?_
    rintro e w9 ⟨rfl, nv9, hr9, hc9⟩
    go_wp2_with fail
    go_ret
    exact ⟨rfl, nv9, hr9, HC2.out.trans hc9⟩
  rw [if_neg m0] at e
  have d0 : (m == [116, 114, 117, 101]) = false := by simpa using m0
  clear m0
  by_cases m1 : m = [102, 97, 108, 115, 101]
  · rw [if_pos m1] at e
    subst m1
    have E1 : Ru (Ps.leaf { k := 4 }) s r s' := ⟨e, n⟩
    clear e n
    go_enter Tryz.func129, Tryz.ntmps129
    go_wp2_with fail
    refine Calls.mono HN.out ?_
    rintro e w1 ⟨rfl, nv1, hr1, hc1⟩
    have hb1 : Below w1.heap.size w1 (w1.alloc (.cells #[.int .i64 (tk : Int), .string ⟨tt.toArray⟩, .int .i64 (tn : Int), .int .i64 (ta : Int), .bool tl] 34)) := (Below.refl _ _).alloc (Nat.le_refl _) _
    have HR1 : Hid (_) := hr1.below hb1
    have HC1 : Hid (_) := hc1.trans (Chg.below nv1 hb1)
    clear hr1 hc1 hb1
    go_wp2_with fail
    refine Calls.mono (HM.out _ _ HR1.out) ?_
    rintro e w2 ⟨rfl, nv2, hr2, hc2⟩
    have HC2 : Hid (_) := HC1.out.trans hc2
    clear hc2
    go_wp2_with fail
    refine Calls.mono (c_leaf (k := 4) (n := 0) (t := []) E1 hr2) ?_
    rintro e w9 ⟨rfl, nv9, hr9, hc9⟩
    go_wp2_with fail
    go_ret
    exact ⟨rfl, nv9, hr9, HC2.out.trans hc9⟩
  rw [if_neg m1] at e
  have d1 : (m == [102, 97, 108, 115, 101]) = false := by simpa using m1
  clear m1
  by_cases m2 : m = [110, 117, 108, 108]
  · rw [if_pos m2] at e
    subst m2
    have E1 : Ru (Ps.leaf { k := 5 }) s r s' := ⟨e, n⟩
    clear e n
    go_enter Tryz.func129, Tryz.ntmps129
    go_wp2_with fail
    refine Calls.mono HN.out ?_
    rintro e w1 ⟨rfl, nv1, hr1, hc1⟩
    have hb1 : Below w1.heap.size w1 (w1.alloc (.cells #[.int .i64 (tk : Int), .string ⟨tt.toArray⟩, .int .i64 (tn : Int), .int .i64 (ta : Int), .bool tl] 34)) := (Below.refl _ _).alloc (Nat.le_refl _) _
    have HR1 : Hid (_) := hr1.below hb1
    have HC1 : Hid (_) := hc1.trans (Chg.below nv1 hb1)
    clear hr1 hc1 hb1
    go_wp2_with fail
    refine Calls.mono (HM.out _ _ HR1.out) ?_
    rintro e w2 ⟨rfl, nv2, hr2, hc2⟩
    have HC2 : Hid (_) := HC1.out.trans hc2
    clear hc2
    go_wp2_with fail
    refine Calls.mono (c_leaf (k := 5) (n := 0) (t := []) E1 hr2) ?_
    rintro e w9 ⟨rfl, nv9, hr9, hc9⟩
    go_wp2_with fail
    go_ret
    exact ⟨rfl, nv9, hr9, HC2.out.trans hc9⟩
  rw [if_neg m2] at e
  have d2 : (m == [110, 117, 108, 108]) = false := by simpa using m2
  clear m2
  by_cases m3 : m = [117, 110, 100, 101, 102, 105, 110, 101, 100]
  · rw [if_pos m3] at e
    subst m3
    have E1 : Ru (Ps.leaf { k := 6 }) s r s' := ⟨e, n⟩
    clear e n
    go_enter Tryz.func129, Tryz.ntmps129
    go_wp2_with fail
    refine Calls.mono HN.out ?_
    rintro e w1 ⟨rfl, nv1, hr1, hc1⟩
    have hb1 : Below w1.heap.size w1 (w1.alloc (.cells #[.int .i64 (tk : Int), .string ⟨tt.toArray⟩, .int .i64 (tn : Int), .int .i64 (ta : Int), .bool tl] 34)) := (Below.refl _ _).alloc (Nat.le_refl _) _
    have HR1 : Hid (_) := hr1.below hb1
    have HC1 : Hid (_) := hc1.trans (Chg.below nv1 hb1)
    clear hr1 hc1 hb1
    go_wp2_with fail
    refine Calls.mono (HM.out _ _ HR1.out) ?_
    rintro e w2 ⟨rfl, nv2, hr2, hc2⟩
    have HC2 : Hid (_) := HC1.out.trans hc2
    clear hc2
    go_wp2_with fail
    refine Calls.mono (c_leaf (k := 6) (n := 0) (t := []) E1 hr2) ?_
    rintro e w9 ⟨rfl, nv9, hr9, hc9⟩
    go_wp2_with fail
    go_ret
    exact ⟨rfl, nv9, hr9, HC2.out.trans hc9⟩
  rw [if_neg m3] at e
  have d3 : (m == [117, 110, 100, 101, 102, 105, 110, 101, 100]) = false := by simpa using m3
  clear m3
  by_cases m4 : m = [116, 104, 105, 115]
  · rw [if_pos m4] at e
    subst m4
    have E1 : Ru (Ps.leaf { k := 7 }) s r s' := ⟨e, n⟩
    clear e n
    go_enter Tryz.func129, Tryz.ntmps129
    go_wp2_with fail
    refine Calls.mono HN.out ?_
    rintro e w1 ⟨rfl, nv1, hr1, hc1⟩
    have hb1 : Below w1.heap.size w1 (w1.alloc (.cells #[.int .i64 (tk : Int), .string ⟨tt.toArray⟩, .int .i64 (tn : Int), .int .i64 (ta : Int), .bool tl] 34)) := (Below.refl _ _).alloc (Nat.le_refl _) _
    have HR1 : Hid (_) := hr1.below hb1
    have HC1 : Hid (_) := hc1.trans (Chg.below nv1 hb1)
    clear hr1 hc1 hb1
    go_wp2_with fail
    refine Calls.mono (HM.out _ _ HR1.out) ?_
    rintro e w2 ⟨rfl, nv2, hr2, hc2⟩
    have HC2 : Hid (_) := HC1.out.trans hc2
    clear hc2
    go_wp2_with fail
    refine Calls.mono (c_leaf (k := 7) (n := 0) (t := []) E1 hr2) ?_
    rintro e w9 ⟨rfl, nv9, hr9, hc9⟩
    go_wp2_with fail
    go_ret
    exact ⟨rfl, nv9, hr9, HC2.out.trans hc9⟩
  rw [if_neg m4] at e
  have d4 : (m == [116, 104, 105, 115]) = false := by simpa using m4
  clear m4
  by_cases m5 : m = [40]
  · rw [if_pos m5] at e
    subst m5
    have E1 : Ru (Ps.inParens L) s r s' := ⟨e, n⟩
    clear e n
    go_enter Tryz.func129, Tryz.ntmps129
    go_wp2_with fail
    refine Calls.mono HN.out ?_
    rintro e w1 ⟨rfl, nv1, hr1, hc1⟩
    have hb1 : Below w1.heap.size w1 (w1.alloc (.cells #[.int .i64 (tk : Int), .string ⟨tt.toArray⟩, .int .i64 (tn : Int), .int .i64 (ta : Int), .bool tl] 34)) := (Below.refl _ _).alloc (Nat.le_refl _) _
    have HR1 : Hid (_) := hr1.below hb1
    have HC1 : Hid (_) := hc1.trans (Chg.below nv1 hb1)
    clear hr1 hc1 hb1
    go_wp2_with fail
    refine Calls.mono (HM.out _ _ HR1.out) ?_
    rintro e w2 ⟨rfl, nv2, hr2, hc2⟩
    have HC2 : Hid (_) := HC1.out.trans hc2
    clear hc2
    go_wp2_with fail
    refine Calls.mono (c_inParens hL E1 hr2) ?_
    rintro e w9 ⟨rfl, nv9, hr9, hc9⟩
    go_wp2_with fail
    go_ret
    exact ⟨rfl, nv9, hr9, HC2.out.trans hc9⟩
  rw [if_neg m5] at e
  have d5 : (m == [40]) = false := by simpa using m5
  clear m5
  by_cases m6 : m = [91]
  · rw [if_pos m6] at e
    subst m6
    have E1 : Ru (array L) s r s' := ⟨e, n⟩
    clear e n
    go_enter Tryz.func129, Tryz.ntmps129
    go_wp2_with fail
    refine Calls.mono HN.out ?_
    rintro e w1 ⟨rfl, nv1, hr1, hc1⟩
    have hb1 : Below w1.heap.size w1 (w1.alloc (.cells #[.int .i64 (tk : Int), .string ⟨tt.toArray⟩, .int .i64 (tn : Int), .int .i64 (ta : Int), .bool tl] 34)) := (Below.refl _ _).alloc (Nat.le_refl _) _
    have HR1 : Hid (_) := hr1.below hb1
    have HC1 : Hid (_) := hc1.trans (Chg.below nv1 hb1)
    clear hr1 hc1 hb1
    go_wp2_with fail
    refine Calls.mono (HM.out _ _ HR1.out) ?_
    rintro e w2 ⟨rfl, nv2, hr2, hc2⟩
    have HC2 : Hid (_) := HC1.out.trans hc2
    clear hc2
    go_wp2_with fail
    refine Calls.mono (c_array hL hS E1 hr2) ?_
    rintro e w9 ⟨rfl, nv9, hr9, hc9⟩
    go_wp2_with fail
    go_ret
    exact ⟨rfl, nv9, hr9, HC2.out.trans hc9⟩
  rw [if_neg m6] at e
  have d6 : (m == [91]) = false := by simpa using m6
  clear m6
  by_cases m7 : m = [123]
  · rw [if_pos m7] at e
    subst m7
    have E1 : Ru (object L) s r s' := ⟨e, n⟩
    clear e n
    go_enter Tryz.func129, Tryz.ntmps129
    go_wp2_with fail
    refine Calls.mono HN.out ?_
    rintro e w1 ⟨rfl, nv1, hr1, hc1⟩
    have hb1 : Below w1.heap.size w1 (w1.alloc (.cells #[.int .i64 (tk : Int), .string ⟨tt.toArray⟩, .int .i64 (tn : Int), .int .i64 (ta : Int), .bool tl] 34)) := (Below.refl _ _).alloc (Nat.le_refl _) _
    have HR1 : Hid (_) := hr1.below hb1
    have HC1 : Hid (_) := hc1.trans (Chg.below nv1 hb1)
    clear hr1 hc1 hb1
    go_wp2_with fail
    refine Calls.mono (HM.out _ _ HR1.out) ?_
    rintro e w2 ⟨rfl, nv2, hr2, hc2⟩
    have HC2 : Hid (_) := HC1.out.trans hc2
    clear hc2
    go_wp2_with fail
    refine Calls.mono (c_object hL hS E1 hr2) ?_
    rintro e w9 ⟨rfl, nv9, hr9, hc9⟩
    go_wp2_with fail
    go_ret
    exact ⟨rfl, nv9, hr9, HC2.out.trans hc9⟩
  rw [if_neg m7] at e
  have d7 : (m == [123]) = false := by simpa using m7
  clear m7
  by_cases m8 : m = [102, 117, 110, 99, 116, 105, 111, 110]
  · rw [if_pos m8] at e
    subst m8
    have E1 : Ru (Ps.func L false) s r s' := ⟨e, n⟩
    clear e n
    go_enter Tryz.func129, Tryz.ntmps129
    go_wp2_with fail
    refine Calls.mono HN.out ?_
    rintro e w1 ⟨rfl, nv1, hr1, hc1⟩
    have hb1 : Below w1.heap.size w1 (w1.alloc (.cells #[.int .i64 (tk : Int), .string ⟨tt.toArray⟩, .int .i64 (tn : Int), .int .i64 (ta : Int), .bool tl] 34)) := (Below.refl _ _).alloc (Nat.le_refl _) _
    have HR1 : Hid (_) := hr1.below hb1
    have HC1 : Hid (_) := hc1.trans (Chg.below nv1 hb1)
    clear hr1 hc1 hb1
    go_wp2_with fail
    refine Calls.mono (HM.out _ _ HR1.out) ?_
    rintro e w2 ⟨rfl, nv2, hr2, hc2⟩
    have HC2 : Hid (_) := HC1.out.trans hc2
    clear hc2
    go_wp2_with fail
    refine Calls.mono (c_func (named := false) hL hS E1 hr2) ?_
    rintro e w9 ⟨rfl, nv9, hr9, hc9⟩
    go_wp2_with fail
    go_ret
    exact ⟨rfl, nv9, hr9, HC2.out.trans hc9⟩
  rw [if_neg m8] at e
  have d8 : (m == [102, 117, 110, 99, 116, 105, 111, 110]) = false := by simpa using m8
  clear m8
  have E1 : Ru Ps.fail s r s' := ⟨e, n⟩
  clear e n
  go_enter Tryz.func129, Tryz.ntmps129
  go_wp2_with fail
  refine Calls.mono HN.out ?_
  rintro e w1 ⟨rfl, nv1, hr1, hc1⟩
  have hb1 : Below w1.heap.size w1 (w1.alloc (.cells #[.int .i64 (tk : Int), .string ⟨tt.toArray⟩, .int .i64 (tn : Int), .int .i64 (ta : Int), .bool tl] 34)) := (Below.refl _ _).alloc (Nat.le_refl _) _
  have HR1 : Hid (_) := hr1.below hb1
  have HC1 : Hid (_) := hc1.trans (Chg.below nv1 hb1)
  clear hr1 hc1 hb1
  go_wp2_with fail
  refine Calls.mono (HM.out _ _ HR1.out) ?_
  rintro e w2 ⟨rfl, nv2, hr2, hc2⟩
  have HC2 : Hid (_) := HC1.out.trans hc2
  clear hc2
  go_wp2_with fail
  refine Calls.mono (c_fail E1 hr2) ?_
  rintro e w9 ⟨rfl, nv9, hr9, hc9⟩
  go_wp2_with fail
  go_ret
  exact ⟨rfl, nv9, hr9, HC2.out.trans hc9⟩
set_option maxRecDepth 100000 in
set_option maxHeartbeats 2000000 in
theorem c_anyStatement (hL : ∀ F, LvC F base B dep L) (hI : Ps.IxL L) (hS : Ps.ShL L) (E : Ru (Ps.anyStatement L) s r s') (h : RS F base B dep s nv w) : Calls Tryz.prog 54 #[.pointer (some ⟨B, 0, none⟩)] w (Tells F base B dep nv w s' (.int .i64 (r : Int))) := by
  have HM : Hid (_) := c_mark h
  have e := E.eq
  have n := E.small
  unfold Ps.anyStatement at e
  simp only [] at e
  clear E h
  generalize Ps.mark s = m at *
  by_cases m0 : m = [123]
  · rw [if_pos m0] at e
    subst m0
    have E1 : Ru (Ps.block L) s r s' := ⟨e, n⟩
    clear e n
    go_enter Tryz.func54, Tryz.ntmps54
    go_wp2_with fail
    refine Calls.mono HM.out ?_
    rintro e w1 ⟨rfl, nv1, hr1, hc1⟩
    go_wp2_with fail
    refine Calls.mono (c_block hL hS E1 hr1) ?_
    rintro e w9 ⟨rfl, nv9, hr9, hc9⟩
    go_wp2_with fail
    go_ret
    exact ⟨rfl, nv9, hr9, hc1.trans hc9⟩
  rw [if_neg m0] at e
  have d0 : (m == [123]) = false := by simpa using m0
  clear m0
  by_cases m1 : m = [105, 102]
  · rw [if_pos m1] at e
    subst m1
    have E1 : Ru (Ps.ifS L) s r s' := ⟨e, n⟩
    clear e n
    go_enter Tryz.func54, Tryz.ntmps54
    go_wp2_with fail
    refine Calls.mono HM.out ?_
    rintro e w1 ⟨rfl, nv1, hr1, hc1⟩
    go_wp2_with fail
    refine Calls.mono (c_ifS hL E1 hr1) ?_
    rintro e w9 ⟨rfl, nv9, hr9, hc9⟩
    go_wp2_with fail
    go_ret
    exact ⟨rfl, nv9, hr9, hc1.trans hc9⟩
  rw [if_neg m1] at e
  have d1 : (m == [105, 102]) = false := by simpa using m1
  clear m1
  by_cases m2 : m = [119, 104, 105, 108, 101]
  · rw [if_pos m2] at e
    subst m2
    have E1 : Ru (Ps.whileS L) s r s' := ⟨e, n⟩
    clear e n
    go_enter Tryz.func54, Tryz.ntmps54
    go_wp2_with fail
    refine Calls.mono HM.out ?_
    rintro e w1 ⟨rfl, nv1, hr1, hc1⟩
    go_wp2_with fail
    refine Calls.mono (c_whileS hL E1 hr1) ?_
    rintro e w9 ⟨rfl, nv9, hr9, hc9⟩
    go_wp2_with fail
    go_ret
    exact ⟨rfl, nv9, hr9, hc1.trans hc9⟩
  rw [if_neg m2] at e
  have d2 : (m == [119, 104, 105, 108, 101]) = false := by simpa using m2
  clear m2
  by_cases m3 : m = [98, 114, 101, 97, 107]
  · rw [if_pos m3] at e
    subst m3
    have E1 : Ru (Ps.jump 28) s r s' := ⟨e, n⟩
    clear e n
    go_enter Tryz.func54, Tryz.ntmps54
    go_wp2_with fail
    refine Calls.mono HM.out ?_
    rintro e w1 ⟨rfl, nv1, hr1, hc1⟩
    go_wp2_with fail
    refine Calls.mono (c_jump (k := 28) E1 hr1) ?_
    rintro e w9 ⟨rfl, nv9, hr9, hc9⟩
    go_wp2_with fail
    go_ret
    exact ⟨rfl, nv9, hr9, hc1.trans hc9⟩
  rw [if_neg m3] at e
  have d3 : (m == [98, 114, 101, 97, 107]) = false := by simpa using m3
  clear m3
  by_cases m4 : m = [99, 111, 110, 116, 105, 110, 117, 101]
  · rw [if_pos m4] at e
    subst m4
    have E1 : Ru (Ps.jump 29) s r s' := ⟨e, n⟩
    clear e n
    go_enter Tryz.func54, Tryz.ntmps54
    go_wp2_with fail
    refine Calls.mono HM.out ?_
    rintro e w1 ⟨rfl, nv1, hr1, hc1⟩
    go_wp2_with fail
    refine Calls.mono (c_jump (k := 29) E1 hr1) ?_
    rintro e w9 ⟨rfl, nv9, hr9, hc9⟩
    go_wp2_with fail
    go_ret
    exact ⟨rfl, nv9, hr9, hc1.trans hc9⟩
  rw [if_neg m4] at e
  have d4 : (m == [99, 111, 110, 116, 105, 110, 117, 101]) = false := by simpa using m4
  clear m4
  by_cases m5 : m = [114, 101, 116, 117, 114, 110]
  · rw [if_pos m5] at e
    subst m5
    have E1 : Ru (Ps.returnS L) s r s' := ⟨e, n⟩
    clear e n
    go_enter Tryz.func54, Tryz.ntmps54
    go_wp2_with fail
    refine Calls.mono HM.out ?_
    rintro e w1 ⟨rfl, nv1, hr1, hc1⟩
    go_wp2_with fail
    refine Calls.mono (c_returnS hL E1 hr1) ?_
    rintro e w9 ⟨rfl, nv9, hr9, hc9⟩
    go_wp2_with fail
    go_ret
    exact ⟨rfl, nv9, hr9, hc1.trans hc9⟩
  rw [if_neg m5] at e
  have d5 : (m == [114, 101, 116, 117, 114, 110]) = false := by simpa using m5
  clear m5
  by_cases m6 : m = [116, 104, 114, 111, 119]
  · rw [if_pos m6] at e
    subst m6
    have E1 : Ru (Ps.throwS L) s r s' := ⟨e, n⟩
    clear e n
    go_enter Tryz.func54, Tryz.ntmps54
    go_wp2_with fail
    refine Calls.mono HM.out ?_
    rintro e w1 ⟨rfl, nv1, hr1, hc1⟩
    go_wp2_with fail
    refine Calls.mono (c_throwS hL E1 hr1) ?_
    rintro e w9 ⟨rfl, nv9, hr9, hc9⟩
    go_wp2_with fail
    go_ret
    exact ⟨rfl, nv9, hr9, hc1.trans hc9⟩
  rw [if_neg m6] at e
  have d6 : (m == [116, 104, 114, 111, 119]) = false := by simpa using m6
  clear m6
  by_cases m7 : m = [116, 114, 121]
  · rw [if_pos m7] at e
    subst m7
    have E1 : Ru (Ps.tryS L) s r s' := ⟨e, n⟩
    clear e n
    go_enter Tryz.func54, Tryz.ntmps54
    go_wp2_with fail
    refine Calls.mono HM.out ?_
    rintro e w1 ⟨rfl, nv1, hr1, hc1⟩
    go_wp2_with fail
    refine Calls.mono (c_tryS hL hS E1 hr1) ?_
    rintro e w9 ⟨rfl, nv9, hr9, hc9⟩
    go_wp2_with fail
    go_ret
    exact ⟨rfl, nv9, hr9, hc1.trans hc9⟩
  rw [if_neg m7] at e
  have d7 : (m == [116, 114, 121]) = false := by simpa using m7
  clear m7
  by_cases m8 : m = [108, 101, 116]
  · rw [if_pos m8] at e
    subst m8
    have E1 : Ru (Ps.binding L 21) s r s' := ⟨e, n⟩
    clear e n
    go_enter Tryz.func54, Tryz.ntmps54
    go_wp2_with fail
    refine Calls.mono HM.out ?_
    rintro e w1 ⟨rfl, nv1, hr1, hc1⟩
    go_wp2_with fail
    refine Calls.mono (c_binding (k := 21) hL E1 hr1) ?_
    rintro e w9 ⟨rfl, nv9, hr9, hc9⟩
    go_wp2_with fail
    go_ret
    exact ⟨rfl, nv9, hr9, hc1.trans hc9⟩
  rw [if_neg m8] at e
  have d8 : (m == [108, 101, 116]) = false := by simpa using m8
  clear m8
  by_cases m9 : m = [99, 111, 110, 115, 116]
  · rw [if_pos m9] at e
    subst m9
    have E1 : Ru (Ps.binding L 22) s r s' := ⟨e, n⟩
    clear e n
    go_enter Tryz.func54, Tryz.ntmps54
    go_wp2_with fail
    refine Calls.mono HM.out ?_
    rintro e w1 ⟨rfl, nv1, hr1, hc1⟩
    go_wp2_with fail
    refine Calls.mono (c_binding (k := 22) hL E1 hr1) ?_
    rintro e w9 ⟨rfl, nv9, hr9, hc9⟩
    go_wp2_with fail
    go_ret
    exact ⟨rfl, nv9, hr9, hc1.trans hc9⟩
  rw [if_neg m9] at e
  have d9 : (m == [99, 111, 110, 115, 116]) = false := by simpa using m9
  clear m9
  by_cases m10 : m = [102, 117, 110, 99, 116, 105, 111, 110]
  · rw [if_pos m10] at e
    subst m10
    have E1 : Ru (Ps.definition L) s r s' := ⟨e, n⟩
    clear e n
    go_enter Tryz.func54, Tryz.ntmps54
    go_wp2_with fail
    refine Calls.mono HM.out ?_
    rintro e w1 ⟨rfl, nv1, hr1, hc1⟩
    go_wp2_with fail
    refine Calls.mono (c_definition hL hS E1 hr1) ?_
    rintro e w9 ⟨rfl, nv9, hr9, hc9⟩
    go_wp2_with fail
    go_ret
    exact ⟨rfl, nv9, hr9, hc1.trans hc9⟩
  rw [if_neg m10] at e
  have d10 : (m == [102, 117, 110, 99, 116, 105, 111, 110]) = false := by simpa using m10
  clear m10
  have E1 : Ru (Ps.exprS L) s r s' := ⟨e, n⟩
  clear e n
  go_enter Tryz.func54, Tryz.ntmps54
  go_wp2_with fail
  refine Calls.mono HM.out ?_
  rintro e w1 ⟨rfl, nv1, hr1, hc1⟩
  go_wp2_with fail
  refine Calls.mono (c_exprS hL hI E1 hr1) ?_
  rintro e w9 ⟨rfl, nv9, hr9, hc9⟩
  go_wp2_with fail
  go_ret
  exact ⟨rfl, nv9, hr9, hc1.trans hc9⟩
end
end Go.Proofs.YtpjmapoiinjakaaGreatDoor.R
