-- PROVED: a heap, its mark, and what a statement writes down beside them.
import Derived.Test.YtmipgpkeegggpaaHSame
namespace Go.Proofs.Ytmipgpkeegggpaa.P
open Go.RowKit Hq
set_option linter.unusedVariables false
/-- The book has the cells W. -/
def Bok (b : Bk) (W : List Cl) : Prop := b.len = W.length ∧ ∀ k, k < W.length → b.slots[k]? = W[k]?
def MkS (base : Nat) (w : World) (bs : List Bk) (m vS vW : Value) : Bool → Prop
  | false => m = .pointer none ∧ vS = .slice none 0 0 ∧ bs.length = 1
  | true => ∃ Hm A' M Was, m = .pointer (some ⟨Hm, 0, none⟩) ∧ bs[1]? = some M ∧ bs.length = 2 ∧ M.at_ = A' ∧ Hp w Hm A' ∧ Bok M Was ∧ OC base w vS Was ∧ (∀ g, vS.ownBlock = some g → vW.ownBlock ≠ some g)
structure RunS (base : Nat) (w : World) (H A : Nat) (vW : Value) (W : List Cl) (m vS : Value) (mk : Bool) : Prop where
  sys : ∃ (b : Bk) (bs : List Bk), Sys base w bs ∧ bs[0]? = some b ∧ b.at_ = A ∧ b.opn = true ∧ Bok b W ∧ MkS base w bs m vS vW mk
  hp : Hp w H A
  oc : OC base w vW W
  size : base ≤ w.heap.size
section
variable {base H A : Nat} {w w' : World} {vW m vS : Value} {W : List Cl} {mk : Bool}
theorem MkS.len {bs : List Bk} (h : MkS base w bs m vS vW mk) : bs.length ≤ 2 := by
  cases mk
  · obtain ⟨_, _, h⟩ := h; omega
  · obtain ⟨_, _, _, _, _, _, h, _⟩ := h; omega
/-- Other blocks than a row's own are turned. -/
theorem MkS.keep {S : List TypeId} {bs : List Bk} {vW' : Value} (h : MkS base w bs m vS vW mk) (k : Keep S base w w') (hS : 67 ∉ S) (hM : ∀ T, T ∈ S → Mine T) (hr : ∀ g cur, w.heap[g]? = some (.cells cur 30 (0, 0)) → vW.ownBlock ≠ some g → w'.heap[g]? = w.heap[g]?) (hw : vW'.ownBlock = vW.ownBlock ∨ ∀ g, vW'.ownBlock = some g → w.heap.size ≤ g) : MkS base w' bs m vS vW' mk := by
  cases mk
  · exact h
  · obtain ⟨Hm, A', M, Was, h1, h2, h3, h4, h5, h6, ⟨xs, ho, hL⟩, h8⟩ := h
    refine ⟨Hm, A', M, Was, h1, h2, h3, h4, h5.keep k hS, h6, ⟨xs, own_same ho fun g cur hg hc => hr g cur hc (h8 g hg), hL.keep k hM⟩, fun g hg => ?_⟩
    rcases hw with hw | hw
    · rw [hw]; exact h8 g hg
    · intro e
      have := hw g e
      have := (ho.lt g hg).2
      omega
theorem MkS.books {bs : List Bk} {b' : Bk} (h : MkS base w bs m vS vW mk) : MkS base w (bs.set 0 b') m vS vW mk := by
  cases mk
  · obtain ⟨h1, h2, h3⟩ := h; exact ⟨h1, h2, by simpa using h3⟩
  · obtain ⟨Hm, A', M, Was, h1, h2, h3, h4⟩ := h
    exact ⟨Hm, A', M, Was, h1, by rw [List.getElem?_set_ne (by omega)]; exact h2, by simpa using h3, h4⟩
theorem RunS.below (h : RunS base w H A vW W m vS mk) (hb : Below w.heap.size w w') : RunS base w' H A vW W m vS mk := by
  obtain ⟨b, bs, h1, h2, h3, h4, h5, h6⟩ := h.sys
  have kk : Keep [] base w w' := keepB h.size hb
  exact ⟨⟨b, bs, h1.below hb, h2, h3, h4, h5, h6.keep kk (by simp) (by simp) (fun g cur hg _ => hb.block g (heap_lt hg)) (.inl rfl)⟩, h.hp.below hb, h.oc.keep kk (by simp) (by simp), Nat.le_trans h.size hb.size⟩
/-- What a heap's call has left. -/
theorem four_row {k : Keep Four base w w'} : ∀ g cur, w.heap[g]? = some (.cells cur 30 (0, 0)) → vW.ownBlock ≠ some g → w'.heap[g]? = w.heap[g]? := fun g cur hg _ => k.same g _ _ _ hg (by simp [Four])
theorem run_len (h : RunS base w H A vW W m vS mk) : Calls Try.prog 16 #[.pointer (some ⟨H, 0, none⟩)] w fun e w' => e = .returned (.int .i64 (W.length : Int)) ∧ w' = w := by
  obtain ⟨b, bs, h1, h2, h3, h4, h5, h6⟩ := h.sys
  exact hlen h1 h2 h3 h.hp (by rw [h5.1])
theorem run_load (h : RunS base w H A vW W m vS mk) (K : Int) (hk : ¬ (0 ≤ IntKind.i64.wrap (K - 1) ∧ IntKind.i64.wrap (K - 1) < W.length)) :
    Calls Try.prog 15 #[.pointer (some ⟨H, 0, none⟩), .int .i64 K] w fun e w' => e = .returned (.tuple #[.agg #[.int .i64 0, .int .i64 0, .int .i64 0, .slice none 0 0, .slice none 0 0], .int .i64 2]) ∧ Hid (RunS base (w'.alloc (.cells #[.int .i64 0, .int .i64 0, .int .i64 0, .slice none 0 0, .slice none 0 0] 30)) H A vW W m vS mk) ∧ Hid (Below w.heap.size w (w'.alloc (.cells #[.int .i64 0, .int .i64 0, .int .i64 0, .slice none 0 0, .slice none 0 0] 30))) := by
  obtain ⟨b, bs, h1, h2, h3, h4, h5, h6⟩ := h.sys
  refine (hload_no h1 h2 h3 h.hp K (by rw [h5.1]; exact hk)).mono ?_
  rintro e w' ⟨rfl, hb⟩
  have hb2 : Below w.heap.size w (w'.alloc (.cells #[.int .i64 0, .int .i64 0, .int .i64 0, .slice none 0 0, .slice none 0 0] 30)) := hb.out.alloc hb.out.size _
  exact ⟨rfl, h.below hb2, hb2⟩
theorem run_store_no (h : RunS base w H A vW W m vS mk) (K : Int) (hk : ¬ (0 ≤ IntKind.i64.wrap (K - 1) ∧ IntKind.i64.wrap (K - 1) < W.length)) {vK vV : Value} {c : Cl} (hc : Parts base w vK vV c) :
    Calls Try.prog 13 #[.pointer (some ⟨H, 0, none⟩), .int .i64 K, .agg #[.int .i64 c.kind, .int .i64 c.a, .int .i64 c.b, vK, vV]] w fun e w' => e = .returned (.int .i64 2) ∧ Hid (RunS base w' H A vW W m vS mk) ∧ Hid (Below w.heap.size w w') := by
  obtain ⟨b, bs, h1, h2, h3, h4, h5, h6⟩ := h.sys
  refine (hstore_no h1 h2 h3 h.hp (K := K) (by rw [h5.1]; exact hk) hc).mono ?_
  rintro e w' ⟨rfl, hb⟩
  exact ⟨rfl, h.below hb.out, hb⟩
theorem run_store (h : RunS base w H A vW W m vS mk) {k : Nat} (hk : k < W.length) {K : Int} (hK : IntKind.i64.wrap (K - 1) = (k : Int)) {vK vV : Value} {c : Cl} (hc : Parts base w vK vV c) :
    Calls Try.prog 13 #[.pointer (some ⟨H, 0, none⟩), .int .i64 K, .agg #[.int .i64 c.kind, .int .i64 c.a, .int .i64 c.b, vK, vV]] w fun e w' => e = .returned (.int .i64 0) ∧
      Hid (∃ g cap, vW = .slice (some ⟨g, 0, none⟩) W.length cap ∧ g < w'.heap.size ∧ (∀ t, w'.frozen? ⟨g, t, none⟩ = false) ∧ (∀ t, t < 5 → ∃ u, w'.cell? ⟨g, k * 5 + t, none⟩ = some u) ∧
        RunS base (((((w'.setCell ⟨g, k * 5, none⟩ (.int .i64 c.kind)).setCell ⟨g, k * 5 + 1, none⟩ (.int .i64 c.a)).setCell ⟨g, k * 5 + 2, none⟩ (.int .i64 c.b)).setCell ⟨g, k * 5 + 3, none⟩ vK).setCell ⟨g, k * 5 + 4, none⟩ vV) H A vW (W.set k c) m vS mk ∧
        Below base w (((((w'.setCell ⟨g, k * 5, none⟩ (.int .i64 c.kind)).setCell ⟨g, k * 5 + 1, none⟩ (.int .i64 c.a)).setCell ⟨g, k * 5 + 2, none⟩ (.int .i64 c.b)).setCell ⟨g, k * 5 + 3, none⟩ vK).setCell ⟨g, k * 5 + 4, none⟩ vV)) ∧ Hid (Below base w w') := by
  obtain ⟨b, bs, h1, h2, h3, h4, h5, h6⟩ := h.sys
  refine (hstore h1 h2 h3 h.hp hK (by rw [h5.1]; exact hk) hc).mono ?_
  rintro e w' ⟨rfl, q, _, hs, hk2⟩
  have hk2 := hk2.out
  have hoc := h.oc.keep hk2 (by simp [Four]) (by simp [Four, Mine])
  obtain ⟨g, cap, e, _, lg, fz, cells, hoc2, k3⟩ := hoc.set hk (hc.keep hk2 (by simp [Four, Mine]))
  refine ⟨rfl, ⟨g, cap, e, lg, fz, cells, ⟨⟨upd bs b k c q, _, hs.out.other k3 (by simp [Mine]), set_same h2, h3, h4, ⟨by rw [List.length_set]; exact h5.1, fun j hj => ?_⟩, ?_⟩, ?_, hoc2, ?_⟩, hk2.bel.trans k3.bel⟩, hk2.bel⟩
  · rw [List.length_set] at hj
    show (b.slots.set k c)[j]? = _
    have hkl : k < b.slots.length := by
      have := h5.2 k hk
      rw [List.getElem?_eq_getElem hk] at this
      exact (List.getElem?_eq_some_iff.1 this).1
    by_cases e : j = k
    · subst e; rw [List.getElem?_set_self hkl, List.getElem?_set_self hk]
    · rw [List.getElem?_set_ne (fun x => e x.symm), List.getElem?_set_ne (fun x => e x.symm)]; exact h5.2 j hj
  · refine (((h6.keep (vW' := vW) hk2 (by simp [Four]) (by simp [Four, Mine]) (four_row (k := hk2)) (.inl rfl))).books).keep k3 (by simp) (by simp [Mine]) (fun g' cur hg' hne => ?_) (.inl rfl)
    rw [e] at hne
    have hne : g' ≠ g := fun x => hne (by rw [x]; rfl)
    rw [heap_set_ne hne, heap_set_ne hne, heap_set_ne hne, heap_set_ne hne, heap_set_ne hne]
  · exact (h.hp.keep hk2 (by simp [Four])).keep k3 (by simp)
  · exact Nat.le_trans (Nat.le_trans h.size hk2.size) k3.size
theorem run_alloc (h : RunS base w H A vW W m vS mk) (hl : W.length < 4000) {vK vV : Value} {c : Cl} (hc : Parts base w vK vV c) :
    Calls Try.prog 14 #[.pointer (some ⟨H, 0, none⟩), .agg #[.int .i64 c.kind, .int .i64 c.a, .int .i64 c.b, vK, vV]] w fun e w' => e = .returned (.tuple #[.int .i64 ((W.length : Int) + 1), .int .i64 0]) ∧
      Hid (∃ a cap w3, (Builtin.append_ #[22, 22] 22 #[vW, .slice (some ⟨w'.heap.size, 0, none⟩) 1 1]).run Try.prog (w'.alloc (.cells #[.int .i64 c.kind, .int .i64 c.a, .int .i64 c.b, vK, vV] 30)) = .ok (.slice a (W.length + 1) cap) w3 ∧ RunS base w3 H A (.slice a (W.length + 1) cap) (W ++ [c]) m vS mk ∧ Below base w w3) ∧ Hid (Below base w w') := by
  obtain ⟨b, bs, h1, h2, h3, h4, h5, h6⟩ := h.sys
  refine (halloc h1 h2 h3 h.hp h4 (by rw [h5.1]; omega) (n := (W.length : Int) + 1) (by rw [h5.1]) hc).mono ?_
  rintro e w' ⟨rfl, b', hs, hd, hk2⟩
  have hk2 := hk2.out
  have hz : base ≤ w'.heap.size := Nat.le_trans h.size hk2.size
  have hal : Below w'.heap.size w' (w'.alloc (.cells #[.int .i64 c.kind, .int .i64 c.a, .int .i64 c.b, vK, vV] 30)) := (Below.refl _ _).alloc (Nat.le_refl _) _
  have hka : Keep [] base w' (w'.alloc (.cells #[.int .i64 c.kind, .int .i64 c.a, .int .i64 c.b, vK, vV] 30)) := keepB hz hal
  have hoc := (h.oc.keep hk2 (by simp [Four]) (by simp [Four, Mine])).keep hka (by simp) (by simp)
  obtain ⟨a, cap, w3, hr, ho, k3, hoth, hat⟩ := hoc.push2 (Nat.le_trans hz hal.size) (by omega) (heap_alloc_new _ _) ((hc.keep hk2 (by simp [Four, Mine])).keep hka (by simp)) 22
  refine ⟨rfl, ⟨a, cap, w3, hr, ⟨⟨b', _, (hs.out.below hal).other k3 (by simp [Mine]), set_same h2, hd.out.at_.trans h3, hd.out.opn.trans h4, ⟨by rw [hd.out.len, h5.1, List.length_append]; rfl, fun j hj => ?_⟩, ?_⟩, ?_, ho, ?_⟩, (hk2.bel.trans hka.bel).trans k3.bel⟩, hk2.bel⟩
  · rw [List.length_append, List.length_singleton] at hj
    by_cases e : j = W.length
    · subst e; rw [List.getElem?_append_right (Nat.le_refl _), Nat.sub_self]
      have := hd.out.new
      rw [h5.1] at this
      exact this
    · rw [List.getElem?_append_left (by omega), hd.out.old j (by rw [h5.1]; omega)]
      exact h5.2 j (by omega)
  · have m1 := ((h6.keep (vW' := vW) hk2 (by simp [Four]) (by simp [Four, Mine]) (four_row (k := hk2)) (.inl rfl)).books (b' := b')).keep (vW' := vW) hka (by simp) (by simp) (fun g cur hg _ => hal.block g (heap_lt hg)) (.inl rfl)
    refine m1.keep k3 (by simp) (by simp [Mine]) (fun g cur hg hne => hoth g (heap_lt hg) hne) ?_
    rcases hat with hat | hat
    · exact .inl hat
    · exact .inr fun g hg => by rw [hat] at hg; injection hg with hg; omega
  · exact ((h.hp.keep hk2 (by simp [Four])).below hal).keep k3 (by simp)
  · exact Nat.le_trans (Nat.le_trans hz hal.size) k3.size
theorem run_mark (h : RunS base w H A vW W m vS false) (hl : W.length < 4000) :
    Calls Try.prog 11 #[.pointer (some ⟨H, 0, none⟩)] w fun e w' => ∃ Hm, e = .returned (.pointer (some ⟨Hm, 0, none⟩)) ∧
      Hid (∃ a cap w3, (Builtin.append_ #[22, 22] 22 #[.slice (some ⟨w'.heap.size, 0, none⟩) 0 0, vW]).run Try.prog (w'.alloc (.cells #[] 30)) = .ok (.slice a W.length cap) w3 ∧ RunS base w3 H A vW W (.pointer (some ⟨Hm, 0, none⟩)) (.slice a W.length cap) true ∧ Below base w w3) := by
  obtain ⟨b, bs, h1, h2, h3, h4, h5, h6⟩ := h.sys
  obtain ⟨-, -, h8⟩ := h6
  refine (hmark h1 (by omega) h2 h3 h.hp h4).mono ?_
  rintro e w' ⟨Hm, A', v, rfl, _, hs, hp, hk2⟩
  have hk2 := hk2.out
  have hz : base ≤ w'.heap.size := Nat.le_trans h.size hk2.size
  have hoc := h.oc.keep hk2 (by simp) (by simp [Mine])
  obtain ⟨a, cap, w3, hr, ho, hb, g, hg, hg2⟩ := hoc.copy hz (by omega) 22
  have k3 : Keep [] base w' w3 := keepB hz hb
  have hoc3 := hoc.keep k3 (by simp) (by simp)
  refine ⟨Hm, rfl, a, cap, w3, hr, ⟨⟨b, _, hs.out.below hb, ?_, h3, h4, h5, Hm, A', { b with at_ := A', row := v }, W, rfl, ?_, ?_, rfl, hp.out.below hb, h5, ho, fun g' hg' e => ?_⟩, ?_, hoc3, Nat.le_trans hz hb.size⟩, hk2.bel.trans k3.bel⟩
  · rw [List.getElem?_append_left (by omega)]; exact h2
  · rw [List.getElem?_append_right (by omega), h8]; rfl
  · rw [List.length_append, h8]; rfl
  · rw [hg] at hg'
    injection hg' with hg'
    obtain ⟨xs, hox, _⟩ := hoc
    have := (hox.lt g' e).2
    omega
  · exact (h.hp.keep hk2 (by simp)).below hb
end
end Go.Proofs.Ytmipgpkeegggpaa.P
