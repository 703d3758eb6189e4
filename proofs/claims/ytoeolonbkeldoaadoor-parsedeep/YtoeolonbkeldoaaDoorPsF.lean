/- The parser's fail, want by their contracts. -/
import Derived.Test.YtoeolonbkeldoaaDoorPsA
namespace Go.Proofs.YtoeolonbkeldoaaDoor.R
open Go.RowKit
open L (TokAt tkA own_block own_below intOf cells5h cells5 info_of)
set_option linter.unusedVariables false
abbrev nil0 : Value := .slice none 0 0
theorem NdIn.zero {F : Nat → Prop} (W : World) (B : Nat) (nv : Value) (k n : Nat) (t : List UInt8) (a : Nat) : NdIn F W B nv { k := k, n := n, t := t, a := a } nil0 nil0 :=
  ⟨⟨none, 0, rfl, Nat.le_refl _, .inl rfl⟩, ⟨none, 0, rfl, Nat.le_refl _, .inl rfl⟩, (fun _ h => nomatch h), (fun _ h => nomatch h), (fun _ h => nomatch h), (fun _ h => nomatch h)⟩
theorem set3 {w : World} {b : Nat} {x0 x1 x2 x3 x4 : Value} {t : TypeId} (h : w.heap[b]? = some (.cells #[x0, x1, x2, x3, x4] t (0, 0))) (y : Value) : (w.setCell ⟨b, 3, none⟩ y).heap[b]? = some (.cells #[x0, x1, x2, y, x4] t (0, 0)) := by
  simp [World.setCell, Array.getElem?_modify, h]
theorem set4 {w : World} {b : Nat} {x0 x1 x2 x3 x4 : Value} {t : TypeId} (h : w.heap[b]? = some (.cells #[x0, x1, x2, x3, x4] t (0, 0))) (y : Value) : (w.setCell ⟨b, 4, none⟩ y).heap[b]? = some (.cells #[x0, x1, x2, x3, y] t (0, 0)) := by
  simp [World.setCell, Array.getElem?_modify, h]
theorem set2 {w : World} {b : Nat} {x0 x1 x2 x3 x4 : Value} {t : TypeId} (h : w.heap[b]? = some (.cells #[x0, x1, x2, x3, x4] t (0, 0))) (y : Value) : (w.setCell ⟨b, 2, none⟩ y).heap[b]? = some (.cells #[x0, x1, y, x3, x4] t (0, 0)) := by
  simp [World.setCell, Array.getElem?_modify, h]
theorem RS.hbw {F : Nat → Prop} {base B dep : Nat} {st : Ps.St} {nv : Value} {W : World} (h : RS F base B dep st nv W) : base ≤ W.heap.size := by have := h.lt; have := h.hB; omega
theorem run_field3 (k : Int) (t : ByteArray) (n a : Int) (ln : Bool) (W : World) : (Instr.field 42 (.agg #[.int .i64 k, .string t, .int .i64 n, .int .i64 a, .bool ln]) 3).run Tryd.prog W = .ok (.int .i64 a) W := by
  simp [Instr.field, go_sem, asAgg]
/-- Where the reader stands once it has failed. -/
def failed (st : Ps.St) : Ps.St := if st.failed then st else { st with failed := true, at_ := (Ps.nxt st).a, toks := [Ps.bad] }
set_option maxRecDepth 100000 in
set_option maxHeartbeats 2000000 in
theorem fail_any {F : Nat → Prop} {base B dep : Nat} {st : Ps.St} {nv : Value} {w : World} (h : RS F base B dep st nv w) (hlen : st.nodes.length ≤ 1000000000) :
    Calls Tryd.prog 14 #[.pointer (some ⟨B, 0, none⟩)] w fun e w' => e = .returned (.int .i64 (st.nodes.length : Int)) ∧ ∃ nv', RS F base B dep (Ps.fail st).2 nv' w' ∧ Chg B nv nv' w w' := by
  obtain ⟨tv, e1, -, -⟩ := h.rd
  obtain ⟨q0, q1, q2, q3, q4, f0, f1, f2, f3, f4, hlt⟩ := cells5h e1
  have HADD : Hid (∀ (st' : Ps.St) W, RS F base B dep st' nv W → st'.nodes.length ≤ 1000000000 → Calls Tryd.prog 15 #[.pointer (some ⟨B, 0, none⟩), .agg #[.int .i64 0, .int .i64 0, .string ⟨#[]⟩, .slice none 0 0, .slice none 0 0, .int .i64 0]] W fun e w' => e = .returned (.int .i64 (st'.nodes.length : Int)) ∧ ∃ nv', RS F base B dep (Ps.add {} st').2 nv' w' ∧ Chg B nv nv' W w') := fun st' W hW hl => add_any hW hW.hbw hl {} nil0 nil0 (NdIn.zero _ _ _ _ _ _ _) rfl rfl
  have hfst : (Ps.fail st).2 = (Ps.add {} (failed st)).2 := rfl
  rw [hfst]
  by_cases hf : st.failed = true
  · have hfs : failed st = st := by unfold failed; rw [if_pos hf]
    rw [hfs]
    rw [hf] at q3
    have HH : Hid (_) := HADD.out st w h hlen
    clear HADD h hfs hfst hlen
    go_enter Tryd.func14, Tryd.ntmps14
    go_wp2_with fail
    refine Calls.mono HH.out ?_
    rintro e w1 ⟨rfl, hr⟩
    go_wp2_with fail
    go_ret
    exact ⟨rfl, hr⟩
  · have hf' : st.failed = false := by simpa using hf
    have hfs : failed st = { st with failed := true, at_ := (Ps.nxt st).a, toks := [Ps.bad] } := by unfold failed; rw [if_neg hf]
    rw [hfs]
    rw [hf'] at q3
    have HN : Hid (_) := next_any h
    have H : Hid (_) := h
    have HE1 : Hid (w.heap[B]? = _) := e1
    have HLN : Hid (st.nodes.length ≤ 1000000000) := hlen
    have hfl := run_field3
    clear hfst h hfs hf e1 hlen
    generalize Ps.nxt st = T at *
    obtain ⟨tk, tt, tn, ta, tl, te⟩ := T
    simp only [tkA] at HN ⊢
    go_enter Tryd.func14, Tryd.ntmps14
    go_wp2_with fail
    refine Calls.mono HN.out ?_
    rintro e w1 ⟨rfl, hb1⟩
    have hE1 := (hb1.block B hlt).trans HE1.out
    obtain ⟨p0, p1, p2, p3, p4, g0, g1, g2, g3, g4, hlt1⟩ := cells5h hE1
    have HB1 : Hid (_) := hb1
    have HE2 : Hid (w1.heap[B]? = _) := hE1
    clear hE1 hb1 HN
    go_wp2_with fail
    have cc : ChgB B w ((((w1.setCell ⟨B, 3, none⟩ (.bool true)).setCell ⟨B, 4, none⟩ (.int .i64 (ta : Int))).setCell ⟨B, 0, none⟩ (.slice (some ⟨w1.heap.size, 0, none⟩) 1 1)).alloc (.cells #[.int .i64 6, .string ⟨#[]⟩, .int .i64 0, .int .i64 0, .bool false] 42)) :=
      ((((Chg.below _ HB1.out).setBB 3 _).setBB 4 _).setBB 0 _).alloc _
    have hsz : ((((w1.setCell ⟨B, 3, none⟩ (.bool true)).setCell ⟨B, 4, none⟩ (.int .i64 (ta : Int))).setCell ⟨B, 0, none⟩ (.slice (some ⟨w1.heap.size, 0, none⟩) 1 1))).heap.size = w1.heap.size := by simp [World.setCell]
    have hnew := heap_alloc_new ((((w1.setCell ⟨B, 3, none⟩ (.bool true)).setCell ⟨B, 4, none⟩ (.int .i64 (ta : Int))).setCell ⟨B, 0, none⟩ (.slice (some ⟨w1.heap.size, 0, none⟩) 1 1))) #[.int .i64 6, .string ⟨#[]⟩, .int .i64 0, .int .i64 0, .bool false] 42
    rw [hsz] at hnew
    obtain ⟨u0, u1, u2, u3, u4, -, -, -, -, -, hlu⟩ := cells5h hnew
    have hr1 := H.out.turn (dep' := dep) (st' := { st with failed := true, at_ := ta, toks := [Ps.bad] }) cc rfl (by show (1 : Nat) ≤ _; omega) (fun T hT => by
        have : T = Ps.bad := by simpa using hT.symm
        subst this; exact .inr rfl) (.slice (some ⟨w1.heap.size, 0, none⟩) 1 1)
      (by
        rw [Below.heap_alloc _ _ _ (by rw [hsz]; exact hlt1)]
        exact set0 (set4 (set3 HE2.out _) _) _)
      ⟨w1.heap.size, 0, 1, rfl, Nat.le_refl _, by omega, hlu, Nat.le_refl _, fun j hj => by
        have hj0 : j = 0 := by simpa using hj
        subst hj0
        exact ⟨u0, u1, u2, u3, u4⟩⟩
      (fun k hk => by
        have hk' : w1.heap.size = k := by simpa [blockOf] using hk
        subst hk'
        refine ⟨by omega, fun e => ?_, fun hF => by have := (H.out.far _ hF).1; have := HB1.out.size; omega⟩
        obtain ⟨vs, _, ho, _⟩ := H.out.nd
        have := (own_block ho _ e).2
        have := HB1.out.size
        omega)
    have HH : Hid (_) := HADD.out _ _ hr1 HLN.out
    have HC : Hid (_) := cc.chg nv
    clear cc hsz hnew u0 u1 u2 u3 u4 hlu hr1 HADD
    refine Calls.mono HH.out ?_
    rintro e w2 ⟨rfl, nv', hr, hc⟩
    go_wp2_with fail
    go_ret
    exact ⟨rfl, nv', hr, HC.out.trans hc⟩
theorem skip_nodes (st : Ps.St) : (Ps.skip st).2.nodes = st.nodes := by unfold Ps.skip; simp only []; split <;> rfl
theorem take_nodes (m : List UInt8) (st : Ps.St) : (Ps.take m st).2.nodes = st.nodes := by
  unfold Ps.take
  split
  · exact skip_nodes st
  · rfl
theorem want_eq (m : List UInt8) (st : Ps.St) : (Ps.want m st).2 = if (Ps.take m st).1 = true then (Ps.take m st).2 else (Ps.fail (Ps.take m st).2).2 := by
  unfold Ps.want
  rcases Ps.take m st with ⟨b, s⟩
  cases b <;> rfl
/-- A call that leaves the reader in another state, and tells nothing. -/
def Leaves (F : Nat → Prop) (base B dep : Nat) (nv : Value) (w : World) (st' : Ps.St) (w' : World) : Prop := ∃ nv', RS F base B dep st' nv' w' ∧ Chg B nv nv' w w'
set_option maxRecDepth 100000 in
set_option maxHeartbeats 2000000 in
theorem want_any {F : Nat → Prop} {base B dep : Nat} {st : Ps.St} {nv : Value} {w : World} (h : RS F base B dep st nv w) (hlen : st.nodes.length ≤ 1000000000) (m : List UInt8) :
    Calls Tryd.prog 68 #[.pointer (some ⟨B, 0, none⟩), .string ⟨m.toArray⟩] w fun e w' => e = .returned (.tuple #[]) ∧ Leaves F base B dep nv w (Ps.want m st).2 w' := by
  have HT : Hid (_) := take_any h m
  have HF : Hid (∀ W, RS F base B dep (Ps.take m st).2 nv W → Calls Tryd.prog 14 #[.pointer (some ⟨B, 0, none⟩)] W fun e w' => e = .returned (.int .i64 ((Ps.take m st).2.nodes.length : Int)) ∧ ∃ nv', RS F base B dep (Ps.fail (Ps.take m st).2).2 nv' w' ∧ Chg B nv nv' W w') := fun W hW => fail_any hW (by rw [take_nodes]; exact hlen)
  rw [want_eq]
  clear h hlen
  generalize Ps.take m st = R at *
  obtain ⟨b, st'⟩ := R
  simp only at HT HF ⊢
  cases b
  · rw [if_neg (by simp)]
    go_enter Tryd.func68, Tryd.ntmps68
    go_wp2_with fail
    refine Calls.mono HT.out ?_
    rintro e w1 ⟨rfl, hr, hc⟩
    go_wp2_with fail
    refine Calls.mono (HF.out _ hr) ?_
    rintro e w2 ⟨rfl, nv', hr2, hc2⟩
    go_wp2_with fail
    go_end0
    exact ⟨rfl, nv', hr2, hc.trans hc2⟩
  · rw [if_pos rfl]
    go_enter Tryd.func68, Tryd.ntmps68
    go_wp2_with fail
    refine Calls.mono HT.out ?_
    rintro e w1 ⟨rfl, hr, hc⟩
    go_wp2_with fail
    go_end0
    exact ⟨rfl, nv, hr, hc⟩
end Go.Proofs.YtoeolonbkeldoaaDoor.R
