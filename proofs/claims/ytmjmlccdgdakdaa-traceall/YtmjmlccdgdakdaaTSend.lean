-- PROVED: trace.send by its contract.
import Derived.Test.YtmjmlccdgdakdaaTEnc
import Derived.Test.YtmjmlccdgdakdaaTChan
namespace Go.Proofs.Ytmjmlccdgdakdaa.T
open Go.RowKit Go.Conc
/-- Of all blocks but c nothing has turned. -/
theorem grown_below {w w' : World} {row : Option Nat} (h : Below w.heap.size w w') : w.grownBy w' row := ⟨h.os, h.tape, h.output, h.size, fun k hk _ => h.block k hk⟩
theorem grown_chan {w w1 : World} {c : Nat} (h : Below w.heap.size w w1) (cap : Nat) (buf : Array Value) (cl : Bool) (s r : Nat) (tm : Bool) : w.grownBy (w1.setChan c cap buf cl s r tm) (some c) :=
  ⟨h.os, h.tape, h.output, by rw [size_setChan]; exact h.size, fun k hk hne => by
    have hck : c ≠ k := fun e => hne (by rw [e])
    rw [show (w1.setChan c cap buf cl s r tm).heap[k]? = w1.heap[k]? from by simp [World.setChan, Array.getElem?_setIfInBounds_ne hck]]
    exact h.block k hk⟩
set_option maxRecDepth 100000 in
set_option maxHeartbeats 1000000 in
theorem send_no (t : ByteArray) (k : Int) (c : Nat) (w : World) (ht : t.size ≤ maxLen) (hn : Tm.next k t.data.toList = false) :
    Calls Try.prog 35 #[.chan (some c), .string t, .int .i64 k] w fun e w' => e = .returned (.tuple #[]) ∧ Below w.heap.size w w' := by
  cases hi : Tm.is t.data.toList with
  | false =>
    have HG : Hid (_) := fun W => get_no t W ht hi
    unfold recV at HG
    clear hn hi ht
    generalize (⟨Tm.zero.s.toArray⟩ : ByteArray) = ss at *
    generalize Tm.zero.step = st at *
    generalize Tm.zero.kind = kd at *
    generalize Tm.zero.n = nn at *
    go_enter Try.func35, Try.ntmps35
    go_wp2_with fail
    refine Calls.mono (HG.out _) ?_
    rintro e w1 ⟨rfl, hb1⟩
    go_wp2_with (with_reducible refine Ch.hold (id := 2) ?_)
    go_end0
    exact ⟨rfl, hb1.alloc hb1.size _⟩
  | true =>
    have hst : (Tm.got t.data.toList).step < k := by
      unfold Tm.next at hn
      rw [hi] at hn
      simp at hn
      exact hn
    have HG : Hid (_) := fun W => get_yes t W ht hi
    unfold recV at HG
    clear hn hi ht
    generalize (⟨(Tm.got t.data.toList).s.toArray⟩ : ByteArray) = ss at *
    generalize (Tm.got t.data.toList).step = st at *
    generalize (Tm.got t.data.toList).kind = kd at *
    generalize (Tm.got t.data.toList).n = nn at *
    go_enter Try.func35, Try.ntmps35
    go_wp2_with fail
    refine Calls.mono (HG.out _) ?_
    rintro e w1 ⟨rfl, hb1⟩
    go_wp2_with (with_reducible refine Ch.hold (id := 2) ?_)
    go_end0
    exact ⟨rfl, hb1.alloc hb1.size _⟩
theorem lt_of_heap {w : World} {g : Nat} {o : Obj} (h : w.heap[g]? = some o) : g < w.heap.size := by
  rcases Nat.lt_or_ge g w.heap.size with hg | hg
  · exact hg
  · rw [Array.getElem?_eq_none hg] at h; cases h
theorem heap_below {w w' : World} {g : Nat} {o : Obj} (h : w.heap[g]? = some o) (hb : Below w.heap.size w w') : w'.heap[g]? = some o := by
  rw [hb.block g (lt_of_heap h)]; exact h
set_option maxRecDepth 100000 in
set_option maxHeartbeats 1000000 in
theorem send_yes (t : ByteArray) (k : Int) (c s r : Nat) (w : World) (ht : t.size ≤ maxLen) (hn : Tm.next k t.data.toList = true) (hc : w.heap[c]? = some (.chan 1 #[] false s r false)) :
    Calls Try.prog 35 #[.chan (some c), .string t, .int .i64 k] w fun e w' => e = .returned (.tuple #[]) ∧ w.grownBy w' (some c) ∧ w'.heap[c]? = some (.chan 1 #[recV (Tm.got t.data.toList)] false (s + 1) r false) := by
  unfold Tm.next at hn
  rw [Bool.and_eq_true] at hn
  obtain ⟨hi, hst⟩ := hn
  replace hst : k ≤ (Tm.got t.data.toList).step := by simpa using hst
  have HG : Hid (_) := fun W => get_yes t W ht hi
  unfold recV at HG ⊢
  clear hi ht
  generalize (⟨(Tm.got t.data.toList).s.toArray⟩ : ByteArray) = ss at *
  generalize (Tm.got t.data.toList).step = st at *
  generalize (Tm.got t.data.toList).kind = kd at *
  generalize (Tm.got t.data.toList).n = nn at *
  have HC : Hid (_) := hc
  clear hc
  go_enter Try.func35, Try.ntmps35
  go_wp2_with fail
  refine Calls.mono (HG.out _) ?_
  rintro e w1 ⟨rfl, hb1⟩
  have hca : (w1.alloc (.cells #[.int .i64 st, .int .i64 kd, .int .i64 nn, .string ss] 27)).heap[c]? = some (.chan 1 #[] false s r false) := heap_below (heap_below HC.out hb1) ((Below.refl _ _).alloc (Nat.le_refl _) _)
  have HCA : Hid (_) := hca
  clear hca
  iterate 53 (first | go_values | go_skip | go_guarded | go_step | go_upon | go_back | (simp only [] at *; go_simp) | (go_values <;> (try go_simp)) | (go_ite <;> go_prune <;> (try go_simp)))
  refine Ch.third (v0 := .chan (some c)) (v1 := .agg #[.int .i64 st, .int .i64 kd, .int .i64 nn, .string ss]) (v := undef) (cases := #[scase c (.agg #[.int .i64 st, .int .i64 kd, .int .i64 nn, .string ss]) (.tuple #[])]) (blocking := true) (shape := .send)
    (w1 := w1.alloc (.cells #[.int .i64 st, .int .i64 kd, .int .i64 nn, .string ss] 27)) rfl (by simp [go_sem, execOp, Act.eval]) rfl (by simp [go_sem, execOp, Act.eval, Act.put]) rfl (by simp [go_sem, execOp, Act.eval, Act.put, scase]) (fun fr cs es h => step_lone_send_room h HCA.out (by decide)) ?_
  go_end0
  exact ⟨rfl, grown_chan (hb1.alloc hb1.size _) _ _ _ _ _ _, heap_setChan _ _ _ _ _ _ _ _ (lt_of_heap HCA.out)⟩
end Go.Proofs.Ytmjmlccdgdakdaa.T
