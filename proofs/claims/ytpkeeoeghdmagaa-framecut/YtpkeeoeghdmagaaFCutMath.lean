-- PROVED: records of which one byte is turned: those ahead of it are told.
import Derived.Test.YtpkeeoeghdmagaaFMath
namespace Go.Proofs.Ytpkeeoeghdmagaa.Fm
theorem turned (L : List (List UInt8)) (h : ∀ t ∈ L, t.length ≤ 4096) (j : Nat) (hj : j ≤ (puts L).length) (v : UInt8) :
    ∃ A, A ≤ L.length ∧ (∀ i, i < L.length → (fin L i ≤ j ↔ i < A)) ∧ A ≤ (all ((puts L).set j v)).1.length ∧ (all ((puts L).set j v)).1.take A = L.take A := by
  obtain ⟨A, h1, h2, h3, _⟩ := cut L h j hj
  refine ⟨A, h1, h2, ?_⟩
  have hs : (puts L).set j v = puts (L.take A) ++ ((puts L).set j v).drop (puts (L.take A)).length := by
    have ht : ((puts L).set j v).take (puts (L.take A)).length = puts (L.take A) := by
      rw [List.take_set_of_le h3]
      have hsplit : puts L = puts (L.take A) ++ puts (L.drop A) := by rw [← puts_append, List.take_append_drop]
      rw [hsplit, List.take_left]
    conv => lhs; rw [← List.take_append_drop (puts (L.take A)).length ((puts L).set j v)]
    rw [ht]
  have ha := ahead (L.take A) (fun t ht => h t (List.mem_of_mem_take ht)) (((puts L).set j v).drop (puts (L.take A)).length)
  rw [← hs, List.length_take, Nat.min_eq_left h1] at ha
  exact ha
def fins (L : List (List UInt8)) (k : Nat) : List Nat := (List.range k).map (fin L)
theorem fins_length (L : List (List UInt8)) (k : Nat) : (fins L k).length = k := by simp [fins]
theorem fins_snoc (L : List (List UInt8)) (k : Nat) : fins L k ++ [fin L k] = fins L (k + 1) := by simp [fins, List.range_succ]
theorem fins_at (L : List (List UInt8)) (k i : Nat) (h : i < k) : (fins L k)[i]? = some (fin L i) := by simp [fins, h]
end Go.Proofs.Ytpkeeoeghdmagaa.Fm
