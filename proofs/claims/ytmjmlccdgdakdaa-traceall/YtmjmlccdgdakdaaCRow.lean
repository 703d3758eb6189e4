/- A row of bytes of one's own, told by its cells: what stores, draws and calls do to it. -/
import Derived.Test.YtmjmlccdgdakdaaCGet
namespace Go.Proofs.Ytmjmlccdgdakdaa.C
open Go.RowKit
theorem Try.info5 : (Try.prog.info? 5).map (fun i => (i.zero, i.size, i.bytes)) = some (some (.int .u8 0), 1, 1) := by kernel_rfl
/-- The bytes l lie at block B, which is new since w; what was there at w is as it was. -/
def Mine (w W : World) (B : Nat) (l : List UInt8) : Prop :=
  Below w.heap.size w W ∧ w.heap.size ≤ B ∧ B < W.heap.size ∧ ∀ j b, l[j]? = some b → W.cell? ⟨B, j, none⟩ = some (.int .u8 (b.toNat : Int)) ∧ W.frozen? ⟨B, j, none⟩ = false
theorem Mine.below {w W : World} {B : Nat} {l : List UInt8} (h : Mine w W B l) : Below w.heap.size w W := h.1
theorem Mine.drew {w W : World} {B : Nat} {l : List UInt8} (h : Mine w W B l) : Mine w W.drew B l := ⟨h.1.drew, h.2.1, h.2.2.1, h.2.2.2⟩
theorem Mine.go {w W W' : World} {B : Nat} {l : List UInt8} (h : Mine w W B l) (hb : Below W.heap.size W W') : Mine w W' B l :=
  ⟨below_chain h.1 hb, h.2.1, Nat.lt_of_lt_of_le h.2.2.1 hb.size, fun j b hj => ⟨(hb.cell (p := ⟨B, j, none⟩) h.2.2.1).trans (h.2.2.2 j b hj).1, (hb.frozen (p := ⟨B, j, none⟩) h.2.2.1).trans (h.2.2.2 j b hj).2⟩⟩
theorem setCell_size (w : World) (a : Addr) (v : Value) : (w.setCell a v).heap.size = w.heap.size := by simp [World.setCell]
theorem Mine.set {w W : World} {B : Nat} {l : List UInt8} (h : Mine w W B l) (i : Nat) (hi : i < l.length) (x : UInt8) : Mine w (W.setCell ⟨B, i, none⟩ (.int .u8 (x.toNat : Int))) B (l.set i x) := by
  refine ⟨h.1.setCell h.2.1 _, h.2.1, ?_, ?_⟩
  · rw [setCell_size]; exact h.2.2.1
  · intro j b hj
    rw [World.frozen?_setCell]
    by_cases hij : i = j
    · subst hij
      rw [List.getElem?_set_self hi] at hj
      obtain rfl : x = b := Option.some.inj hj
      have h0 := h.2.2.2 i l[i] (List.getElem?_eq_getElem hi)
      exact ⟨World.cell?_setCell_same _ _ _ h0.1, h0.2⟩
    · rw [List.getElem?_set_ne hij] at hj
      have h0 := h.2.2.2 j b hj
      refine ⟨?_, h0.2⟩
      rw [World.cell?_setCell_other _ _ _ _ (fun e => hij (congrArg Addr.off e))]
      exact h0.1
theorem Mine.conv {w W : World} {B : Nat} {l : List UInt8} (h : Mine w W B l) (cap : Nat) : (convert 50 9 (.slice (some ⟨B, 0, none⟩) l.length cap)).run Try.prog W = .ok (.string ⟨l.toArray⟩) W := by
  refine run_convert_bytes_back (P := Try.prog) W 50 9 5 ⟨B, 0, none⟩ cap l Try.underlying50 Try.underlying5 Try.underlying9 ?_
  intro j hj
  rw [show (⟨B, 0, none⟩ : Addr).add j = ⟨B, j, none⟩ by unfold Addr.add; split <;> simp_all]
  exact (h.2.2.2 j l[j] (List.getElem?_eq_getElem hj)).1
/-- A new row of zeros. -/
theorem Mine.make (w : World) (n : Nat) : Mine w (w.alloc (.cells (madeCells #[.int .u8 0] n) 5)) w.heap.size (List.replicate n 0) := by
  refine ⟨(Below.refl _ _).alloc (Nat.le_refl _) _, Nat.le_refl _, ?_, ?_⟩
  · rw [show (w.alloc (.cells (madeCells #[.int .u8 0] n) 5)).heap.size = w.heap.size + 1 from Array.size_push _]; omega
  · intro j b hj
    have hjn : j < n := by
      have := (List.getElem?_eq_some_iff.mp hj).1
      simpa using this
    obtain rfl : (0 : UInt8) = b := by
      have : (List.replicate n (0 : UInt8))[j]? = some 0 := by simp [hjn]
      rw [this] at hj
      exact Option.some.inj hj
    rw [World.cell?_alloc_at _ _ _ _ rfl, World.frozen?_alloc_at _ _ _ _ rfl]
    refine ⟨?_, rfl⟩
    simp [madeCells, hjn]
    rw [Nat.mod_one]; rfl
theorem run_make_bytes (w : World) (n : Nat) (hn : n ≤ 1000000) : (Instr.makeSlice 50 (.int .i64 (n : Int)) (.int .i64 (n : Int))).run Try.prog w = .ok (.slice (some ⟨w.heap.size, 0, none⟩) n n) (w.alloc (.cells (madeCells #[.int .u8 0] n) 5)) := by
  obtain ⟨i0, hi, hz0, hz1, hz2⟩ := info_parts Try.info5
  have := run_make (P := Try.prog) w 50 5 i0 (.int .u8 0) Try.underlying50 hi hz0 .i64 .i64 (n : Int) (n : Int) (by omega) (Int.le_refl _) (by rw [hz2]; omega) (by omega)
  rw [this, hz1, Nat.mul_one]
  rfl
theorem run_min4 (s t u : Nat) : ∃ n : Nat, n ≤ s ∧ n ≤ t ∧ n ≤ u ∧ n ≤ 300 ∧ ∀ W, (Builtin.min_ #[3, 3, 3, 3] 3 #[.int .i64 (s : Int), .int .i64 (t : Int), .int .i64 (u : Int), .int .i64 300]).run Try.prog W = .ok (.int .i64 (n : Int)) W := by
  refine ⟨min (min (min s t) u) 300, by omega, by omega, by omega, by omega, fun W => ?_⟩
  simp only [Builtin.min_, Builtin.min2, List.foldlM]
  simp
  split <;> split <;> split <;> omega
end Go.Proofs.Ytmjmlccdgdakdaa.C
