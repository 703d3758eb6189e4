/- What the listed package variable holds where the call begins: the signs lie in block 0. -/
import Derived.Test.YtoeolonbkeldoaaDoorLSign
import Derived.ProofKit
import Derived.LaidMore
import Derived.OpenShut
import Derived.Stop.Joined
namespace Go.Proofs.YtoeolonbkeldoaaDoor.L
open Go.ChangeShapes Go.WideShapes Go.ChangeAt Go.RowKit
set_option linter.unusedVariables false
abbrev laidL : List (String × DataW Unit) := [("boomerang/lex.signs", Rows.laid_boomerang_lex_signs)]
theorem gSigns : Tryd.prog.globalNamed "boomerang/lex.signs" = some 0 := by kernel_rfl
theorem tSigns : (Tryd.prog.globals[0]?).map (·.type) = some 80 := by kernel_rfl
theorem laidDatum : (Rows.laid_boomerang_lex_signs : DataW Unit) = .agg (Lx.signs.map fun s => .lit (.string s)) := by rfl
theorem c9 : Tryd.prog.cellsOf 9 = 1 := by kernel_rfl
theorem cArr : Tryd.prog.cellsOf 80 = 26 := by kernel_rfl
theorem sig_of_laid {W : World} (h : laidMetH Tryd.prog laidL W) : Sig W := by
  rw [MakeChecks.laidMetH_plain _ _ _ (by kernel_rfl)] at h
  obtain ⟨ps, ⟨g0, t0, cs0, f0, p0, q0, hg0, ht0, hv0, hd0, _, _⟩, _, _⟩ := h
  obtain rfl := Option.some.inj (gSigns.symm.trans hg0)
  obtain rfl := Option.some.inj (tSigns.symm.trans ht0)
  obtain ⟨xs, m1, rfl, hx1, hlen, hn3, hel⟩ := DataW.trod_array Tryd.underlying80 hd0
  rw [cArr] at hlen
  rw [laidDatum] at hx1
  simp only [Prod.mk.injEq, DataW.agg.injEq] at hx1
  have hcell : ∀ k (h : k < 26), W.cell? ⟨0, k, none⟩ = some (.string ⟨(Lx.signs[k]'h).toArray⟩) := fun k hk => by
    have he := hel k hk
    rw [c9, Nat.mul_one] at he
    have hxk : k < xs.length := by omega
    rw [List.getElem?_eq_getElem hxk] at he
    obtain ⟨s, e1, e2, _⟩ := DataW.trod_string Tryd.underlying9 he
    have e3 : (xs.map (·.1))[k]? = (Lx.signs.map fun s => DataW.lit (.string s))[k]? := by rw [← hx1.1]
    rw [List.getElem?_map, List.getElem?_map, List.getElem?_eq_getElem hxk, List.getElem?_eq_getElem (show k < Lx.signs.length from hk), e2] at e3
    simp only [Option.map_some, Option.some.injEq, DataW.lit.injEq, Lit.string.injEq] at e3
    have hc := World.var?_cell hg0 hv0 k
    have e4 : cs0[k]? = some (.string s) := by
      have e5 : (List.take 1 (List.drop k cs0.toList))[0]? = some (Value.string s) := by rw [e1]; rfl
      rw [List.getElem?_take, if_pos (by omega), List.getElem?_drop, Nat.add_zero] at e5
      simpa using e5
    have e6 : s = ⟨(Lx.signs[k]'hk).toArray⟩ := by rw [← mk_list s]; exact congrArg (fun l : List UInt8 => (⟨l.toArray⟩ : ByteArray)) e3
    rw [hc, e4]; exact congrArg (fun x => some (Value.string x)) e6
  refine ⟨Nat.lt_of_not_le fun hg => ?_, fun j v hj => ?_⟩
  · have := hcell 0 (by omega)
    simp [World.cell?, Array.getElem?_eq_none hg] at this
  · have hj26 : j < 26 := by
      rcases Nat.lt_or_ge j 26 with h | h
      · exact h
      · rw [List.getElem?_eq_none (show sigV.length ≤ j from h)] at hj; cases hj
    rw [Nat.zero_add, hcell j hj26]
    unfold sigV at hj
    rw [List.getElem?_map, List.getElem?_eq_getElem hj26] at hj
    exact hj
end Go.Proofs.YtoeolonbkeldoaaDoor.L
