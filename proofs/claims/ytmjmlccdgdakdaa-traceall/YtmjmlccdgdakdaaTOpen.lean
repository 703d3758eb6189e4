-- PROVED: a slice of records that came in, opened.
import Derived.Test.YtmjmlccdgdakdaaTEnc
import Derived.Deep.Slices
import Derived.Deep.Strs
import Derived.ChangeSame
import Derived.OpenShut
namespace Go.Proofs.Ytmjmlccdgdakdaa.T
open Go.RowKit Go.ChangeShapes Go.WideShapes Go.Deep
theorem cells27 : Try.prog.cellsOf 27 = 4 := by kernel_rfl
theorem cells25 : Try.prog.cellsOf 25 = 3 := by kernel_rfl
theorem cells3' : Try.prog.cellsOf 3 = 1 := by kernel_rfl
theorem cells9' : Try.prog.cellsOf 9 = 1 := by kernel_rfl
section
variable {H : Type} {enc : TypeId × Value → H} {w : World} {base : Nat} {spare : Nat → Bool} {held : Bool}
theorem open_rec {fuel : Nat} {cs : List Value} {x : DataW H × List MemPlace} (h : DataW.trod enc Try.prog w base spare held fuel 27 cs = some x) :
    ∃ (a k n : Int) (s : ByteArray), cs = [.int .i64 a, .int .i64 k, .int .i64 n, .string s] ∧ (-9223372036854775808 ≤ a ∧ a ≤ 9223372036854775807) ∧ (-9223372036854775808 ≤ k ∧ k ≤ 9223372036854775807) ∧ (-9223372036854775808 ≤ n ∧ n ≤ 9223372036854775807) ∧ s.size ≤ maxLen := by
  obtain ⟨y0, y1, m, _, hl, h0, h1⟩ := trod_struct2 Try.underlying27 h
  rw [cells27] at hl
  simp only [cells25, cells3', List.drop_zero] at h0 h1
  obtain ⟨z0, z1, z2, m2, _, hl2, g0, g1, g2⟩ := trod_struct3 Try.underlying25 h1
  simp only [cells3', cells9', List.drop_zero] at g0 g1 g2
  match cs, hl with
  | [v0, v1, v2, v3], _ =>
    simp at h0 g0 g1 g2
    obtain ⟨a, ha, _, wa⟩ := DataW.trod_int Try.underlying3 h0
    obtain ⟨k, hk, _, wk⟩ := DataW.trod_int Try.underlying3 g0
    obtain ⟨n, hn, _, wn⟩ := DataW.trod_int Try.underlying3 g1
    obtain ⟨s, hs, _, ws⟩ := DataW.trod_string Try.underlying9 g2
    simp at ha hk hn hs
    exact ⟨a, k, n, s, by rw [ha, hk, hn, hs], bounds_i64 wa, bounds_i64 wk, bounds_i64 wn, ws⟩
/-- What the walk is told of a slice of records that came in. -/
def IsRecs (w : World) (ad : Option Addr) (len cap : Nat) (L : List Tm.Rec) : Prop :=
  L.length = len ∧ len ≤ cap ∧ cap ≤ maxLen ∧ Recs w ad L ∧ Tm.fitsAll L ∧ ∀ r ∈ L, r.s.length ≤ maxLen
theorem recs_of {w : World} {b off n : Nat} (hb : 0 < n → b < w.heap.size) (h : ∀ i, i < n → ∃ (a k m : Int) (s : ByteArray), (w.cell? ⟨b, off + i * 4, none⟩ = some (.int .i64 a) ∧ w.cell? ⟨b, off + i * 4 + 1, none⟩ = some (.int .i64 k) ∧ w.cell? ⟨b, off + i * 4 + 2, none⟩ = some (.int .i64 m) ∧ w.cell? ⟨b, off + i * 4 + 3, none⟩ = some (.string s)) ∧ Tm.fits ⟨a, k, m, s.data.toList⟩ ∧ s.size ≤ maxLen) :
    ∃ L : List Tm.Rec, L.length = n ∧ Recs w (some ⟨b, off, none⟩) L ∧ Tm.fitsAll L ∧ ∀ r ∈ L, r.s.length ≤ maxLen := by
  have hc : ∀ i, i < n → ∃ r : Tm.Rec, RecAt w b (off + i * 4) r ∧ Tm.fits r ∧ r.s.length ≤ maxLen := fun i hi => by
    obtain ⟨a, k, m, s, ⟨h1, h2, h3, h4⟩, hf, hs⟩ := h i hi
    exact ⟨⟨a, k, m, s.data.toList⟩, ⟨h1, h2, h3, h4⟩, hf, by simp only []; rw [V.size_list]; exact hs⟩
  have : Inhabited Tm.Rec := ⟨Tm.zero⟩
  obtain ⟨q, hq⟩ := choose_lt hc
  have hmem : ∀ r ∈ (List.range n).map q, ∃ i, i < n ∧ r = q i := fun r hr => by
    obtain ⟨i, hi, rfl⟩ := List.mem_map.1 hr
    exact ⟨i, List.mem_range.1 hi, rfl⟩
  refine ⟨(List.range n).map q, by simp, ?_, ?_, ?_⟩
  · by_cases h0 : n = 0
    · exact .inl (by simp [h0])
    · refine .inr ⟨b, off, rfl, hb (by omega), fun j hj => ?_⟩
      rw [List.length_map, List.length_range] at hj
      rw [List.getElem_map, List.getElem_range]
      exact (hq j hj).1
  · intro r hr
    obtain ⟨i, hi, rfl⟩ := hmem r hr
    exact (hq i hi).2.1
  · intro r hr
    obtain ⟨i, hi, rfl⟩ := hmem r hr
    exact (hq i hi).2.2
theorem open_recs {fuel : Nat} {ad : Option Addr} {len cap : Nat} {x : DataW H × List MemPlace} (h : DataW.trod enc Try.prog w base spare held fuel 22 [.slice ad len cap] = some x) : ∃ L, IsRecs w ad len cap L := by
  rcases open_slice Try.underlying22 h with ⟨hcs, _⟩ | ⟨a, len', cap', m, n, D, Pl, hcs, hb, hl, hm, hmm, _, hx⟩
  · simp at hcs
    obtain ⟨rfl, rfl, rfl⟩ := hcs
    exact ⟨[], rfl, Nat.le_refl _, Nat.zero_le _, .inl rfl, by intro r hr; simp at hr, by simp⟩
  · simp at hcs
    obtain ⟨rfl, rfl, rfl⟩ := hcs
    have hlm : len ≤ m := by rw [hmm]; split <;> omega
    by_cases h0 : len = 0
    · subst h0
      exact ⟨[], rfl, hl, hm, .inl rfl, by intro r hr; simp at hr, by simp⟩
    · have key : ∀ i, i < len → ∃ (p k q : Int) (s : ByteArray), (w.cell? (a.add (i * 4)) = some (.int .i64 p) ∧ w.cell? (a.add (i * 4 + 1)) = some (.int .i64 k) ∧ w.cell? (a.add (i * 4 + 2)) = some (.int .i64 q) ∧ w.cell? (a.add (i * 4 + 3)) = some (.string s)) ∧ Tm.fits ⟨p, k, q, s.data.toList⟩ ∧ s.size ≤ maxLen := by
        intro i hi
        obtain ⟨cs', h1, h2⟩ := hx i (by omega)
        rw [cells27] at h1
        obtain ⟨_, _, hcell⟩ := World.cells?_some h1
        obtain ⟨p, k, q, s, rfl, hp, hk, hq, hs⟩ := open_rec h2
        have e0 := hcell 0 (by omega)
        have e1 := hcell 1 (by omega)
        have e2 := hcell 2 (by omega)
        have e3 := hcell 3 (by omega)
        rw [add_add] at e0 e1 e2 e3
        exact ⟨p, k, q, s, ⟨by simpa using e0, by simpa using e1, by simpa using e2, by simpa using e3⟩, ⟨hp.1, hp.2, hk.1, hk.2, hq.1, hq.2⟩, hs⟩
      obtain ⟨b, off, spot⟩ := a
      have hspot : spot = none := by
        obtain ⟨_, _, _, _, ⟨h1, _⟩, _⟩ := key 0 (by omega)
        simpa [Addr.add] using World.cell?_spot h1
      subst hspot
      have key2 : ∀ i, i < len → ∃ (p k q : Int) (s : ByteArray), (w.cell? ⟨b, off + i * 4, none⟩ = some (.int .i64 p) ∧ w.cell? ⟨b, off + i * 4 + 1, none⟩ = some (.int .i64 k) ∧ w.cell? ⟨b, off + i * 4 + 2, none⟩ = some (.int .i64 q) ∧ w.cell? ⟨b, off + i * 4 + 3, none⟩ = some (.string s)) ∧ Tm.fits ⟨p, k, q, s.data.toList⟩ ∧ s.size ≤ maxLen := fun i hi => by
        have := key i hi
        simp only [add_plain, ← Nat.add_assoc] at this
        exact this
      obtain ⟨_, _, _, _, ⟨hc0, _⟩, _⟩ := key2 0 (by omega)
      obtain ⟨L, hL, hR, hf, hs⟩ := recs_of (fun _ => cell_lt hc0) key2
      exact ⟨L, hL, hl, hm, hR, hf, hs⟩
end
end Go.Proofs.Ytmjmlccdgdakdaa.T
