-- PROVED: slices of texts: where they lie, that they came in, that the call owns them; 'SameTexts' of the reference at equal ones.
import Derived.Test.YtpkeeoeghdmagaaFAwake
import Derived.SliceStrings
import Derived.BigRegion
namespace Go.Proofs.Ytpkeeoeghdmagaa
open Go.RowKit
/-- The texts L lie from the address on. -/
def Lies (w : World) (ad : Option Addr) (L : List (List UInt8)) : Prop :=
  L.length = 0 ∨ ∃ b off, ad = some ⟨b, off, none⟩ ∧ b < w.heap.size ∧ ∀ j (h : j < L.length), w.cell? ⟨b, off + j, none⟩ = some (.string ⟨L[j].toArray⟩)
theorem Lies.below {w w' : World} {ad : Option Addr} {L : List (List UInt8)} (h : Lies w ad L) (hb : Below w.heap.size w w') : Lies w' ad L := by
  rcases h with h | ⟨b, off, h1, h2, h3⟩
  · exact .inl h
  · exact .inr ⟨b, off, h1, Nat.lt_of_lt_of_le h2 hb.size, fun j hj => (hb.cell h2).trans (h3 j hj)⟩
theorem Lies.take {w : World} {ad : Option Addr} {L : List (List UInt8)} (h : Lies w ad L) (k : Nat) : Lies w ad (L.take k) := by
  rcases h with h | ⟨b, off, h1, h2, h3⟩
  · exact .inl (by simp [h])
  · refine .inr ⟨b, off, h1, h2, fun j hj => ?_⟩
    rw [List.length_take] at hj
    rw [List.getElem_take]
    exact h3 j (by omega)
theorem cell_lt {w : World} {a : Addr} {v : Value} (h : w.cell? a = some v) : a.block < w.heap.size := by
  by_cases hl : a.block < w.heap.size
  · exact hl
  · unfold World.cell? at h
    rw [Array.getElem?_eq_none (by omega)] at h
    simp at h
theorem Lies.own {w : World} {base : Nat} {v : Value} {L : List (List UInt8)} (h : w.ownsRow base 9 1 v L.length (F.texts L)) : ∃ ad cap, v = .slice ad L.length cap ∧ L.length ≤ cap ∧ Lies w ad L := by
  by_cases h0 : L.length = 0
  · obtain ⟨_, h1⟩ := h
    rcases h1 with ⟨rfl, _⟩ | ⟨g, cap, cur, rfl, _, _, h4, _⟩
    · exact ⟨none, 0, by rw [h0], by omega, .inl h0⟩
    · exact ⟨_, cap, rfl, h4, .inl h0⟩
  · obtain ⟨g, cap, rfl, hc, _, hg, hcell⟩ := F.own_some h (by omega)
    refine ⟨_, cap, rfl, hc, .inr ⟨g, 0, rfl, hg, fun j hj => ?_⟩⟩
    rw [Nat.zero_add]
    exact hcell j _ (by simp [F.texts, hj])
theorem strs_at {w : World} {a : Addr} {ss : List ByteArray} (h : ∀ i, i < ss.length → w.cell? (a.add i) = some (.string (ss.getD i ByteArray.empty))) (hp : 0 < ss.length) :
    ∃ b off, a = ⟨b, off, none⟩ ∧ ∀ j, j < ss.length → w.cell? ⟨b, off + j, none⟩ = some (.string (ss.getD j ByteArray.empty)) := by
  obtain ⟨b, off, spot⟩ := a
  have hspot : spot = none := by simpa [Addr.add] using World.cell?_spot (h 0 hp)
  subst hspot
  exact ⟨b, off, rfl, fun j hj => by rw [← Go.WideShapes.add_plain]; exact h j hj⟩
/-- What the walk is told of a slice of texts that came in: nil; or a row of cap cells, each a text. -/
def IsTexts (w : World) (a : Option Addr) (len cap : Nat) (ss : List ByteArray) : Prop :=
  (a = none ∧ len = 0 ∧ cap = 0 ∧ ss = []) ∨
  ∃ x, a = some x ∧ len ≤ cap ∧ cap ≤ maxLen ∧ ss.length = cap ∧ (∀ i, i < ss.length → w.cell? (x.add i) = some (.string (ss.getD i ByteArray.empty))) ∧ ∀ s ∈ ss, s.size ≤ maxLen
theorem IsTexts.lies {w : World} {a : Option Addr} {len cap : Nat} {ss : List ByteArray} (h : IsTexts w a len cap ss) :
    ∃ L : List (List UInt8), L.length = len ∧ len ≤ cap ∧ cap ≤ maxLen ∧ Lies w a L ∧ ∀ t ∈ L, t.length ≤ maxLen := by
  rcases h with ⟨rfl, rfl, rfl, rfl⟩ | ⟨x, rfl, hl, hm, hz, hc, hw⟩
  · exact ⟨[], rfl, Nat.le_refl _, Nat.zero_le _, .inl rfl, by simp⟩
  · refine ⟨(ss.take len).map (fun s => s.data.toList), by rw [List.length_map, List.length_take]; omega, hl, hm, ?_, ?_⟩
    · by_cases h0 : len = 0
      · exact .inl (by simp [h0])
      · obtain ⟨b, off, rfl, hc2⟩ := strs_at hc (by omega)
        refine .inr ⟨b, off, rfl, cell_lt (hc2 0 (by omega)), fun j hj => ?_⟩
        rw [List.length_map, List.length_take] at hj
        have hj2 : j < ss.length := by omega
        rw [hc2 j hj2]
        simp [List.getD, List.getElem?_eq_getElem hj2]
    · intro t ht
      obtain ⟨s, hs, rfl⟩ := List.mem_map.1 ht
      exact hw s (List.mem_of_mem_take hs)
set_option maxRecDepth 100000 in
set_option maxHeartbeats 1000000 in
theorem same_any (L : List (List UInt8)) (ao bo : Option Addr) (ca cb : Nat) (w : World) (hL : L.length ≤ 1000000) (ha : Lies w ao L) (hb : Lies w bo L) :
    Calls Try.prog 14 #[.slice ao L.length ca, .slice bo L.length cb] w fun e w' => e = .returned (.bool true) ∧ Below w.heap.size w w' := by
  have HA : Hid (_) := ha
  have HB : Hid (_) := hb
  clear ha hb
  generalize hn : L.length = n at hL
  have HN : Hid (_) := hn
  clear hn
  go_enter Try.func14, Try.ntmps14
  go_wp2_with fail
  go_loopw [5] (fun c wr => ∃ i : Nat, i ≤ n ∧ c = .int .i64 (i : Int) ∧ Below w.heap.size w wr) (fun c _ => n - (F.intOf c).toNat)
  case atStart => exact ⟨0, by omega, rfl, Below.refl _ _⟩
  case round =>
    obtain ⟨i, hi, rfl, hbel⟩ := hrel
    by_cases hlt : i < n
    · have hlt' : (i : Int) < n := by omega
      have hiL : i < L.length := by rw [HN.out]; exact hlt
      obtain ⟨b1, o1, rfl, l1, c1⟩ := HA.out.resolve_left (by omega)
      obtain ⟨b2, o2, rfl, l2, c2⟩ := HB.out.resolve_left (by omega)
      have d1 := (hbel.cell (p := ⟨b1, o1 + i, none⟩) l1).trans (c1 i hiL)
      have d2 := (hbel.cell (p := ⟨b2, o2 + i, none⟩) l2).trans (c2 i hiL)
      clear c1 c2 HA HB
      generalize (⟨L[i].toArray⟩ : ByteArray) = Z at d1 d2
      clear hiL HN
      go_wp2_with fail
      go_region
      go_wp2_with fail
      go_roundw
      case rel => exact ⟨i + 1, by omega, by go_num, hbel.drew⟩
      case measure => simp [F.intOf]; omega
    · have hlt' : ¬ ((i : Int) < n) := by omega
      clear HA HB HN
      go_wp2_with fail
      go_ret
      exact ⟨rfl, hbel⟩
end Go.Proofs.Ytpkeeoeghdmagaa
