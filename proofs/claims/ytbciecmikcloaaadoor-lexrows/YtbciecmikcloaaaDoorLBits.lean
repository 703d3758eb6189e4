/- Bytes that came in; Text(ns): some text. -/
import Derived.Test.YtbciecmikcloaaaDoorLRSmall
import Derived.OpenShut
namespace Go.Proofs.YtbciecmikcloaaaDoor.L
open Go.RowKit
set_option linter.unusedVariables false
/-- The bytes Z lie from the address on. -/
def Ns (w : World) (ad : Option Addr) (Z : List Nat) : Prop :=
  Z.length = 0 ∨ ∃ b off, ad = some ⟨b, off, none⟩ ∧ b < w.heap.size ∧ ∀ j (h : j < Z.length), w.cell? ⟨b, off + j, none⟩ = some (.int .u8 ((Z[j] : Nat) : Int))
theorem Ns.below {w w' : World} {ad : Option Addr} {Z : List Nat} (h : Ns w ad Z) (hb : Below w.heap.size w w') : Ns w' ad Z := by
  rcases h with h | ⟨b, off, h1, h2, h3⟩
  · exact .inl h
  · exact .inr ⟨b, off, h1, Nat.lt_of_lt_of_le h2 hb.size, fun j hj => (hb.cell h2).trans (h3 j hj)⟩
theorem Ns.at_ {w : World} {ad : Option Addr} {Z : List Nat} (h : Ns w ad Z) (hz : ∀ z ∈ Z, z < 256) {j : Nat} (hj : j < Z.length) : ∃ b off z, ad = some ⟨b, off, none⟩ ∧ b < w.heap.size ∧ w.cell? ⟨b, off + j, none⟩ = some (.int .u8 ((z : Nat) : Int)) ∧ z < 256 ∧ Z[j]? = some z := by
  rcases h with h | ⟨b, off, h1, h2, h3⟩
  · omega
  · exact ⟨b, off, Z[j], h1, h2, h3 j hj, hz _ (List.getElem_mem hj), List.getElem?_eq_getElem hj⟩
/-- What the walk is told of a slice of bytes that came in. -/
def IsB (w : World) (a : Option Addr) (len cap : Nat) (zs : List Int) : Prop :=
  (a = none ∧ len = 0 ∧ cap = 0 ∧ zs = []) ∨
  ∃ x, a = some x ∧ len ≤ cap ∧ cap ≤ maxLen ∧ zs.length = cap ∧ (∀ i, i < zs.length → w.cell? (x.add i) = some (.int .u8 (zs.getD i 0))) ∧ ∀ n ∈ zs, (Lit.int .u8 n).wf = true
theorem bytes_at {w : World} {a : Addr} {zs : List Int} (h : ∀ i, i < zs.length → w.cell? (a.add i) = some (.int .u8 (zs.getD i 0))) (hp : 0 < zs.length) :
    ∃ b off, a = ⟨b, off, none⟩ ∧ ∀ j, j < zs.length → w.cell? ⟨b, off + j, none⟩ = some (.int .u8 (zs.getD j 0)) := by
  obtain ⟨b, off, spot⟩ := a
  have hspot : spot = none := by simpa [Addr.add] using World.cell?_spot (h 0 hp)
  subst hspot
  exact ⟨b, off, rfl, fun j hj => by rw [← Go.WideShapes.add_plain]; exact h j hj⟩
theorem cell_lt {w : World} {b i : Nat} {v : Value} (h : w.cell? ⟨b, i, none⟩ = some v) : b < w.heap.size := by
  rcases Nat.lt_or_ge b w.heap.size with hg | hg
  · exact hg
  · simp [World.cell?, Array.getElem?_eq_none hg] at h
theorem IsB.ns {w : World} {a : Option Addr} {len cap : Nat} {zs : List Int} (h : IsB w a len cap zs) :
    ∃ Z : List Nat, Z.length = len ∧ len ≤ cap ∧ cap ≤ maxLen ∧ Ns w a Z ∧ ∀ z ∈ Z, z < 256 := by
  rcases h with ⟨rfl, rfl, rfl, rfl⟩ | ⟨x, rfl, hl, hm, hz, hc, hw⟩
  · exact ⟨[], rfl, Nat.le_refl _, Nat.zero_le _, .inl rfl, by simp⟩
  · refine ⟨(zs.take len).map Int.toNat, by rw [List.length_map, List.length_take]; omega, hl, hm, ?_, ?_⟩
    · by_cases h0 : len = 0
      · exact .inl (by simp [h0])
      · obtain ⟨b, off, rfl, hc2⟩ := bytes_at hc (by omega)
        refine .inr ⟨b, off, rfl, cell_lt (hc2 0 (by omega)), fun j hj => ?_⟩
        rw [List.length_map, List.length_take] at hj
        have hj2 : j < zs.length := by omega
        have hb := bounds_u8 (hw zs[j] (List.getElem_mem hj2))
        rw [hc2 j hj2]
        simp [List.getD, List.getElem?_eq_getElem hj2]
        omega
    · intro z hz2
      obtain ⟨n, hn, rfl⟩ := List.mem_map.1 hz2
      have hb := bounds_u8 (hw n (List.mem_of_mem_take hn))
      omega
def bitsL : List (List UInt8) := [[97], [98, 49], [36], [95, 120], [108, 101, 116], [99, 111, 110, 115, 116], [102, 117, 110, 99, 116, 105, 111, 110], [48], [55], [52, 50], [48, 48, 55], [50, 49, 52, 55, 52, 56, 51, 54, 52, 55], [50, 49, 52, 55, 52, 56, 51, 54, 52, 56], [51, 120], [34, 34], [34, 97, 32, 98, 34], [34, 92, 110, 92, 34, 34], [34, 92, 113, 34], [34], [40], [41], [123], [125], [91], [93], [59], [44], [46], [63], [58], [61], [61, 61], [61, 61, 61], [33], [33, 61], [33, 61, 61], [60], [60, 61], [62], [62, 61], [43], [45], [42], [47], [37], [38], [38, 38], [124], [124, 124], [47, 47], [47, 47, 32, 110, 111, 116, 101, 10], [32], [10], [9], [35], [128], [116, 114, 117, 101], [110, 117, 108, 108], [116, 104, 105, 115], [116, 121, 112, 101, 111, 102], [105, 102], [101, 108, 115, 101]]
theorem bits_any (w : World) : Calls Tryd.prog 29 #[] w fun e w' => e = .returned (.slice (some ⟨w.heap.size, 0, none⟩) 62 62) ∧ w' = w.alloc (.cells (strV bitsL) 9) := by
  go_enter Tryd.func29, Tryd.ntmps29
  go_wp2
  go_ret
  exact ⟨rfl, rfl⟩
theorem bits_small : ∀ s ∈ bitsL, s.length ≤ 10 := by decide
theorem bits_at (k : Nat) (h : k < 62) : ∃ u : ByteArray, u.size ≤ 10 ∧ u = ⟨(bitsL[k]'h).toArray⟩ := ⟨_, bits_small _ (List.getElem_mem (l := bitsL) h), rfl⟩
set_option maxRecDepth 100000 in
set_option maxHeartbeats 2000000 in
theorem made_any (a : Option Addr) (len cap : Nat) (zs : List Int) (w : World) (h : IsB w a len cap zs) :
    Calls Tryd.prog 17 #[.slice a len cap] w fun e w' => ∃ s : ByteArray, e = .returned (.string s) ∧ s.size ≤ 720 ∧ Below w.heap.size w w' := by
  obtain ⟨Z, rfl, hlc, hcm, hns, hz⟩ := h.ns
  clear h
  unfold maxLen at hcm
  have HBT : Hid (∀ W, Calls Tryd.prog 29 #[] W fun e w' => ∃ b, e = .returned (.slice (some ⟨b, 0, none⟩) 62 62) ∧ Lies w' b bitsL ∧ Below W.heap.size W w') := fun W => (bits_any W).mono (by
    rintro e w' ⟨rfl, rfl⟩
    exact ⟨_, rfl, lies_alloc _ _ _, (Below.refl _ _).alloc (Nat.le_refl _) _⟩)
  go_enter Tryd.func17, Tryd.ntmps17
  go_wp2_with fail
  refine Calls.mono (HBT.out _) ?_
  rintro e w1 ⟨b, rfl, ⟨hbl, hl⟩, hb1⟩
  have hns1 := hns.below hb1
  have HL : Hid (∀ k (h : k < 62), ∃ u : ByteArray, u.size ≤ 10 ∧ w1.cell? ⟨b, k, none⟩ = some (.string u)) := fun k h => by
    obtain ⟨u, hu, rfl⟩ := bits_at k h
    exact ⟨_, hu, hl k h⟩
  have HN : Hid (∀ k, k < Z.length → ∃ (g o z : Nat), a = some ⟨g, o, none⟩ ∧ w1.cell? ⟨g, o + k, none⟩ = some (.int .u8 (z : Int)) ∧ z < 256) := fun k h => by
    obtain ⟨g, o, z, h1, h2, h3, h4, h5⟩ := hns1.at_ hz h
    exact ⟨g, o, z, h1, h3, h4⟩
  have HB1 : Hid (_) := hb1
  clear HBT hns1 hns hz hl hbl hb1
  go_wp2_with fail
  go_loop [4, 5] (fun s i => ∃ (k : Nat) (S : ByteArray), k ≤ 60 ∧ i = .int .i64 (k : Int) ∧ s = .string S ∧ S.size ≤ 12 * k) (fun _ i => 60 - (intOf i).toNat)
  case atStart => exact ⟨0, ⟨#[]⟩, by omega, rfl, rfl, by decide⟩
  case round =>
    obtain ⟨k, S, hk, rfl, rfl, hS⟩ := hrel
    by_cases hlt : k < Z.length
    · have hlt' : (k : Int) < Z.length := by omega
      by_cases h60 : k < 60
      · have h60' : (k : Int) < 60 := by omega
        obtain ⟨g, o, z, ha, hc, hz⟩ := HN.out k hlt
        subst ha
        obtain ⟨u, hu, hcu⟩ := HL.out (z % 62) (Nat.mod_lt _ (by omega))
        have hm : (z : Int) % 62 = ((z % 62 : Nat) : Int) := by omega
        have hm2 : z % 62 < 62 := Nat.mod_lt _ (by omega)
        have hz' : (z : Int) < 256 := by omega
        have hs1 : ¬ 9223372036854775807 < S.size + u.size := by omega
        have hs2 : ¬ 9223372036854775807 < (S ++ u).size + 1 := by simp only [ByteArray.size_append]; omega
        have hsz : (S ++ u).size = S.size + u.size := ByteArray.size_append
        generalize z % 62 = m at *
        by_cases h128 : 128 ≤ z
        · have h128' : (128 : Int) ≤ z := by omega
          clear HN HL
          go_wp2
          go_round
          case rel => exact ⟨k + 1, _, by omega, by go_num, rfl, by have e1 : (⟨#[32]⟩ : ByteArray).size = 1 := rfl; simp only [ByteArray.size_append, e1] at *; omega⟩
          case measure => simp [intOf]; omega
        · have h128' : ¬ (128 : Int) ≤ z := by omega
          clear HN HL
          go_wp2
          go_round
          case rel => exact ⟨k + 1, _, by omega, by go_num, rfl, by have e1 : (⟨#[32]⟩ : ByteArray).size = 1 := rfl; simp only [ByteArray.size_append, e1] at *; omega⟩
          case measure => simp [intOf]; omega
      · have h60' : ¬ (k : Int) < 60 := by omega
        clear HN HL
        go_wp2
        go_ret
        exact ⟨_, rfl, by omega, HB1.out⟩
    · have hlt' : ¬ (k : Int) < Z.length := by omega
      clear HN HL
      go_wp2
      go_ret
      exact ⟨_, rfl, by omega, HB1.out⟩
end Go.Proofs.YtbciecmikcloaaaDoor.L
