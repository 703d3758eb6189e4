-- PROVED: what the walks are told of bytes that came in; how many pages live where one book alone has them.
import Derived.Test.YtmipgpkeegggpaaPDrop
import Derived.OpenShut
namespace Go.Proofs.Ytmipgpkeegggpaa.P
open Go.RowKit
set_option linter.unusedVariables false
/-- The bytes Z lie from the address on. -/
def Ns (w : World) (ad : Option Addr) (Z : List Nat) : Prop :=
  Z.length = 0 ∨ ∃ b off, ad = some ⟨b, off, none⟩ ∧ b < w.heap.size ∧ ∀ j (h : j < Z.length), w.cell? ⟨b, off + j, none⟩ = some (.int .u8 ((Z[j] : Nat) : Int))
theorem Ns.below {w w' : World} {ad : Option Addr} {Z : List Nat} (h : Ns w ad Z) (hb : Below w.heap.size w w') : Ns w' ad Z := by
  rcases h with h | ⟨b, off, h1, h2, h3⟩
  · exact .inl h
  · exact .inr ⟨b, off, h1, Nat.lt_of_lt_of_le h2 hb.size, fun j hj => (hb.cell h2).trans (h3 j hj)⟩
theorem Ns.at_ {w : World} {ad : Option Addr} {Z : List Nat} (h : Ns w ad Z) (hz : ∀ z ∈ Z, z < 256) {j : Nat} (hj : j < Z.length) : ∃ b off z, ad = some ⟨b, off, none⟩ ∧ b < w.heap.size ∧ w.cell? ⟨b, off + j, none⟩ = some (.int .u8 ((z : Nat) : Int)) ∧ z < 256 ∧ Z[j]? = some z := by
  rcases h with h | ⟨b, off, h1, h2, h3⟩
  · omega
  · exact ⟨b, off, Z[j], h1, h2, h3 j hj, hz _ (List.getElem_mem hj), List.getElem?_eq_getElem hj⟩
/-- What the walk is told of a slice of bytes that came in. -/
def IsB (w : World) (a : Option Addr) (len cap : Nat) (zs : List Int) : Prop :=
  (a = none ∧ len = 0 ∧ cap = 0 ∧ zs = []) ∨
  ∃ x, a = some x ∧ len ≤ cap ∧ cap ≤ maxLen ∧ zs.length = cap ∧ (∀ i, i < zs.length → w.cell? (x.add i) = some (.int .u8 (zs.getD i 0))) ∧ ∀ n ∈ zs, (Lit.int .u8 n).wf = true
theorem bytes_at {w : World} {a : Addr} {zs : List Int} (h : ∀ i, i < zs.length → w.cell? (a.add i) = some (.int .u8 (zs.getD i 0))) (hp : 0 < zs.length) :
    ∃ b off, a = ⟨b, off, none⟩ ∧ ∀ j, j < zs.length → w.cell? ⟨b, off + j, none⟩ = some (.int .u8 (zs.getD j 0)) := by
  obtain ⟨b, off, spot⟩ := a
  have hspot : spot = none := by simpa [Addr.add] using World.cell?_spot (h 0 hp)
  subst hspot
  exact ⟨b, off, rfl, fun j hj => by rw [← Go.WideShapes.add_plain]; exact h j hj⟩
theorem cell_lt {w : World} {b i : Nat} {v : Value} (h : w.cell? ⟨b, i, none⟩ = some v) : b < w.heap.size := by
  rcases Nat.lt_or_ge b w.heap.size with hg | hg
  · exact hg
  · simp [World.cell?, Array.getElem?_eq_none hg] at h
theorem IsB.ns {w : World} {a : Option Addr} {len cap : Nat} {zs : List Int} (h : IsB w a len cap zs) :
    ∃ Z : List Nat, Z.length = len ∧ len ≤ cap ∧ cap ≤ maxLen ∧ Ns w a Z ∧ ∀ z ∈ Z, z < 256 := by
  rcases h with ⟨rfl, rfl, rfl, rfl⟩ | ⟨x, rfl, hl, hm, hz, hc, hw⟩
  · exact ⟨[], rfl, Nat.le_refl _, Nat.zero_le _, .inl rfl, by simp⟩
  · refine ⟨(zs.take len).map Int.toNat, by rw [List.length_map, List.length_take]; omega, hl, hm, ?_, ?_⟩
    · by_cases h0 : len = 0
      · exact .inl (by simp [h0])
      · obtain ⟨b, off, rfl, hc2⟩ := bytes_at hc (by omega)
        refine .inr ⟨b, off, rfl, cell_lt (hc2 0 (by omega)), fun j hj => ?_⟩
        rw [List.length_map, List.length_take] at hj
        have hj2 : j < zs.length := by omega
        have hb := bounds_u8 (hw zs[j] (List.getElem_mem hj2))
        rw [hc2 j hj2]
        simp [List.getD, List.getElem?_eq_getElem hj2]
        omega
    · intro z hz2
      obtain ⟨n, hn, rfl⟩ := List.mem_map.1 hz2
      have hb := bounds_u8 (hw n (List.mem_of_mem_take hn))
      omega
/-- A family of which one book alone has pages. -/
theorem live_only {bs : List Bk} {i : Nat} {b : Bk} {f : Nat} (hb : bs[i]? = some b) (hf : b.fam = f) (h : ∀ (j : Nat) (c : Bk), bs[j]? = some c → c.fam = f → j = i ∨ c.pgs = []) : live bs f = dist b.pgs := by
  refine dist_congr _ _ fun p => ?_
  rw [mem_fall]
  constructor
  · rintro ⟨j, c, h1, h2, h3⟩
    rcases h j c h1 h2 with rfl | h4
    · rw [hb] at h1; cases h1; exact h3
    · rw [h4] at h3; simp at h3
  · exact fun hp => ⟨i, b, hb, hf, hp⟩
theorem Sys.only {base : Nat} {w : World} {bs : List Bk} (hs : Sys base w bs) {i : Nat} {b : Bk} {f : Nat} (hb : bs[i]? = some b) (hf : b.fam = f) (h : ∀ (j : Nat) (c : Bk), bs[j]? = some c → c.fam = f → j = i ∨ c.pgs = []) : live bs b.fam = (b.len + 7) / 8 := by
  rw [hf, live_only hb hf h, dist_nodup (hs.pm.nod i b hb), (hs.ok i b hb).2.1]
/-- What a book is, but for its cells. -/
structure Sh (A F n : Nat) (b : Bk) : Prop where
  at_ : b.at_ = A
  opn : b.opn = true
  fam : b.fam = F
  len : b.len = n
theorem Sh.upd {A F n : Nat} {b : Bk} (h : Sh A F n b) (bs : List Bk) (k : Nat) (c : Cl) (q : Nat) : Sh A F n (upd bs b k c q) := ⟨h.at_, h.opn, h.fam, h.len⟩
/-- A book with n cells. -/
structure Row (f : Nat → Cl) (A F n : Nat) (b : Bk) : Prop where
  at_ : b.at_ = A
  opn : b.opn = true
  fam : b.fam = F
  len : b.len = n
  cell : ∀ j, j < n → b.slots[j]? = some (f j)
theorem Row.sh {f : Nat → Cl} {A F n : Nat} {b : Bk} (h : Row f A F n b) : Sh A F n b := ⟨h.at_, h.opn, h.fam, h.len⟩
theorem Row.new {f : Nat → Cl} {b : Bk} {A F : Nat} (h : Fresh b A F) : Row f A F 0 b := ⟨h.at_, h.opn, h.fam, h.len, fun j hj => by omega⟩
theorem Row.add {f : Nat → Cl} {b b' : Bk} {A F n sz : Nat} {bs : List Bk} {c : Cl} (h : Row f A F n b) (ha : Added sz bs b c b') (hc : c = f n) : Row f A F (n + 1) b' :=
  ⟨ha.at_.trans h.at_, ha.opn.trans h.opn, ha.fam.trans h.fam, by rw [ha.len, h.len], fun j hj => by
    by_cases e : j = n
    · subst e; have := ha.new; rw [h.len] at this; rw [this, hc]
    · rw [ha.old j (by rw [h.len]; omega)]; exact h.cell j (by omega)⟩
end Go.Proofs.Ytmipgpkeegggpaa.P
