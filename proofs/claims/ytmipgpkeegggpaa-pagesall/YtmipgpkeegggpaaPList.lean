-- PROVED: a slice of books of one's own.
import Derived.Test.YtmipgpkeegggpaaPUpd
namespace Go.Proofs.Ytmipgpkeegggpaa.P
open Go.RowKit
set_option linter.unusedVariables false
/-- The books at l, in a row of one's own. -/
def Bks (base : Nat) (w : World) (v : Value) (l : List Nat) : Prop := w.ownsRow base 50 1 v l.length (ptrs l)
theorem infoBP : (Try.prog.info? 50).map (fun i => (i.zero, i.size, i.bytes)) = some (some (.pointer none), 1, 8) := by kernel_rfl
section
variable {base : Nat} {w w' : World} {v : Value} {l : List Nat}
theorem Bks.keep {S : List TypeId} (h : Bks base w v l) (k : Keep S base w w') (hS : 50 ∉ S) : Bks base w' v l :=
  own_same h fun g cur _ hg => k.same _ _ _ _ hg hS
theorem Bks.form (h : Bks base w v l) : ∃ a cap, v = .slice a l.length cap := by
  rcases h.2 with ⟨h4, h5⟩ | ⟨g, cap, cur, h4, h5, h6, h7, _⟩
  · exact ⟨none, 0, by rw [h4, h5]⟩
  · exact ⟨_, _, h4⟩
theorem Bks.at_ (h : Bks base w v l) {j a : Nat} (hj : l[j]? = some a) :
    ∃ g cap, v = .slice (some ⟨g, 0, none⟩) l.length cap ∧ j < l.length ∧ l.length ≤ cap ∧ base ≤ g ∧ g < w.heap.size ∧ w.cell? ⟨g, j, none⟩ = some (.pointer (some ⟨a, 0, none⟩)) := by
  have hl := (List.getElem?_eq_some_iff.1 hj).1
  have hc := fun g hg => World.ownsRow.cells h (g := g) hg
  rcases h.2 with ⟨h4, h5⟩ | ⟨g, cap, cur, h4, h5, h6, h7, _⟩
  · omega
  · refine ⟨g, cap, h4, hl, h7, h5, heap_lt h6, ?_⟩
    have := hc g (by rw [h4]; rfl) j (ptr a) (by simp [ptrs, hj])
    rw [Go.WideShapes.add_plain, Nat.zero_add] at this
    exact this
theorem Bks.one (hB : base ≤ w.heap.size) (a : Nat) : Bks base (w.alloc (.cells #[.pointer (some ⟨a, 0, none⟩)] 50)) (.slice (some ⟨w.heap.size, 0, none⟩) 1 1) [a] := by
  refine ⟨rfl, .inr ⟨w.heap.size, 1, #[.pointer (some ⟨a, 0, none⟩)], rfl, hB, heap_alloc_new _ _, Nat.le_refl _, ?_⟩⟩
  simp [ptrs, ptr, maxLen]
theorem Bks.push (h : Bks base w v l) (hB : base ≤ w.heap.size) (hl : l.length ≤ 1000) (q : Nat) (ty : TypeId) :
    ∃ a cap w3, (Builtin.append_ #[52, 52] ty #[v, .slice (some ⟨w.heap.size, 0, none⟩) 1 1]).run Try.prog (w.alloc (.cells #[.pointer (some ⟨q, 0, none⟩)] 50)) = .ok (.slice a (l.length + 1) cap) w3 ∧
      Bks base w3 (.slice a (l.length + 1) cap) (l ++ [q]) ∧ Keep [50] base w w3 := by
  obtain ⟨i0, hi, hz0, hz1, hz2⟩ := info_parts infoBP
  have hbel : Below w.heap.size w (w.alloc (.cells #[.pointer (some ⟨q, 0, none⟩)] 50)) := (Below.refl _ _).alloc (Nat.le_refl _) _
  have htmp := heap_alloc_new w (.cells #[.pointer (some ⟨q, 0, none⟩)] 50)
  have k2 := keepB hB hbel
  have c3 : World.ownsRow _ base 50 1 v l.length (ptrs l) := h.keep k2 (by simp)
  have hsz : (w.alloc (.cells #[.pointer (some ⟨q, 0, none⟩)] 50)).heap.size = w.heap.size + 1 := by simp
  generalize (w.alloc (.cells #[.pointer (some ⟨q, 0, none⟩)] 50)) = w2 at *
  obtain ⟨v', w3, hr, ho, hg, _, hat⟩ := run_append_own_at (P := Try.prog) w2 base 52 ty 50 i0 (.pointer none) 1 8 Try.underlying52 hi hz0 hz1 hz2 rfl (by decide) v l.length (ptrs l) c3 ⟨w.heap.size, 0, none⟩ 1 1 [.pointer (some ⟨q, 0, none⟩)] rfl (by
      intro j u hj
      match j, hj with
      | 0, hj => simp at hj; subst hj; simp [Addr.add, World.cell?, htmp]) (by intro u hu; simp at hu; subst hu; rfl) (by unfold maxLen; omega) (by omega) (by omega)
  obtain ⟨a, cap, rfl⟩ : ∃ a cap, v' = .slice a (l.length + 1) cap := by
    rcases ho.2 with ⟨_, e⟩ | ⟨g, cap, cur, e, _⟩
    · omega
    · exact ⟨_, _, e⟩
  have hrowlt : ∀ k, v.ownBlock = some k → base ≤ k ∧ ∃ arr T fz, w2.heap[k]? = some (.cells arr T fz) ∧ T ∈ [50] := fun k hk => by
    rcases c3.2 with ⟨e, _⟩ | ⟨g, cap, cur, e, e1, e2, _⟩
    · rw [e] at hk; simp [Value.ownBlock] at hk
    · rw [e] at hk; simp [Value.ownBlock] at hk; subst hk; exact ⟨e1, cur, _, _, e2, by simp⟩
  have k3 : Keep [50] base w2 w3 := (Keep.refl _ _ _).grown hg (by omega) hrowlt
  refine ⟨a, cap, w3, hr, ?_, (k2.mono (by simp)).trans k3⟩
  unfold Bks
  rw [List.length_append]
  simpa [ptrs, ptr] using ho
theorem Sys.push {bs : List Bk} (h : Sys base w bs) (k : Keep [50] base w w') : Sys base w' bs := h.other k (by simp [Mine])
end
/-- A mark changes nothing of how many pages live. -/
theorem live_mark {bs : List Bk} {i : Nat} {b m : Bk} (hb : bs[i]? = some b) (hp : m.pgs = b.pgs) (hf : m.fam = b.fam) (f : Nat) : live (bs ++ [m]) f = live bs f := by
  refine live_congr fun p => ?_
  constructor
  · rintro ⟨j, c, h3, h4, h5⟩
    rcases get_app h3 with h6 | ⟨_, rfl⟩
    · exact ⟨j, c, h6, h4, h5⟩
    · exact ⟨i, b, hb, hf.symm.trans h4, hp ▸ h5⟩
  · rintro ⟨j, c, h3, h4, h5⟩
    exact ⟨j, c, app_old h3, h4, h5⟩
theorem app_new {bs : List Bk} {m : Bk} : (bs ++ [m])[bs.length]? = some m := by simp
theorem app_set {bs : List Bk} {m m' : Bk} : (bs ++ [m]).set bs.length m' = bs ++ [m'] := by simp
/-- The cells of marks of marks. -/
def cellT (Z : List Nat) (K : Nat) : Nat → Nat → Cl
  | 0, j => pc 1 j
  | t + 1, j => if j = Z.getD t 0 % K then pc 2 t else cellT Z K t j
theorem cellT_or (Z : List Nat) (K : Nat) : ∀ (t j : Nat), cellT Z K t j = pc 1 j ∨ ∃ r, r < t ∧ cellT Z K t j = pc 2 r
  | 0, j => .inl rfl
  | t + 1, j => by
    unfold cellT
    split
    · exact .inr ⟨t, by omega, rfl⟩
    · rcases cellT_or Z K t j with h | ⟨r, h1, h2⟩
      · exact .inl h
      · exact .inr ⟨r, by omega, h2⟩
theorem cellT_new (Z : List Nat) (K t : Nat) : cellT Z K (t + 1) (Z.getD t 0 % K) = pc 2 t := by unfold cellT; rw [if_pos rfl]
/-- Marks of marks. -/
structure Chain (Z : List Nat) (K F t : Nat) (bs : List Bk) : Prop where
  len : bs.length = t + 1
  book : ∀ (s : Nat) (b : Bk), bs[s]? = some b → b.fam = F ∧ b.opn = true ∧ b.len = K ∧ ∀ j, j < K → b.slots[j]? = some (cellT Z K s j)
  lv : P.live bs F = K / 8 + t
theorem Chain.start {base : Nat} {w : World} {Z : List Nat} {K A F : Nat} {b : Bk} (hs : Sys base w [b]) (h : Row (fun j => pc 1 j) A F K b) (h8 : K % 8 = 0) : Chain Z K F 0 [b] := by
  refine ⟨rfl, fun s c hc => ?_, ?_⟩
  · match s, hc with
    | 0, hc => simp at hc; subst hc; exact ⟨h.fam, h.opn, h.len, h.cell⟩
  · have := hs.only (i := 0) (b := b) rfl h.fam fun j c hc _ => by
      match j, hc with
      | 0, hc => exact .inl rfl
    rw [h.fam, h.len] at this
    omega
theorem Chain.mark {Z : List Nat} {K F t : Nat} {bs : List Bk} (h : Chain Z K F t bs) {b m : Bk} (hb : bs[t]? = some b) (hp : m.pgs = b.pgs) (hf : m.fam = b.fam) : P.live (bs ++ [m]) F = K / 8 + t := by
  rw [live_mark hb hp hf]; exact h.lv
theorem Chain.step {base : Nat} {w : World} {Z : List Nat} {K F t q : Nat} {bs : List Bk} (h : Chain Z K F t bs) {b m : Bk} (hs : Sys base w (bs ++ [m])) (hb : bs[t]? = some b) (hp : m.pgs = b.pgs) (hf : m.fam = b.fam) (ho : m.opn = b.opn) (hl : m.len = b.len) (hsl : m.slots = b.slots) (hK : 0 < K) (hq : w.heap.size ≤ q) :
    Chain Z K F (t + 1) (bs ++ [upd (bs ++ [m]) m (Z.getD t 0 % K) (pc 2 t) q]) := by
  obtain ⟨b1, b2, b3, b4⟩ := h.book t b hb
  have hlen := h.len
  have hmod : Z.getD t 0 % K < K := Nat.mod_lt _ hK
  have hm : (bs ++ [m])[bs.length]? = some m := app_new
  have hok := hs.ok _ m hm
  refine ⟨by simp [hlen], fun s c hc => ?_, ?_⟩
  · rcases get_app hc with h6 | ⟨e, rfl⟩
    · exact h.book s c h6
    · refine ⟨hf.trans b1, ho.trans b2, hl.trans b3, fun j hj => ?_⟩
      rw [e, hlen]
      unfold upd cellT
      simp only []
      rw [hsl, List.getElem?_set]
      by_cases ej : Z.getD t 0 % K = j
      · rw [if_pos ej, if_pos ej.symm, if_pos]
        rw [← hsl]
        have : m.len = K := hl.trans b3
        omega
      · rw [if_neg ej, if_neg fun e => ej e.symm]; exact b4 j hj
  · have hk : Z.getD t 0 % K < m.len := by rw [hl, b3]; exact hmod
    have hul := upd_live hs hm hk (pc 2 t) hq F
    rw [app_set] at hul
    rw [hul, h.mark hb hp hf, if_pos]
    · omega
    · refine ⟨(hf.trans b1).symm, ?_⟩
      have hj : Z.getD t 0 % K / 8 < m.pgs.length := by
        have : m.len = K := hl.trans b3
        omega
      have hp0 : m.pgs[Z.getD t 0 % K / 8]? = some m.pgs[Z.getD t 0 % K / 8] := List.getElem?_eq_getElem hj
      rw [show m.pgs.getD (Z.getD t 0 % K / 8) 0 = m.pgs[Z.getD t 0 % K / 8] by rw [List.getD_eq_getElem?_getD, hp0]; rfl]
      have hmem := List.mem_of_getElem? hp0
      exact cnt_two (app_old hb) hm (by omega) (by rw [← hp]; exact hmem) hmem
end Go.Proofs.Ytmipgpkeegggpaa.P
