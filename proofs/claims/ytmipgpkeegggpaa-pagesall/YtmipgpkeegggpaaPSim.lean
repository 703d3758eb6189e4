-- PROVED: books and the reference's go side by side.
import Derived.Test.YtmipgpkeegggpaaPLike
namespace Go.Proofs.Ytmipgpkeegggpaa.P
open Go.RowKit
set_option linter.unusedVariables false
/-- Page p of a book has the number x. -/
def Ent (bs : List Bk) (rs : List Rb) (p x : Nat) : Prop := ∃ (i : Nat) (b : Bk) (r : Rb) (k : Nat), bs[i]? = some b ∧ rs[i]? = some r ∧ b.pgs[k]? = some p ∧ r.pgs[k]? = some x
structure Sim (F : Nat) (bs : List Bk) (rs : List Rb) (nx : Nat) : Prop where
  len : bs.length = rs.length
  book : ∀ (i : Nat) (b : Bk) (r : Rb), bs[i]? = some b → rs[i]? = some r → b.fam = F ∧ r.gone = !b.opn ∧ r.cells.length = b.len ∧ (∀ k, k < b.len → b.slots[k]? = r.cells[k]?) ∧ r.pgs.length = b.pgs.length
  num : ∀ p x q y, Ent bs rs p x → Ent bs rs q y → (p = q ↔ x = y)
  top : ∀ p x, Ent bs rs p x → x ≤ nx
theorem dist_pairs : ∀ (l : List (Nat × Nat)), (∀ a ∈ l, ∀ b ∈ l, a.1 = b.1 ↔ a.2 = b.2) → dist (l.map (·.1)) = dist (l.map (·.2))
  | [], _ => rfl
  | a :: l, h => by
    have ih := dist_pairs l fun x hx y hy => h x (List.mem_cons_of_mem _ hx) y (List.mem_cons_of_mem _ hy)
    have hm : a.1 ∈ l.map (·.1) ↔ a.2 ∈ l.map (·.2) := by
      simp only [List.mem_map]
      constructor
      · rintro ⟨b, hb, e⟩
        exact ⟨b, hb, ((h a (by simp) b (List.mem_cons_of_mem _ hb)).1 e.symm).symm⟩
      · rintro ⟨b, hb, e⟩
        exact ⟨b, hb, ((h a (by simp) b (List.mem_cons_of_mem _ hb)).2 e.symm).symm⟩
    simp only [List.map_cons, dist, ih]
    by_cases hx : a.1 ∈ l.map (·.1)
    · rw [if_pos hx, if_pos (hm.1 hx)]
    · rw [if_neg hx, if_neg fun e => hx (hm.2 e)]
def prs : List Bk → List Rb → List (Nat × Nat)
  | b :: bs, r :: rs => b.pgs.zip r.pgs ++ prs bs rs
  | _, _ => []
theorem prs_fst : ∀ (bs : List Bk) (rs : List Rb), bs.length = rs.length → (∀ (i : Nat) (b : Bk) (r : Rb), bs[i]? = some b → rs[i]? = some r → r.pgs.length = b.pgs.length) → (prs bs rs).map (·.1) = bs.flatMap (·.pgs) ∧ (prs bs rs).map (·.2) = rs.flatMap (·.pgs)
  | [], [], _, _ => ⟨rfl, rfl⟩
  | b :: bs, r :: rs, h, hl => by
    obtain ⟨h1, h2⟩ := prs_fst bs rs (by simpa using h) fun i b' r' hb hr => hl (i + 1) b' r' (by simpa using hb) (by simpa using hr)
    have hbr := hl 0 b r rfl rfl
    constructor
    · simp only [prs, List.map_append, List.flatMap_cons, h1, List.map_fst_zip (Nat.le_of_eq hbr.symm)]
    · simp only [prs, List.map_append, List.flatMap_cons, h2, List.map_snd_zip (Nat.le_of_eq hbr)]
  | [], r :: rs, h, _ => by simp at h
  | b :: bs, [], h, _ => by simp at h
theorem prs_ent : ∀ (bs : List Bk) (rs : List Rb) (a : Nat × Nat), a ∈ prs bs rs → Ent bs rs a.1 a.2
  | b :: bs, r :: rs, a, h => by
    simp only [prs, List.mem_append] at h
    rcases h with h | h
    · obtain ⟨k, hk⟩ := List.mem_iff_getElem?.1 h
      rw [List.getElem?_zip_eq_some] at hk
      exact ⟨0, b, r, k, rfl, rfl, hk.1, hk.2⟩
    · obtain ⟨i, b', r', k, h1, h2, h3, h4⟩ := prs_ent bs rs a h
      exact ⟨i + 1, b', r', k, by simpa using h1, by simpa using h2, h3, h4⟩
  | [], _, a, h => by simp [prs] at h
  | b :: bs, [], a, h => by simp [prs] at h
theorem flat_congr (f g : Bk → List Nat) : ∀ (l : List Bk), (∀ b ∈ l, f b = g b) → l.flatMap f = l.flatMap g
  | [], _ => rfl
  | b :: l, h => by
    rw [List.flatMap_cons, List.flatMap_cons, h b (by simp), flat_congr f g l fun c hc => h c (List.mem_cons_of_mem _ hc)]
section
variable {F nx : Nat} {bs : List Bk} {rs : List Rb}
theorem Sim.live (h : Sim F bs rs nx) : live bs F = rlive rs := by
  obtain ⟨h1, h2⟩ := prs_fst bs rs h.len fun i b r hb hr => (h.book i b r hb hr).2.2.2.2
  have e : fall bs F = bs.flatMap (·.pgs) := by
    unfold fall
    have hF : ∀ b ∈ bs, (if b.fam = F then b.pgs else []) = b.pgs := fun b hb => by
      obtain ⟨i, hi⟩ := List.mem_iff_getElem?.1 hb
      have hl := (List.getElem?_eq_some_iff.1 hi).1
      rw [if_pos (h.book i b _ hi (List.getElem?_eq_getElem (by rw [← h.len]; exact hl))).1]
    exact flat_congr _ _ bs hF
  unfold P.live rlive rall
  rw [e, ← h1, ← h2]
  exact dist_pairs _ fun a ha b hb => h.num _ _ _ _ (prs_ent _ _ _ ha) (prs_ent _ _ _ hb)
theorem Sim.alike (h : Sim F bs rs nx) : Alike bs rs := ⟨h.len, fun i b r hb hr => by
  obtain ⟨h1, h2, h3, h4, h5⟩ := h.book i b r hb hr
  exact ⟨h3, h4, by rw [h1]; exact h.live⟩⟩
theorem Sim.shared (h : Sim F bs rs nx) {i k p x : Nat} {b : Bk} {r : Rb} (hb : bs[i]? = some b) (hr : rs[i]? = some r) (hp : b.pgs[k]? = some p) (hx : r.pgs[k]? = some x) : Shd rs i x ↔ 2 ≤ cnt bs p := by
  have hE : Ent bs rs p x := ⟨i, b, r, k, hb, hr, hp, hx⟩
  constructor
  · rintro ⟨j, r', hj, hr', hm⟩
    obtain ⟨l, hl⟩ := List.mem_iff_getElem?.1 hm
    have hjl := (List.getElem?_eq_some_iff.1 hr').1
    obtain ⟨c, hc⟩ : ∃ c, bs[j]? = some c := ⟨_, List.getElem?_eq_getElem (by rw [h.len]; exact hjl)⟩
    have hll := (List.getElem?_eq_some_iff.1 hl).1
    obtain ⟨q, hq⟩ : ∃ q, c.pgs[l]? = some q := ⟨_, List.getElem?_eq_getElem (by rw [← (h.book j c r' hc hr').2.2.2.2]; exact hll)⟩
    have e := (h.num p x q x hE ⟨j, c, r', l, hc, hr', hq, hl⟩).2 rfl
    subst e
    exact cnt_two hb hc (fun e => hj e.symm) (List.mem_of_getElem? hp) (List.mem_of_getElem? hq)
  · intro h2
    obtain ⟨j, c, hj, hc, hm⟩ := cnt_more (i := i) h2
    obtain ⟨l, hl⟩ := List.mem_iff_getElem?.1 hm
    have hjl := (List.getElem?_eq_some_iff.1 hc).1
    obtain ⟨s, hs⟩ : ∃ s, rs[j]? = some s := ⟨_, List.getElem?_eq_getElem (by rw [← h.len]; exact hjl)⟩
    have hll := (List.getElem?_eq_some_iff.1 hl).1
    obtain ⟨y, hy⟩ : ∃ y, s.pgs[l]? = some y := ⟨_, List.getElem?_eq_getElem (by rw [(h.book j c s hc hs).2.2.2.2]; exact hll)⟩
    have e := (h.num p x p y hE ⟨j, c, s, l, hc, hs, hl, hy⟩).1 rfl
    subst e
    exact ⟨j, s, hj, hs, List.mem_of_getElem? hy⟩
/-- A book is turned on both sides; what is new of pages has a number of its own. -/
theorem Sim.turn (h : Sim F bs rs nx) {i q nx' : Nat} {b b' : Bk} {r r' : Rb} (hb : bs[i]? = some b) (hr : rs[i]? = some r) (hf : b'.fam = F) (hg : r'.gone = !b'.opn) (hl : r'.cells.length = b'.len) (hc : ∀ k, k < b'.len → b'.slots[k]? = r'.cells[k]?) (hp : r'.pgs.length = b'.pgs.length)
    (hn : nx ≤ nx') (hq : nx' = nx + 1 → ∀ p x, Ent bs rs p x → p ≠ q) (he : ∀ (k p x : Nat), b'.pgs[k]? = some p → r'.pgs[k]? = some x → (b.pgs[k]? = some p ∧ r.pgs[k]? = some x) ∨ (p = q ∧ x = nx + 1 ∧ nx' = nx + 1)) : Sim F (bs.set i b') (rs.set i r') nx' := by
  have hE : ∀ p x, Ent (bs.set i b') (rs.set i r') p x → Ent bs rs p x ∨ (p = q ∧ x = nx + 1 ∧ nx' = nx + 1) := by
    rintro p x ⟨j, c, s, k, h1, h2, h3, h4⟩
    rcases get_set hb h1 with ⟨rfl, rfl⟩ | ⟨g1, g2⟩
    · rw [rset_same hr] at h2
      cases h2
      rcases he k p x h3 h4 with ⟨e1, e2⟩ | e
      · exact .inl ⟨j, b, r, k, hb, hr, e1, e2⟩
      · exact .inr e
    · rcases rget_set hr h2 with ⟨rfl, _⟩ | ⟨_, g4⟩
      · exact absurd rfl g1
      · exact .inl ⟨j, c, s, k, g2, g4, h3, h4⟩
  refine ⟨by rw [List.length_set, List.length_set]; exact h.len, fun j c s hc' hs' => ?_, fun p x p' y h1 h2 => ?_, fun p x h1 => ?_⟩
  · rcases get_set hb hc' with ⟨rfl, rfl⟩ | ⟨g1, g2⟩
    · rw [rset_same hr] at hs'
      cases hs'
      exact ⟨hf, hg, hl, hc, hp⟩
    · rcases rget_set hr hs' with ⟨rfl, _⟩ | ⟨_, g4⟩
      · exact absurd rfl g1
      · exact h.book j c s g2 g4
  · rcases hE p x h1 with e1 | ⟨rfl, rfl, hnn⟩
    · rcases hE p' y h2 with e2 | ⟨rfl, rfl, hnn⟩
      · exact h.num p x p' y e1 e2
      · have := hq hnn p x e1
        have := h.top p x e1
        constructor
        · intro e; exact absurd e (by assumption)
        · intro e; omega
    · rcases hE p' y h2 with e2 | ⟨rfl, rfl, _⟩
      · have := hq hnn p' y e2
        have := h.top p' y e2
        constructor
        · intro e; exact absurd e.symm (by assumption)
        · intro e; omega
      · simp
  · rcases hE p x h1 with e1 | ⟨_, rfl, e⟩
    · have := h.top p x e1; omega
    · omega
theorem Sim.marked (h : Sim F bs rs nx) {i : Nat} {b m : Bk} {r : Rb} (hb : bs[i]? = some b) (hr : rs[i]? = some r) (h1 : m.fam = b.fam) (h2 : m.opn = b.opn) (h3 : m.len = b.len) (h4 : m.slots = b.slots) (h5 : m.pgs = b.pgs) : Sim F (bs ++ [m]) (rs ++ [r]) nx := by
  have rapp : ∀ (j : Nat) (s : Rb), (rs ++ [r])[j]? = some s → rs[j]? = some s ∨ (j = rs.length ∧ s = r) := fun j s hs => by
    rcases Nat.lt_or_ge j rs.length with hl | hl
    · rw [List.getElem?_append_left hl] at hs; exact .inl hs
    · rw [List.getElem?_append_right hl] at hs
      by_cases e : j - rs.length = 0
      · rw [e] at hs; simp at hs; exact .inr ⟨by omega, hs.symm⟩
      · rw [List.getElem?_eq_none (by simp; omega)] at hs; cases hs
  have both : ∀ (j : Nat) (c : Bk) (s : Rb), (bs ++ [m])[j]? = some c → (rs ++ [r])[j]? = some s → (bs[j]? = some c ∧ rs[j]? = some s) ∨ (c = m ∧ s = r) := fun j c s hc hs => by
    rcases get_app hc with g1 | ⟨e1, e2⟩
    · rcases rapp j s hs with g2 | ⟨e3, _⟩
      · exact .inl ⟨g1, g2⟩
      · have := (List.getElem?_eq_some_iff.1 g1).1
        have := h.len
        omega
    · rcases rapp j s hs with g2 | ⟨_, e4⟩
      · have := (List.getElem?_eq_some_iff.1 g2).1
        have := h.len
        omega
      · exact .inr ⟨e2, e4⟩
  have hE : ∀ p x, Ent (bs ++ [m]) (rs ++ [r]) p x → Ent bs rs p x := by
    rintro p x ⟨j, c, s, k, g1, g2, g3, g4⟩
    rcases both j c s g1 g2 with ⟨e1, e2⟩ | ⟨rfl, rfl⟩
    · exact ⟨j, c, s, k, e1, e2, g3, g4⟩
    · exact ⟨i, b, s, k, hb, hr, by rw [← h5]; exact g3, g4⟩
  refine ⟨by simp [h.len], fun j c s hc hs => ?_, fun p x q y g1 g2 => h.num p x q y (hE _ _ g1) (hE _ _ g2), fun p x g1 => h.top p x (hE _ _ g1)⟩
  rcases both j c s hc hs with ⟨e1, e2⟩ | ⟨rfl, rfl⟩
  · exact h.book j c s e1 e2
  · rw [h1, h2, h3, h4, h5]; exact h.book i b s hb hr
theorem Sim.dropped (h : Sim F bs rs nx) {i : Nat} {b : Bk} {r : Rb} (hb : bs[i]? = some b) (hr : rs[i]? = some r) : Sim F (bs.set i (gone b)) (rs.set i (goneR r)) nx :=
  h.turn (q := bs.length) hb hr (h.book i b r hb hr).1 rfl rfl (fun k hk => by simp [gone] at hk) rfl (Nat.le_refl _) (fun e => by omega) fun k p x hp => by simp [gone] at hp
/-- Pages on both sides, where page j becomes the book's own. -/
theorem Sim.pages (h : Sim F bs rs nx) {i j q nx1 : Nat} {b : Bk} {r r1 : Rb} (hb : bs[i]? = some b) (hr : rs[i]? = some r) (hj : j ≤ b.pgs.length) (hd : OwnD rs i r j nx r1 nx1) :
    r1.pgs.length = (ownP bs b.pgs j q).length ∧ nx ≤ nx1 ∧ ∀ (k p x : Nat), (ownP bs b.pgs j q)[k]? = some p → r1.pgs[k]? = some x → (b.pgs[k]? = some p ∧ r.pgs[k]? = some x) ∨ (p = q ∧ x = nx + 1 ∧ nx1 = nx + 1) := by
  have hl := (h.book i b r hb hr).2.2.2.2
  unfold ownP
  rcases Nat.lt_or_ge j b.pgs.length with hlt | hge
  · rw [if_neg (by omega)]
    have hp : b.pgs[j]? = some b.pgs[j] := List.getElem?_eq_getElem hlt
    have hgd : b.pgs.getD j 0 = b.pgs[j] := by rw [List.getD_eq_getElem?_getD, hp]; rfl
    rw [hgd]
    rcases hd.pg with ⟨e, _⟩ | ⟨n, hn, hs, e1, e2⟩ | ⟨n, hn, hs, e1, e2⟩
    · omega
    · rw [if_pos ((h.shared hb hr hp hn).1 hs), e1]
      refine ⟨by simp [hl], by omega, fun k p x h1 h2 => ?_⟩
      rw [List.getElem?_set] at h1 h2
      by_cases ek : j = k
      · subst ek
        rw [if_pos rfl, if_pos hlt] at h1
        rw [if_pos rfl, if_pos (by omega)] at h2
        cases h1
        cases h2
        exact .inr ⟨rfl, rfl, e2⟩
      · rw [if_neg ek] at h1 h2
        exact .inl ⟨h1, h2⟩
    · rw [if_neg fun e => hs ((h.shared hb hr hp hn).2 e), e1]
      exact ⟨hl, by omega, fun k p x h1 h2 => .inl ⟨h1, h2⟩⟩
  · obtain rfl : j = b.pgs.length := by omega
    rw [if_pos rfl]
    rcases hd.pg with ⟨e, e1, e2⟩ | ⟨n, hn, _⟩ | ⟨n, hn, _⟩
    · rw [e1]
      refine ⟨by simp [hl], by omega, fun k p x h1 h2 => ?_⟩
      rcases Nat.lt_or_ge k b.pgs.length with hk | hk
      · rw [List.getElem?_append_left hk] at h1
        rw [List.getElem?_append_left (by omega)] at h2
        exact .inl ⟨h1, h2⟩
      · rw [List.getElem?_append_right hk] at h1
        rw [List.getElem?_append_right (by omega)] at h2
        by_cases ek : k - b.pgs.length = 0
        · rw [ek] at h1
          rw [show k - r.pgs.length = 0 by omega] at h2
          simp at h1 h2
          exact .inr ⟨h1.symm, h2.symm, e2⟩
        · rw [List.getElem?_eq_none (by simp; omega)] at h1; cases h1
    · have := (List.getElem?_eq_some_iff.1 hn).1; omega
    · have := (List.getElem?_eq_some_iff.1 hn).1; omega
theorem upd_own (bs : List Bk) (b : Bk) (k : Nat) (c : Cl) (q : Nat) (hk : k / 8 < b.pgs.length) : (upd bs b k c q).pgs = ownP bs b.pgs (k / 8) q := by
  unfold upd ownP
  simp only []
  rw [if_neg (show ¬ k / 8 = b.pgs.length by omega)]
theorem Ent.mem {p x : Nat} (h : Ent bs rs p x) : ∃ (i : Nat) (b : Bk), bs[i]? = some b ∧ p ∈ b.pgs := by
  obtain ⟨i, b, r, k, h1, h2, h3, h4⟩ := h
  exact ⟨i, b, h1, List.mem_of_getElem? h3⟩
theorem Sim.set {base : Nat} {w : World} (h : Sim F bs rs nx) (hs : Sys base w bs) {i k q nx1 : Nat} {b : Bk} {r r1 : Rb} (hb : bs[i]? = some b) (hr : rs[i]? = some r) (hk : k < b.len) (hq : w.heap.size ≤ q) (hd : OwnD rs i r (k / 8) nx r1 nx1) (c : Cl) (v : Value) :
    Sim F (bs.set i (upd bs b k c q)) (rs.set i (withC r1 (r.cells.set k c) v)) nx1 := by
  obtain ⟨b1, b2, b3, b4, b5⟩ := h.book i b r hb hr
  obtain ⟨o1, o2, o3, o4⟩ := hs.ok i b hb
  have hj : k / 8 < b.pgs.length := by omega
  obtain ⟨p1, p2, p3⟩ := h.pages (q := q) hb hr (Nat.le_of_lt hj) hd
  refine h.turn (q := q) hb hr b1 (hd.gone.trans b2) (by unfold withC upd; simp; exact b3) (fun j hj' => ?_) (by rw [upd_own _ _ _ _ _ hj]; exact p1) p2 (fun _ p x hE e => ?_) (fun k' p x h1 h2 => ?_)
  · unfold withC upd
    simp only []
    rw [List.getElem?_set, List.getElem?_set]
    by_cases e : k = j
    · rw [if_pos e, if_pos e, if_pos (by omega), if_pos (by omega)]
    · rw [if_neg e, if_neg e]; exact b4 j hj'
  · obtain ⟨i', c', g1, g2⟩ := hE.mem
    exact hs.none_at hq i' c' g1 (e ▸ g2)
  · rw [upd_own _ _ _ _ _ hj] at h1
    exact p3 k' p x h1 h2
theorem Sim.add {base : Nat} {w : World} (h : Sim F bs rs nx) (hs : Sys base w bs) {i nx1 : Nat} {b b' : Bk} {r r1 : Rb} {c : Cl} (hb : bs[i]? = some b) (hr : rs[i]? = some r) (ha : Added w.heap.size bs b c b') (hd : OwnD rs i r (r.cells.length / 8) nx r1 nx1) (v : Value) :
    Sim F (bs.set i b') (rs.set i (withC r1 (r.cells ++ [c]) v)) nx1 := by
  obtain ⟨b1, b2, b3, b4, b5⟩ := h.book i b r hb hr
  obtain ⟨o1, o2, o3, o4⟩ := hs.ok i b hb
  obtain ⟨q, hq, hpg⟩ := ha.pgs
  rw [b3] at hd
  obtain ⟨p1, p2, p3⟩ := h.pages (q := q) hb hr (j := b.len / 8) (by omega) hd
  refine h.turn (q := q) hb hr (ha.fam.trans b1) (by rw [ha.opn]; exact hd.gone.trans b2) (by unfold withC; simp [b3, ha.len]) (fun j hj' => ?_) (by rw [hpg]; exact p1) p2 (fun _ p x hE e => ?_) (fun k' p x h1 h2 => ?_)
  · rw [ha.len] at hj'
    unfold withC
    simp only []
    by_cases e : j = b.len
    · subst e
      rw [ha.new, List.getElem?_append_right (by omega), show b.len - r.cells.length = 0 by omega]; rfl
    · rw [ha.old j (by omega), List.getElem?_append_left (by omega)]; exact b4 j (by omega)
  · obtain ⟨i', c', g1, g2⟩ := hE.mem
    exact hs.none_at hq i' c' g1 (e ▸ g2)
  · rw [hpg] at h1
    exact p3 k' p x h1 h2
end
end Go.Proofs.Ytmipgpkeegggpaa.P
