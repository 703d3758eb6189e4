-- PROVED: books that share pages, without memory: how many books a page has, how many pages there are.
import Derived.Below
namespace Go.Proofs.Ytmipgpkeegggpaa.P
/-- A value of a cell. -/
structure Vl where
  kind : Int
  n : Int
  s : ByteArray
/-- A cell. -/
structure Cl where
  kind : Int
  a : Int
  b : Int
  keys : List ByteArray
  vals : List Vl
def Cl.zero : Cl := ⟨0, 0, 0, [], []⟩
/-- How many different ones there are. -/
def dist : List Nat → Nat
  | [] => 0
  | x :: l => (if x ∈ l then 0 else 1) + dist l
theorem dist_new {x : Nat} {l : List Nat} (h : x ∉ l) : dist (x :: l) = dist l + 1 := by
  simp [dist, h]; omega
theorem dist_old {x : Nat} {l : List Nat} (h : x ∈ l) : dist (x :: l) = dist l := by
  simp [dist, h]
theorem dist_filter (x : Nat) : ∀ l : List Nat, dist l = (if x ∈ l then 1 else 0) + dist (l.filter (fun y => y ≠ x))
  | [] => by simp [dist]
  | y :: l => by
    have ih := dist_filter x l
    by_cases hy : y = x
    · subst hy
      have e : (y :: l).filter (fun z => z ≠ y) = l.filter (fun z => z ≠ y) := by simp
      rw [e, if_pos (by simp)]
      by_cases hm : y ∈ l
      · rw [dist_old hm, ih, if_pos hm]
      · rw [dist_new hm, ih, if_neg hm]; omega
    · have e : (y :: l).filter (fun z => z ≠ x) = y :: l.filter (fun z => z ≠ x) := by simp [hy]
      rw [e]
      have hxy : (x ∈ y :: l) ↔ x ∈ l := by
        simp only [List.mem_cons]
        exact ⟨fun h => h.elim (fun e => absurd e.symm hy) id, .inr⟩
      by_cases hm : y ∈ l
      · have hm' : y ∈ l.filter (fun z => z ≠ x) := List.mem_filter.2 ⟨hm, by simpa using hy⟩
        rw [dist_old hm, dist_old hm', ih]
        simp only [hxy]
      · have hm' : y ∉ l.filter (fun z => z ≠ x) := fun h => hm (List.mem_filter.1 h).1
        rw [dist_new hm, dist_new hm', ih]
        simp only [hxy]
        omega
theorem dist_congr : ∀ (l l' : List Nat), (∀ p, p ∈ l ↔ p ∈ l') → dist l = dist l'
  | [], l', h => by
    cases l' with
    | nil => rfl
    | cons y l' => exact absurd ((h y).2 (by simp)) (by simp)
  | x :: l, l', h => by
    have hx' : x ∈ l' := (h x).1 (by simp)
    by_cases hx : x ∈ l
    · rw [dist_old hx]
      refine dist_congr l l' fun p => ?_
      rw [← h p, List.mem_cons]
      exact ⟨.inr, fun e => e.elim (fun e => e ▸ hx) id⟩
    · rw [dist_new hx, dist_filter x l', if_pos hx']
      rw [dist_congr l (l'.filter (fun y => y ≠ x)) fun p => ?_]
      · omega
      · rw [List.mem_filter, ← h p, List.mem_cons]
        constructor
        · intro hp
          have : p ≠ x := fun e => hx (e ▸ hp)
          exact ⟨.inr hp, by simpa using this⟩
        · rintro ⟨hp, hne⟩
          exact hp.resolve_left (by simpa using hne)
theorem dist_nodup : ∀ {l : List Nat}, l.Nodup → dist l = l.length
  | [], _ => rfl
  | x :: l, h => by
    have hh := List.nodup_cons.1 h
    rw [dist_new hh.1, dist_nodup hh.2]; rfl
theorem dist_le : ∀ l : List Nat, dist l ≤ l.length
  | [] => Nat.le_refl _
  | x :: l => by
    have := dist_le l
    simp only [dist, List.length_cons]
    split <;> omega
/-- A book: where it lies, whether it is open, how many cells it has, what its pages have, the row of its pages, where they lie, its family. -/
structure Bk where
  at_ : Nat
  opn : Bool
  len : Nat
  slots : List Cl
  row : Value
  pgs : List Nat
  fam : Nat
/-- How many books have a page. -/
def cnt : List Bk → Nat → Nat
  | [], _ => 0
  | b :: bs, p => (if p ∈ b.pgs then 1 else 0) + cnt bs p
theorem cnt_le : ∀ (bs : List Bk) (p : Nat), cnt bs p ≤ bs.length
  | [], _ => Nat.le_refl _
  | b :: bs, p => by
    have := cnt_le bs p
    simp only [cnt, List.length_cons]
    split <;> omega
theorem cnt_set : ∀ (bs : List Bk) (i : Nat) (b b' : Bk) (p : Nat), bs[i]? = some b → cnt (bs.set i b') p + (if p ∈ b.pgs then 1 else 0) = cnt bs p + (if p ∈ b'.pgs then 1 else 0)
  | [], i, b, b', p, h => by simp at h
  | x :: bs, 0, b, b', p, h => by
    simp at h
    subst h
    simp only [List.set_cons_zero, cnt]
    omega
  | x :: bs, i + 1, b, b', p, h => by
    have := cnt_set bs i b b' p (by simpa using h)
    simp only [List.set_cons_succ, cnt]
    omega
theorem cnt_append : ∀ (bs : List Bk) (m : Bk) (p : Nat), cnt (bs ++ [m]) p = cnt bs p + (if p ∈ m.pgs then 1 else 0)
  | [], m, p => by simp [cnt]
  | b :: bs, m, p => by
    have := cnt_append bs m p
    simp only [List.cons_append, cnt]
    omega
theorem cnt_pos : ∀ {bs : List Bk} {i : Nat} {b : Bk} {p : Nat}, bs[i]? = some b → p ∈ b.pgs → 1 ≤ cnt bs p
  | [], i, b, p, h, _ => by simp at h
  | x :: bs, 0, b, p, h, hp => by
    simp at h
    subst h
    simp only [cnt, if_pos hp]
    omega
  | x :: bs, i + 1, b, p, h, hp => by
    have := cnt_pos (bs := bs) (i := i) (by simpa using h) hp
    simp only [cnt]
    omega
theorem cnt_zero : ∀ {bs : List Bk} {p : Nat}, (∀ (i : Nat) (b : Bk), bs[i]? = some b → p ∉ b.pgs) → cnt bs p = 0
  | [], _, _ => rfl
  | b :: bs, p, h => by
    have h0 := h 0 b rfl
    have := cnt_zero (bs := bs) (p := p) fun i b hb => h (i + 1) b (by simpa using hb)
    simp only [cnt, if_neg h0]
    omega
theorem cnt_two : ∀ {bs : List Bk} {i j : Nat} {b c : Bk} {p : Nat}, bs[i]? = some b → bs[j]? = some c → i ≠ j → p ∈ b.pgs → p ∈ c.pgs → 2 ≤ cnt bs p
  | [], i, j, b, c, p, h, _, _, _, _ => by simp at h
  | x :: bs, 0, 0, b, c, p, _, _, hn, _, _ => absurd rfl hn
  | x :: bs, 0, j + 1, b, c, p, h, h', _, hp, hp' => by
    simp at h
    subst h
    have := cnt_pos (bs := bs) (i := j) (by simpa using h') hp'
    simp only [cnt, if_pos hp]
    omega
  | x :: bs, i + 1, 0, b, c, p, h, h', _, hp, hp' => by
    simp at h'
    subst h'
    have := cnt_pos (bs := bs) (i := i) (by simpa using h) hp
    simp only [cnt, if_pos hp']
    omega
  | x :: bs, i + 1, j + 1, b, c, p, h, h', hn, hp, hp' => by
    have := cnt_two (bs := bs) (i := i) (j := j) (by simpa using h) (by simpa using h') (by omega) hp hp'
    simp only [cnt]
    omega
/-- A page that more than one book has: another one than book i has it, too. -/
theorem cnt_more : ∀ {bs : List Bk} {i : Nat} {p : Nat}, 2 ≤ cnt bs p → ∃ (j : Nat) (c : Bk), j ≠ i ∧ bs[j]? = some c ∧ p ∈ c.pgs := by
  intro bs
  induction bs with
  | nil => intro i p h; simp [cnt] at h
  | cons x bs ih =>
    intro i p h
    simp only [cnt] at h
    cases i with
    | zero =>
      have h1 : 1 ≤ cnt bs p := by split at h <;> omega
      have : ∃ (j : Nat) (c : Bk), bs[j]? = some c ∧ p ∈ c.pgs := by
        apply Classical.byContradiction
        intro hn
        have := cnt_zero (bs := bs) (p := p) fun i b hb hp => hn ⟨i, b, hb, hp⟩
        omega
      obtain ⟨j, c, h2, h3⟩ := this
      exact ⟨j + 1, c, by omega, by simpa using h2, h3⟩
    | succ i =>
      by_cases hp : p ∈ x.pgs
      · exact ⟨0, x, by omega, rfl, hp⟩
      · rw [if_neg hp] at h
        obtain ⟨j, c, h1, h2, h3⟩ := ih (i := i) (p := p) (by omega)
        exact ⟨j + 1, c, by omega, by simpa using h2, h3⟩
/-- All pages of a family. -/
def fall (bs : List Bk) (f : Nat) : List Nat := bs.flatMap fun b => if b.fam = f then b.pgs else []
theorem mem_fall {bs : List Bk} {f p : Nat} : p ∈ fall bs f ↔ ∃ (i : Nat) (b : Bk), bs[i]? = some b ∧ b.fam = f ∧ p ∈ b.pgs := by
  unfold fall
  rw [List.mem_flatMap]
  constructor
  · rintro ⟨b, hb, hp⟩
    obtain ⟨i, hi⟩ := List.mem_iff_getElem?.1 hb
    by_cases hf : b.fam = f
    · rw [if_pos hf] at hp
      exact ⟨i, b, hi, hf, hp⟩
    · rw [if_neg hf] at hp
      simp at hp
  · rintro ⟨i, b, hi, hf, hp⟩
    exact ⟨b, List.mem_of_getElem? hi, by rw [if_pos hf]; exact hp⟩
def live (bs : List Bk) (f : Nat) : Nat := dist (fall bs f)
theorem live_congr {bs bs' : List Bk} {f : Nat} (h : ∀ p, (∃ (i : Nat) (b : Bk), bs[i]? = some b ∧ b.fam = f ∧ p ∈ b.pgs) ↔ ∃ (i : Nat) (b : Bk), bs'[i]? = some b ∧ b.fam = f ∧ p ∈ b.pgs) : live bs f = live bs' f :=
  dist_congr _ _ fun p => by rw [mem_fall, mem_fall]; exact h p
theorem live_new {bs bs' : List Bk} {f q : Nat} (hq : ∀ (i : Nat) (b : Bk), bs[i]? = some b → q ∉ b.pgs) (h : ∀ p, (∃ (i : Nat) (b : Bk), bs'[i]? = some b ∧ b.fam = f ∧ p ∈ b.pgs) ↔ p = q ∨ ∃ (i : Nat) (b : Bk), bs[i]? = some b ∧ b.fam = f ∧ p ∈ b.pgs) : live bs' f = live bs f + 1 := by
  unfold live
  rw [← dist_new (x := q) (l := fall bs f) (fun hm => by obtain ⟨i, b, h1, _, h3⟩ := mem_fall.1 hm; exact hq i b h1 h3)]
  exact dist_congr _ _ fun p => by rw [mem_fall, h p, List.mem_cons, mem_fall]
theorem get_set {bs : List Bk} {i j : Nat} {b b' c : Bk} (hb : bs[i]? = some b) (h : (bs.set i b')[j]? = some c) : (j = i ∧ c = b') ∨ (j ≠ i ∧ bs[j]? = some c) := by
  have hl := (List.getElem?_eq_some_iff.1 hb).1
  rw [List.getElem?_set] at h
  by_cases hij : i = j
  · subst hij
    rw [if_pos rfl, if_pos hl] at h
    exact .inl ⟨rfl, (Option.some.inj h).symm⟩
  · rw [if_neg hij] at h
    exact .inr ⟨fun e => hij e.symm, h⟩
theorem set_same {bs : List Bk} {i : Nat} {b b' : Bk} (hb : bs[i]? = some b) : (bs.set i b')[i]? = some b' := by
  have hl := (List.getElem?_eq_some_iff.1 hb).1
  rw [List.getElem?_set, if_pos rfl, if_pos hl]
theorem set_other {bs : List Bk} {i j : Nat} {b' : Bk} (h : j ≠ i) : (bs.set i b')[j]? = bs[j]? := by
  rw [List.getElem?_set, if_neg fun e => h e.symm]
end Go.Proofs.Ytmipgpkeegggpaa.P
