-- PROVED: books, their pages and families in memory, and what becomes of them.
import Derived.Test.YtmipgpkeegggpaaPMath
import Derived.Test.YtmipgpkeegggpaaRows
import Derived.WalkSpells
import Derived.WalkLawsBesides
import Derived.Lib.BufferMore
namespace Go.Proofs.Ytmipgpkeegggpaa.P
open Go.RowKit
set_option linter.unusedVariables false
/-- From w to w' only blocks from base on, of types out of S, turned, and new ones came. -/
structure Keep (S : List TypeId) (base : Nat) (w w' : World) : Prop where
  bel : Below base w w'
  same : ∀ (k : Nat) (arr : Array Value) (T : TypeId) (fz : Nat × Nat), w.heap[k]? = some (.cells arr T fz) → T ∉ S → w'.heap[k]? = w.heap[k]?
theorem heap_lt {w : World} {k : Nat} {o : Obj} (h : w.heap[k]? = some o) : k < w.heap.size := by
  rcases Nat.lt_or_ge k w.heap.size with hg | hg
  · exact hg
  · rw [Array.getElem?_eq_none hg] at h; cases h
theorem Keep.refl (S : List TypeId) (base : Nat) (w : World) : Keep S base w w := ⟨Below.refl _ _, fun _ _ _ _ _ _ => rfl⟩
theorem Keep.trans {S : List TypeId} {base : Nat} {a b c : World} (h : Keep S base a b) (k : Keep S base b c) : Keep S base a c :=
  ⟨h.bel.trans k.bel, fun i arr T fz hi hT => by
    have h1 := h.same i arr T fz hi hT
    exact (k.same i arr T fz (h1.trans hi) hT).trans h1⟩
theorem Keep.mono {S S' : List TypeId} {base : Nat} {a b : World} (h : Keep S base a b) (hs : ∀ T, T ∈ S → T ∈ S') : Keep S' base a b :=
  ⟨h.bel, fun k arr T fz hk hT => h.same k arr T fz hk fun e => hT (hs T e)⟩
theorem Keep.alloc {S : List TypeId} {base : Nat} {a w : World} (h : Keep S base a w) (hb : base ≤ w.heap.size) (o : Obj) : Keep S base a (w.alloc o) :=
  h.trans ⟨(Below.refl _ _).alloc hb _, fun k arr T fz hk _ => Below.heap_alloc _ _ _ (heap_lt hk)⟩
theorem Keep.drew {S : List TypeId} {base : Nat} {a w : World} (h : Keep S base a w) : Keep S base a w.drew :=
  h.trans ⟨(Below.refl _ _).drew, fun _ _ _ _ _ _ => rfl⟩
theorem Keep.below {S : List TypeId} {base : Nat} {a w w' : World} (h : Keep S base a w) (hb : base ≤ w.heap.size) (k : Below w.heap.size w w') : Keep S base a w' :=
  h.trans ⟨k.mono hb, fun i arr T fz hi _ => k.block i (heap_lt hi)⟩
theorem heap_set_ne {w : World} {a : Addr} {v : Value} {k : Nat} (h : k ≠ a.block) : (w.setCell a v).heap[k]? = w.heap[k]? := Below.heap_setCell _ _ _ _ h
theorem size_set (w : World) (a : Addr) (v : Value) : (w.setCell a v).heap.size = w.heap.size := by simp [World.setCell]
theorem type_ne {w : World} {k k' : Nat} {arr arr' : Array Value} {T T' : TypeId} {fz fz' : Nat × Nat} (h : w.heap[k]? = some (.cells arr T fz)) (h' : w.heap[k']? = some (.cells arr' T' fz')) (hT : T ≠ T') : k ≠ k' := fun e => by
  subst e
  rw [h] at h'
  injection h' with h1
  injection h1 with _ h2 _
  exact hT h2
theorem Keep.set {S : List TypeId} {base : Nat} {a w : World} (h : Keep S base a w) {p : Addr} {arr : Array Value} {T : TypeId} {fz : Nat × Nat} (hp : w.heap[p.block]? = some (.cells arr T fz)) (hT : T ∈ S) (hb : base ≤ p.block) (v : Value) : Keep S base a (w.setCell p v) :=
  h.trans ⟨(Below.refl _ _).setCell hb _, fun k arr' T' fz' hk hT' => heap_set_ne (type_ne hk hp fun e => hT' (e ▸ hT))⟩
theorem Keep.grown {S : List TypeId} {base : Nat} {a w w' : World} {row : Option Nat} (h : Keep S base a w) (hg : w.grownBy w' row) (hb : base ≤ w.heap.size) (hr : ∀ k, row = some k → base ≤ k ∧ ∃ arr T fz, w.heap[k]? = some (.cells arr T fz) ∧ T ∈ S) : Keep S base a w' :=
  h.trans ⟨(Below.refl _ _).grown hg hb (fun k hk => (hr k hk).1), fun k arr' T' fz' hk hT' => hg.block k (heap_lt hk) fun e => by
    obtain ⟨_, arr, T, fz, h1, h2⟩ := hr k e.symm
    exact (type_ne hk h1 fun e => hT' (e ▸ h2)) rfl⟩
theorem Keep.size {S : List TypeId} {base : Nat} {a b : World} (h : Keep S base a b) : a.heap.size ≤ b.heap.size := h.bel.size
/-- The types of what may be turned: neither texts nor values of cells. -/
def Mine (T : TypeId) : Prop := T ≠ 9 ∧ T ≠ 46
/-- A block that no book turns. -/
def Fixed (base : Nat) (w : World) (k : Nat) : Prop := (k < base ∧ k < w.heap.size) ∨ ∃ arr T fz, w.heap[k]? = some (.cells arr T fz) ∧ ¬ Mine T
theorem Fixed.lt {base : Nat} {w : World} {k : Nat} (h : Fixed base w k) : k < w.heap.size := h.elim (·.2) fun ⟨_, _, _, h, _⟩ => heap_lt h
theorem Keep.fixed {S : List TypeId} {base : Nat} {w w' : World} {k : Nat} (h : Keep S base w w') (hS : ∀ T, T ∈ S → Mine T) (hk : Fixed base w k) : w'.heap[k]? = w.heap[k]? ∧ Fixed base w' k := by
  rcases hk with ⟨h1, h2⟩ | ⟨arr, T, fz, h1, h2⟩
  · exact ⟨h.bel.block k h1, .inl ⟨h1, Nat.lt_of_lt_of_le h2 h.size⟩⟩
  · have e := h.same k arr T fz h1 fun e => h2 (hS T e)
    exact ⟨e, .inr ⟨arr, T, fz, e.trans h1, h2⟩⟩
def Texts (base : Nat) (w : World) (v : Value) (L : List ByteArray) : Prop :=
  ∃ a cap, v = .slice a L.length cap ∧ L.length ≤ cap ∧ (L.length = 0 ∨ ∃ b off, a = some ⟨b, off, none⟩ ∧ Fixed base w b ∧ ∀ j (h : j < L.length), w.cell? ⟨b, off + j, none⟩ = some (.string L[j]))
def Vals (base : Nat) (w : World) (v : Value) (L : List Vl) : Prop :=
  ∃ a cap, v = .slice a L.length cap ∧ L.length ≤ cap ∧ (L.length = 0 ∨ ∃ b off, a = some ⟨b, off, none⟩ ∧ Fixed base w b ∧ ∀ j (h : j < L.length),
    w.cell? ⟨b, off + j * 3, none⟩ = some (.int .i64 L[j].kind) ∧ w.cell? ⟨b, off + j * 3 + 1, none⟩ = some (.int .i64 L[j].n) ∧ w.cell? ⟨b, off + j * 3 + 2, none⟩ = some (.string L[j].s))
theorem Texts.keep {S : List TypeId} {base : Nat} {w w' : World} {v : Value} {L : List ByteArray} (h : Texts base w v L) (k : Keep S base w w') (hS : ∀ T, T ∈ S → Mine T) : Texts base w' v L := by
  obtain ⟨a, cap, h1, h2, h3⟩ := h
  refine ⟨a, cap, h1, h2, h3.imp id ?_⟩
  rintro ⟨b, off, h4, h5, h6⟩
  obtain ⟨e, h5'⟩ := k.fixed hS h5
  exact ⟨b, off, h4, h5', fun j hj => (World.cell?_of_block (a := ⟨b, off + j, none⟩) e).trans (h6 j hj)⟩
theorem Vals.keep {S : List TypeId} {base : Nat} {w w' : World} {v : Value} {L : List Vl} (h : Vals base w v L) (k : Keep S base w w') (hS : ∀ T, T ∈ S → Mine T) : Vals base w' v L := by
  obtain ⟨a, cap, h1, h2, h3⟩ := h
  refine ⟨a, cap, h1, h2, h3.imp id ?_⟩
  rintro ⟨b, off, h4, h5, h6⟩
  obtain ⟨e, h5'⟩ := k.fixed hS h5
  exact ⟨b, off, h4, h5', fun j hj => ⟨(World.cell?_of_block (a := ⟨b, off + j * 3, none⟩) e).trans (h6 j hj).1, (World.cell?_of_block (a := ⟨b, off + j * 3 + 1, none⟩) e).trans (h6 j hj).2.1, (World.cell?_of_block (a := ⟨b, off + j * 3 + 2, none⟩) e).trans (h6 j hj).2.2⟩⟩
theorem Texts.nil (base : Nat) (w : World) : Texts base w (.slice none 0 0) [] := ⟨none, 0, rfl, Nat.le_refl _, .inl rfl⟩
theorem Vals.nil (base : Nat) (w : World) : Vals base w (.slice none 0 0) [] := ⟨none, 0, rfl, Nat.le_refl _, .inl rfl⟩
/-- A cell's two lists. -/
def Parts (base : Nat) (w : World) (vK vV : Value) (c : Cl) : Prop := Texts base w vK c.keys ∧ Vals base w vV c.vals ∧ c.keys.length ≤ 1000 ∧ c.vals.length ≤ 1000
theorem Parts.keep {S : List TypeId} {base : Nat} {w w' : World} {vK vV : Value} {c : Cl} (h : Parts base w vK vV c) (k : Keep S base w w') (hS : ∀ T, T ∈ S → Mine T) : Parts base w' vK vV c := ⟨h.1.keep k hS, h.2.1.keep k hS, h.2.2⟩
theorem Parts.nil (base : Nat) (w : World) (k a b : Int) : Parts base w (.slice none 0 0) (.slice none 0 0) ⟨k, a, b, [], []⟩ := ⟨Texts.nil _ _, Vals.nil _ _, by simp, by simp⟩
/-- Place k of a page is c. -/
def CellAt (base : Nat) (w : World) (arr : Array Value) (k : Nat) (c : Cl) : Prop :=
  ∃ vK vV, arr[k * 5]? = some (.int .i64 c.kind) ∧ arr[k * 5 + 1]? = some (.int .i64 c.a) ∧ arr[k * 5 + 2]? = some (.int .i64 c.b) ∧ arr[k * 5 + 3]? = some vK ∧ arr[k * 5 + 4]? = some vV ∧ Parts base w vK vV c
theorem CellAt.keep {S : List TypeId} {base : Nat} {w w' : World} {arr : Array Value} {i : Nat} {c : Cl} (h : CellAt base w arr i c) (k : Keep S base w w') (hS : ∀ T, T ∈ S → Mine T) : CellAt base w' arr i c := by
  obtain ⟨vK, vV, h0, h1, h2, h3, h4, h5⟩ := h
  exact ⟨vK, vV, h0, h1, h2, h3, h4, h5.keep k hS⟩
/-- A page with so many books, that has what l has from place o on. -/
def Page (base : Nat) (w : World) (p n : Nat) (l : List Cl) (o : Nat) : Prop :=
  ∃ arr, w.heap[p]? = some (.cells arr 90 (0, 0)) ∧ arr.size = 41 ∧ arr[40]? = some (.int .i64 (n : Int)) ∧ ∀ k, k < 8 → ∃ c, l[o + k]? = some c ∧ CellAt base w arr k c
theorem Page.keep {S : List TypeId} {base : Nat} {w w' : World} {p n : Nat} {l : List Cl} {o : Nat} (h : Page base w p n l o) (k : Keep S base w w') (hS : ∀ T, T ∈ S → Mine T) (hP : w'.heap[p]? = w.heap[p]?) : Page base w' p n l o := by
  obtain ⟨arr, h1, h2, h3, h4⟩ := h
  refine ⟨arr, hP.trans h1, h2, h3, fun i hi => ?_⟩
  obtain ⟨c, h5, h6⟩ := h4 i hi
  exact ⟨c, h5, h6.keep k hS⟩
/-- Pages and families of books; lv: how many pages each family is told to have. -/
structure PM (base : Nat) (w : World) (bs : List Bk) (lv : Nat → Nat) : Prop where
  page : ∀ (i : Nat) (b : Bk) (j p : Nat), bs[i]? = some b → b.pgs[j]? = some p → base ≤ p ∧ Page base w p (cnt bs p) b.slots (8 * j)
  nod : ∀ (i : Nat) (b : Bk), bs[i]? = some b → b.pgs.Nodup
  fam : ∀ (i : Nat) (b : Bk), bs[i]? = some b → base ≤ b.fam ∧ w.heap[b.fam]? = some (.cells #[.int .i64 (lv b.fam : Int)] 83 (0, 0))
  one : ∀ (i j : Nat) (b c : Bk) (p : Nat), bs[i]? = some b → bs[j]? = some c → p ∈ b.pgs → p ∈ c.pgs → b.fam = c.fam
def ptr (p : Nat) : Value := .pointer (some ⟨p, 0, none⟩)
def ptrs (l : List Nat) : List Value := l.map ptr
/-- Books and the rows of their pages. -/
structure BM (base : Nat) (w : World) (bs : List Bk) : Prop where
  book : ∀ (i : Nat) (b : Bk), bs[i]? = some b → base ≤ b.at_ ∧ w.heap[b.at_]? = some (.cells #[.bool b.opn, .int .i64 (b.len : Int), b.row, .pointer (some ⟨b.fam, 0, none⟩)] 86 (0, 0)) ∧ w.ownsRow base 87 1 b.row b.pgs.length (ptrs b.pgs)
  apart : ∀ (i j : Nat) (b c : Bk), bs[i]? = some b → bs[j]? = some c → i ≠ j → b.at_ ≠ c.at_ ∧ ∀ g, b.row.ownBlock = some g → c.row.ownBlock ≠ some g
theorem PM.keep' {S : List TypeId} {base : Nat} {w w' : World} {bs : List Bk} {lv : Nat → Nat} (h : PM base w bs lv) (k : Keep S base w w') (hS : ∀ T, T ∈ S → Mine T ∧ T ≠ 90 ∧ T ≠ 83) : PM base w' bs lv := by
  have hM : ∀ T, T ∈ S → Mine T := fun T hT => (hS T hT).1
  refine ⟨fun i b j p hb hp => ?_, h.nod, fun i b hb => ?_, h.one⟩
  · obtain ⟨h1, h2⟩ := h.page i b j p hb hp
    obtain ⟨arr, h3, _⟩ := h2
    exact ⟨h1, Page.keep (h.page i b j p hb hp).2 k hM (k.same p arr _ _ h3 fun e => (hS _ e).2.1 rfl)⟩
  · obtain ⟨h1, h2⟩ := h.fam i b hb
    exact ⟨h1, (k.same _ _ _ _ h2 fun e => (hS _ e).2.2 rfl).trans h2⟩
theorem PM.keep {S : List TypeId} {base : Nat} {w w' : World} {bs : List Bk} {lv : Nat → Nat} (h : PM base w bs lv) (k : Keep S base w w') (hS : ∀ T, T ∈ S → T = 86 ∨ T = 87) : PM base w' bs lv :=
  h.keep' k fun T hT => by rcases hS T hT with rfl | rfl <;> simp [Mine]
theorem own_same {w w' : World} {base n size : Nat} {e : TypeId} {v : Value} {xs : List Value} (h : w.ownsRow base e size v n xs) (k : ∀ g cur, v.ownBlock = some g → w.heap[g]? = some (.cells cur e (0, 0)) → w'.heap[g]? = w.heap[g]?) : w'.ownsRow base e size v n xs := by
  refine ⟨h.1, ?_⟩
  rcases h.2 with hn | ⟨g, cap, cur, rfl, hb, hgg, rest⟩
  · exact .inl hn
  · exact .inr ⟨g, cap, cur, rfl, hb, (k g cur rfl hgg).trans hgg, rest⟩
theorem BM.keep' {S : List TypeId} {base : Nat} {w w' : World} {bs : List Bk} (h : BM base w bs) (k : Keep S base w w') (hS : ∀ T, T ∈ S → T ≠ 86 ∧ T ≠ 87) : BM base w' bs := by
  refine ⟨fun i b hb => ?_, h.apart⟩
  obtain ⟨h1, h2, h3⟩ := h.book i b hb
  refine ⟨h1, (k.same _ _ _ _ h2 fun e => (hS _ e).1 rfl).trans h2, own_same h3 fun g cur _ hg => k.same _ _ _ _ hg fun e => (hS _ e).2 rfl⟩
theorem BM.keep {S : List TypeId} {base : Nat} {w w' : World} {bs : List Bk} (h : BM base w bs) (k : Keep S base w w') (hS : ∀ T, T ∈ S → T = 83 ∨ T = 90) : BM base w' bs :=
  h.keep' k fun T hT => by rcases hS T hT with rfl | rfl <;> simp
/-- A family's number is written. -/
theorem PM.number {base : Nat} {w : World} {bs : List Bk} {lv : Nat → Nat} (h : PM base w bs lv) {i : Nat} {b : Bk} (hb : bs[i]? = some b) (n : Nat) :
    PM base (w.setCell ⟨b.fam, 0, none⟩ (.int .i64 (n : Int))) bs (fun f => if f = b.fam then n else lv f) ∧ Keep [83] base w (w.setCell ⟨b.fam, 0, none⟩ (.int .i64 (n : Int))) := by
  obtain ⟨f1, f2⟩ := h.fam i b hb
  have kk : Keep [83] base w (w.setCell ⟨b.fam, 0, none⟩ (.int .i64 (n : Int))) := (Keep.refl _ _ _).set f2 (by simp) f1 _
  refine ⟨⟨fun i' b' j p hb' hp => ?_, h.nod, fun i' b' hb' => ?_, h.one⟩, kk⟩
  · obtain ⟨h1, h2⟩ := h.page i' b' j p hb' hp
    obtain ⟨arr, h3, _⟩ := h2
    exact ⟨h1, Page.keep (h.page i' b' j p hb' hp).2 kk (by simp [Mine]) (kk.same p arr _ _ h3 (by simp))⟩
  · obtain ⟨h1, h2⟩ := h.fam i' b' hb'
    refine ⟨h1, ?_⟩
    by_cases e : b'.fam = b.fam
    · rw [if_pos e, e, Lib.heap_setCell_same f2]; rfl
    · rw [if_neg e, heap_set_ne e]; exact h2
/-- How many books a page has is written. -/
theorem PM.recount {base : Nat} {w : World} {bs bs' : List Bk} {lv : Nat → Nat} (h : PM base w bs lv) {p : Nat} {arr : Array Value} (hp : w.heap[p]? = some (.cells arr 90 (0, 0))) (hB : base ≤ p) (n : Nat) (hs : arr.size = 41)
    (hpg : ∀ (i : Nat) (b : Bk) (j q : Nat), bs'[i]? = some b → b.pgs[j]? = some q → ∃ (i0 : Nat) (b0 : Bk) (j0 : Nat), bs[i0]? = some b0 ∧ b0.pgs[j0]? = some q ∧ ∀ k, k < 8 → b.slots[8 * j + k]? = b0.slots[8 * j0 + k]?)
    (hc : ∀ (i : Nat) (b : Bk) (q : Nat), bs'[i]? = some b → q ∈ b.pgs → cnt bs' q = if q = p then n else cnt bs q)
    (hn : ∀ (i : Nat) (b : Bk), bs'[i]? = some b → b.pgs.Nodup) (hf : ∀ (i : Nat) (b : Bk), bs'[i]? = some b → ∃ (i0 : Nat) (b0 : Bk), bs[i0]? = some b0 ∧ b0.fam = b.fam)
    (ho : ∀ (i j : Nat) (b c : Bk) (p : Nat), bs'[i]? = some b → bs'[j]? = some c → p ∈ b.pgs → p ∈ c.pgs → b.fam = c.fam) :
    PM base (w.setCell ⟨p, 40, none⟩ (.int .i64 (n : Int))) bs' lv ∧ Keep [90] base w (w.setCell ⟨p, 40, none⟩ (.int .i64 (n : Int))) := by
  have kk : Keep [90] base w (w.setCell ⟨p, 40, none⟩ (.int .i64 (n : Int))) := (Keep.refl _ _ _).set hp (by simp) hB _
  refine ⟨⟨fun i b j q hb hq => ?_, hn, fun i b hb => ?_, ho⟩, kk⟩
  · obtain ⟨i0, b0, j0, g1, g2, g3⟩ := hpg i b j q hb hq
    obtain ⟨h1, arr', h2, h3, h4, h5⟩ := h.page i0 b0 j0 q g1 g2
    refine ⟨h1, ?_⟩
    have hcq := hc i b q hb (List.mem_of_getElem? hq)
    by_cases e : q = p
    · subst e
      rw [if_pos rfl] at hcq
      rw [hp] at h2
      injection h2 with h2
      injection h2 with h2 _ _
      subst h2
      refine ⟨_, Lib.heap_setCell_same hp _, by simpa using h3, by rw [hcq]; simp [h3], fun k hk => ?_⟩
      obtain ⟨c, h6, h7⟩ := h5 k hk
      refine ⟨c, (g3 k hk).trans h6, ?_⟩
      obtain ⟨vK, vV, c0, c1, c2, c3, c4, c5⟩ := h7.keep kk (by simp [Mine])
      refine ⟨vK, vV, ?_, ?_, ?_, ?_, ?_, c5⟩ <;> rw [Array.getElem?_setIfInBounds_ne (by omega)] <;> assumption
    · rw [if_neg e] at hcq
      refine Page.keep (w := w) ?_ kk (by simp [Mine]) (heap_set_ne e)
      refine ⟨arr', h2, h3, by rw [hcq]; exact h4, fun k hk => ?_⟩
      obtain ⟨c, h6, h7⟩ := h5 k hk
      exact ⟨c, (g3 k hk).trans h6, h7⟩
  · obtain ⟨i0, b0, g1, g2⟩ := hf i b hb
    obtain ⟨h1, h2⟩ := h.fam i0 b0 g1
    rw [g2] at h1 h2
    exact ⟨h1, (kk.same _ _ _ _ h2 (by simp)).trans h2⟩
end Go.Proofs.Ytmipgpkeegggpaa.P
