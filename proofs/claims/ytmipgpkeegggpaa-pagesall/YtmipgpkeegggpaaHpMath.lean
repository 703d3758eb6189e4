-- PROVED: where roots lead to, by numbers (6.2): a list that is gone through tells all that is reached.
import Derived.Test.YtmipgpkeegggpaaPMath
namespace Go.Proofs.Ytmipgpkeegggpaa.Hq
set_option linter.unusedVariables false
inductive Rch (n : Nat) (R : List Int) (out : Nat → List Int) : Nat → Prop
  | root {x : Nat} : (x : Int) ∈ R → 1 ≤ x → x ≤ n → Rch n R out x
  | step {y x : Nat} : Rch n R out y → (x : Int) ∈ out y → 1 ≤ x → x ≤ n → Rch n R out x
def On (S : List Bool) (x : Nat) : Prop := 1 ≤ x ∧ S[x - 1]? = some true
def go1 (p : List Bool × List Nat) (x : Int) : List Bool × List Nat :=
  if 1 ≤ x ∧ x ≤ p.1.length ∧ p.1[x.toNat - 1]? = some false then (p.1.set (x.toNat - 1) true, p.2 ++ [x.toNat]) else p
def goA (p : List Bool × List Nat) (xs : List Int) : List Bool × List Nat := xs.foldl go1 p
theorem goA_app (p : List Bool × List Nat) (xs ys : List Int) : goA p (xs ++ ys) = goA (goA p xs) ys := by simp [goA]
theorem goA_one (p : List Bool × List Nat) (x : Int) : goA p [x] = go1 p x := rfl
theorem On.le {S : List Bool} {x : Nat} (h : On S x) : x ≤ S.length := by
  obtain ⟨h1, h2⟩ := h
  rcases Nat.lt_or_ge (x - 1) S.length with h | h
  · omega
  · rw [List.getElem?_eq_none h] at h2; cases h2
theorem falses_set : ∀ (S : List Bool) (i : Nat), S[i]? = some false → (S.set i true).count false + 1 = S.count false
  | [], i, h => by simp at h
  | b :: S, 0, h => by simp at h; subst h; simp
  | b :: S, i + 1, h => by
    have := falses_set S i (by simpa using h)
    simp [List.count_cons]
    omega
structure Adv (p q : List Bool × List Nat) (xs : List Int) : Prop where
  len : q.1.length = p.1.length
  mono : ∀ x, On p.1 x → On q.1 x
  new : ∀ x, On q.1 x → On p.1 x ∨ ((x : Int) ∈ xs ∧ x ∈ q.2)
  hit : ∀ x : Nat, (x : Int) ∈ xs → 1 ≤ x → x ≤ p.1.length → On q.1 x
  todo : ∀ x, x ∈ q.2 → x ∈ p.2 ∨ On q.1 x
  old : ∀ x, x ∈ p.2 → x ∈ q.2
  meas : 2 * q.1.count false + q.2.length ≤ 2 * p.1.count false + p.2.length
theorem Adv.refl (p : List Bool × List Nat) : Adv p p [] := ⟨rfl, fun _ h => h, fun _ h => .inl h, fun x h => by simp at h, fun _ h => .inl h, fun _ h => h, Nat.le_refl _⟩
theorem Adv.trans {p q r : List Bool × List Nat} {xs ys : List Int} (h : Adv p q xs) (k : Adv q r ys) : Adv p r (xs ++ ys) where
  len := k.len.trans h.len
  mono := fun x hx => k.mono x (h.mono x hx)
  new := fun x hx => by
    rcases k.new x hx with h1 | ⟨h1, h2⟩
    · rcases h.new x h1 with h3 | ⟨h3, h4⟩
      · exact .inl h3
      · exact .inr ⟨List.mem_append_left _ h3, k.old x h4⟩
    · exact .inr ⟨List.mem_append_right _ h1, h2⟩
  hit := fun x hx h1 h2 => by
    rcases List.mem_append.mp hx with h3 | h3
    · exact k.mono x (h.hit x h3 h1 h2)
    · exact k.hit x h3 h1 (by rw [h.len]; exact h2)
  todo := fun x hx => by
    rcases k.todo x hx with h1 | h1
    · rcases h.todo x h1 with h2 | h2
      · exact .inl h2
      · exact .inr (k.mono x h2)
    · exact .inr h1
  old := fun x hx => k.old x (h.old x hx)
  meas := Nat.le_trans k.meas h.meas
theorem go1_adv (p : List Bool × List Nat) (x : Int) : Adv p (go1 p x) [x] := by
  unfold go1
  split
  · next hc =>
    obtain ⟨h1, h2, h3⟩ := hc
    have hlt : x.toNat - 1 < p.1.length := by omega
    have hx : On (p.1.set (x.toNat - 1) true) x.toNat := ⟨by omega, by rw [List.getElem?_set_self hlt]⟩
    refine ⟨by simp, ?_, ?_, ?_, ?_, ?_, ?_⟩
    · rintro y ⟨hy1, hy2⟩
      by_cases he : y = x.toNat
      · subst he; exact hx
      · exact ⟨hy1, by show (p.1.set _ _)[_]? = _; rw [List.getElem?_set_ne (by omega)]; exact hy2⟩
    · rintro y ⟨hy1, hy2⟩
      by_cases he : y = x.toNat
      · subst he
        exact .inr ⟨by rw [Int.toNat_of_nonneg (by omega)]; simp, by simp⟩
      · left
        exact ⟨hy1, by have := hy2; rw [show (p.1.set (x.toNat - 1) true, p.2 ++ [x.toNat]).1 = p.1.set (x.toNat - 1) true from rfl, List.getElem?_set_ne (by omega)] at this; exact this⟩
    · intro y hy _ _
      have : y = x.toNat := by simp at hy; omega
      subst this
      exact hx
    · intro y hy
      rcases List.mem_append.mp hy with h | h
      · exact .inl h
      · simp at h; subst h; exact .inr hx
    · intro y hy; exact List.mem_append_left _ hy
    · have := falses_set p.1 _ h3
      simp
      omega
  · next hc =>
    refine ⟨rfl, fun _ h => h, fun _ h => .inl h, ?_, fun _ h => .inl h, fun _ h => h, Nat.le_refl _⟩
    intro y hy h1 h2
    simp at hy
    subst hy
    refine ⟨h1, ?_⟩
    have hlt : y - 1 < p.1.length := by omega
    rw [List.getElem?_eq_getElem hlt]
    cases hb : p.1[y - 1] with
    | true => rfl
    | false => exact absurd ⟨by omega, by omega, by rw [show ((y : Int).toNat - 1) = y - 1 by omega, List.getElem?_eq_getElem hlt, hb]⟩ hc
theorem goA_adv : ∀ (xs : List Int) (p : List Bool × List Nat), Adv p (goA p xs) xs
  | [], p => Adv.refl p
  | x :: xs, p => (go1_adv p x).trans (goA_adv xs (go1 p x))
structure Inv (n : Nat) (R : List Int) (out : Nat → List Int) (p : List Bool × List Nat) : Prop where
  len : p.1.length = n
  sound : ∀ x, On p.1 x → Rch n R out x
  closed : ∀ y, On p.1 y → y ∈ p.2 ∨ ∀ x : Nat, (x : Int) ∈ out y → 1 ≤ x → x ≤ n → On p.1 x
  todo : ∀ x, x ∈ p.2 → On p.1 x
  roots : ∀ x : Nat, (x : Int) ∈ R → 1 ≤ x → x ≤ n → On p.1 x
theorem On.none {n x : Nat} (h : On (List.replicate n false) x) : False := by
  have := h.le
  obtain ⟨h1, h2⟩ := h
  simp at this
  rw [List.getElem?_replicate] at h2
  split at h2 <;> simp at h2
theorem Inv.start (n : Nat) (R : List Int) (out : Nat → List Int) : Inv n R out (goA (List.replicate n false, []) R) := by
  have h := goA_adv R (List.replicate n false, [])
  have hl : (goA (List.replicate n false, []) R).1.length = n := by rw [h.len]; simp
  refine ⟨hl, ?_, ?_, ?_, ?_⟩
  · intro x hx
    rcases h.new x hx with h1 | ⟨h1, h2⟩
    · exact h1.none.elim
    · exact .root h1 hx.1 (hl ▸ hx.le)
  · intro y hy
    rcases h.new y hy with h1 | ⟨h1, h2⟩
    · exact h1.none.elim
    · exact .inl h2
  · intro x hx
    rcases h.todo x hx with h1 | h1
    · simp at h1
    · exact h1
  · intro x hx h1 h2
    exact h.hit x hx h1 (by simpa using h2)
theorem Inv.step {n : Nat} {R : List Int} {out : Nat → List Int} {S : List Bool} {T : List Nat} {x : Nat} (h : Inv n R out (S, T ++ [x])) : Inv n R out (goA (S, T) (out x)) := by
  have k := goA_adv (out x) (S, T)
  have hl : (goA (S, T) (out x)).1.length = n := by rw [k.len]; exact h.len
  have hx : On S x := h.todo x (by simp)
  refine ⟨hl, ?_, ?_, ?_, ?_⟩
  · intro y hy
    rcases k.new y hy with h1 | ⟨h1, h2⟩
    · exact h.sound y h1
    · exact .step (h.sound x hx) h1 hy.1 (hl ▸ hy.le)
  · intro y hy
    by_cases he : y = x
    · subst he
      exact .inr fun z hz h1 h2 => k.hit z hz h1 (by rw [show (S, T).1.length = n from h.len]; exact h2)
    · rcases k.new y hy with h1 | ⟨h1, h2⟩
      · rcases h.closed y h1 with h3 | h3
        · rcases List.mem_append.mp h3 with h4 | h4
          · exact .inl (k.old y h4)
          · simp at h4; exact absurd h4 he
        · exact .inr fun z hz a b => k.mono z (h3 z hz a b)
      · exact .inl h2
  · intro y hy
    rcases k.todo y hy with h1 | h1
    · exact k.mono y (h.todo y (List.mem_append_left _ h1))
    · exact h1
  · intro y hy h1 h2
    exact k.mono y (h.roots y hy h1 h2)
theorem Inv.done {n : Nat} {R : List Int} {out : Nat → List Int} {S : List Bool} (h : Inv n R out (S, [])) (x : Nat) : On S x ↔ Rch n R out x := by
  refine ⟨h.sound x, fun hr => ?_⟩
  induction hr with
  | root h1 h2 h3 => exact h.roots _ h1 h2 h3
  | step hy h1 h2 h3 ih =>
    rcases h.closed _ ih with h4 | h4
    · simp at h4
    · exact h4 _ h1 h2 h3
theorem Inv.meas {n : Nat} {R : List Int} {out : Nat → List Int} {S : List Bool} {T : List Nat} {x : Nat} : 2 * (goA (S, T) (out x)).1.count false + (goA (S, T) (out x)).2.length < 2 * S.count false + (T ++ [x]).length := by
  have := (goA_adv (out x) (S, T)).meas
  simp at this ⊢
  omega
/-- The addresses, rising. -/
def addrs (S : List Bool) : List Nat := (List.range S.length).filterMap fun i => if S[i]? = some true then some (i + 1) else none
def addT (S : List Bool) (j : Nat) : List Nat := (List.range j).filterMap fun i => if S[i]? = some true then some (i + 1) else none
theorem addT_zero (S : List Bool) : addT S 0 = [] := rfl
theorem addT_succ (S : List Bool) (j : Nat) : addT S (j + 1) = addT S j ++ if S[j]? = some true then [j + 1] else [] := by
  unfold addT
  rw [List.range_succ, List.filterMap_append]
  congr 1
  by_cases h : S[j]? = some true
  · simp [h]
  · simp [h]
theorem addT_le (S : List Bool) : ∀ j, (addT S j).length ≤ j
  | 0 => by simp [addT]
  | j + 1 => by
    have := addT_le S j
    rw [addT_succ, List.length_append]
    split <;> simp <;> omega
theorem addT_all (S : List Bool) : addT S S.length = addrs S := rfl
theorem addT_congr {S S' : List Bool} {j : Nat} (h : ∀ x, 1 ≤ x → x ≤ j → (On S x ↔ On S' x)) : addT S j = addT S' j := by
  induction j with
  | zero => rfl
  | succ j ih =>
    rw [addT_succ, addT_succ, ih fun x h1 h2 => h x h1 (by omega)]
    have := h (j + 1) (by omega) (by omega)
    unfold On at this
    simp at this
    simp [this]
end Go.Proofs.Ytmipgpkeegggpaa.Hq
