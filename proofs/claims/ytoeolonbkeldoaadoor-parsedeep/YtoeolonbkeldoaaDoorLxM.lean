/- Words of a program, by lists of bytes: what a piece takes, and that tokens go on. -/
import Derived.Test.YtoeolonbkeldoaaDoorLxL
namespace Go.Proofs.YtoeolonbkeldoaaDoor.Lx
set_option linter.unusedVariables false
theorem hd_pos {p : UInt8 → Bool} {l : List UInt8} (h : beg p l = true) : 1 ≤ hd p l := by
  cases l with
  | nil => simp [beg] at h
  | cons c l =>
    have hc : p c = true := h
    unfold hd
    rw [if_pos hc]; omega
theorem beg_or {p q : UInt8 → Bool} {l : List UInt8} (h : beg p l = true) (hpq : ∀ c, p c = true → q c = true) : beg q l = true := by
  cases l with
  | nil => simp [beg] at h
  | cons c l => exact hpq c h
theorem quo_le : ∀ (n : Nat) (l : List UInt8) (r : List UInt8 × Nat), l.length ≤ n → quo l = some r → 1 ≤ r.2 ∧ r.2 ≤ l.length
  | _, [], r, _, h => by simp [quo] at h
  | _, [c], r, _, h => by
    unfold quo at h
    split at h
    · cases h; simp
    · cases h
  | 0, c :: d :: l, r, hn, h => by simp at hn
  | n + 1, c :: d :: l, r, hn, h => by
    simp only [List.length_cons] at hn
    unfold quo at h
    split at h
    · cases h; simp
    · split at h
      · split at h
        · obtain ⟨r', h1, rfl⟩ := Option.map_eq_some_iff.1 h
          have := quo_le n l r' (by omega) h1
          simp; omega
        · split at h
          · obtain ⟨r', h1, rfl⟩ := Option.map_eq_some_iff.1 h
            have := quo_le n l r' (by omega) h1
            simp; omega
          · cases h
      · split at h
        · obtain ⟨r', h1, rfl⟩ := Option.map_eq_some_iff.1 h
          have := quo_le n (d :: l) r' (by simp; omega) h1
          simp at this ⊢; omega
        · cases h
theorem sgn_fold (l : List UInt8) : ∀ (L : List (List UInt8)) (a : List UInt8), (a = [] ∨ isPre a l = true) → (L.foldl (longer l) a = [] ∨ isPre (L.foldl (longer l) a) l = true)
  | [], a, h => h
  | s :: L, a, h => by
    refine sgn_fold l L (longer l a s) ?_
    unfold longer
    split
    · rename_i h1; exact .inr h1.2
    · exact h
theorem sgn_pre (l : List UInt8) : sgn l = [] ∨ isPre (sgn l) l = true := sgn_fold l signs [] (.inl rfl)
theorem isPre_le {s l : List UInt8} (h : isPre s l = true) : s.length ≤ l.length ∧ l.take s.length = s := by
  unfold isPre at h; simpa using h
/-- What a piece is: it lies within; all but the end take a byte at least. -/
theorem piece_ok {l : List UInt8} {q : Pc} (h : piece l = some q) : q.z ≤ l.length ∧ q.k ≤ 5 ∧ (q.k = 0 → l = []) ∧ (q.k ≠ 0 → 1 ≤ q.z) := by
  unfold piece at h
  rw [Option.or_eq_some_iff] at h
  rcases h with h | ⟨_, h⟩
  · unfold pEnd at h
    split at h
    · cases h; rename_i e; simp [e]
    · cases h
  rw [Option.or_eq_some_iff] at h
  rcases h with h | ⟨_, h⟩
  · unfold pNum at h
    split at h
    · cases h
      rename_i e
      have hl := hd_le digit l
      refine ⟨hl, by show 1 ≤ 5; omega, (fun e => by cases e), fun _ => ?_⟩
      rcases Nat.eq_zero_or_pos (hd digit l) with e0 | e0
      · rw [e0] at e; simp [valB] at e
      · exact e0
    · cases h
  rw [Option.or_eq_some_iff] at h
  rcases h with h | ⟨_, h⟩
  · unfold pTxt at h
    split at h
    · cases h
    · split at h
      · obtain ⟨r, h1, rfl⟩ := Option.map_eq_some_iff.1 h
        have := quo_le _ _ _ (Nat.le_refl _) h1
        simp; omega
      · cases h
  rw [Option.or_eq_some_iff] at h
  rcases h with h | ⟨_, h⟩
  · unfold pNam at h
    split at h
    · rename_i e
      have e2 : beg ofName l = true := beg_or e (fun c hc => by unfold ofName; rw [hc]; rfl)
      have := hd_pos e2
      have hl := hd_le ofName l
      cases h
      refine ⟨hl, by show (if _ then 4 else 3) ≤ 5; split <;> omega, (fun e => by revert e; show (if _ then 4 else 3) = 0 → _; split <;> (intro e; cases e)), fun _ => this⟩
    · cases h
  · unfold pSgn at h
    have hp := sgn_pre l
    generalize sgn l = S at *
    split at h
    · cases h
    · rename_i e
      have := (isPre_le (hp.resolve_left e)).1
      have hl : 1 ≤ S.length := List.length_pos_iff.2 e
      obtain rfl := Option.some.inj h
      exact ⟨this, Nat.le_refl _, fun e => absurd (show (5 : Nat) = 0 from e) (by decide), fun _ => hl⟩
theorem tok_ok (l : List UInt8) (p : Nat) (hp : p ≤ l.length) : p ≤ (tok l p).a ∧ (tok l p).a ≤ (tok l p).e ∧ (tok l p).e ≤ l.length ∧ (tok l p).k ≤ 6 ∧ ((tok l p).k ≠ 0 → (tok l p).k ≠ 6 → (tok l p).a < (tok l p).e) ∧ ((tok l p).k = 0 → (tok l p).a = l.length) := by
  have h := blk_le false (l.drop p)
  rw [List.length_drop] at h
  unfold tok
  generalize (blk false (l.drop p)).1 = b at *
  generalize (blk false (l.drop p)).2 = ln at *
  cases hq : piece (l.drop (p + b)) with
  | none =>
    simp only [tokOf]
    refine ⟨by omega, by omega, by omega, by omega, fun _ e => absurd rfl e, fun e => by cases e⟩
  | some q =>
    obtain ⟨h1, h2, h3, h4⟩ := piece_ok hq
    rw [List.length_drop] at h1
    simp only [tokOf]
    refine ⟨by omega, by omega, by omega, by omega, fun e _ => by have := h4 e; omega, fun e => ?_⟩
    have := h3 e
    have := congrArg List.length this
    rw [List.length_drop] at this
    simp at this; omega
/-- More than enough is enough. -/
theorem run_more (l : List UInt8) : ∀ (f g p : Nat), p ≤ l.length → l.length < p + f → l.length < p + g → run l f p = run l g p
  | 0, g, p, hp, hf, hg => by omega
  | f + 1, 0, p, hp, hf, hg => by omega
  | f + 1, g + 1, p, hp, hf, hg => by
    unfold run
    split
    · rfl
    · rename_i h
      have := tok_ok l p hp
      have h5 := this.2.2.2.2.1 (fun e => h (.inl e)) (fun e => h (.inr e))
      rw [run_more l f g _ (by omega) (by omega) (by omega)]
theorem all_step (l : List UInt8) (p : Nat) (hp : p ≤ l.length) : run l (l.length + 1) p = if (tok l p).k = 0 ∨ (tok l p).k = 6 then [tok l p] else tok l p :: run l (l.length + 1) (tok l p).e := by
  show (if _ then _ else _) = _
  split
  · rfl
  · rename_i h
    have := tok_ok l p hp
    have h5 := this.2.2.2.2.1 (fun e => h (.inl e)) (fun e => h (.inr e))
    rw [run_more l l.length (l.length + 1) _ (by omega) (by omega) (by omega)]
end Go.Proofs.YtoeolonbkeldoaaDoor.Lx
