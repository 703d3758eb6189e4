/- Tokens stand one behind the other; what is at their places begins them. -/
import Derived.Test.YtbciecmikcloaaaDoorLxM
namespace Go.Proofs.YtbciecmikcloaaaDoor.Lx
set_option linter.unusedVariables false
/-- Behind blanks there are none. -/
theorem blk_idem : ∀ (c : Bool) (l : List UInt8), blk false (l.drop (blk c l).1) = (0, false)
  | c, [] => by cases c <;> rfl
  | true, x :: l => by
    have h1 := blk_idem false l; have h2 := blk_idem true l
    by_cases a : x.toNat = 10
    · have e : blk true (x :: l) = ((blk false l).1 + 1, true) := by rw [blk, if_pos a]
      rw [e]; exact h1
    · have e : blk true (x :: l) = ((blk true l).1 + 1, (blk true l).2) := by rw [blk, if_neg a]
      rw [e]; exact h2
  | false, x :: l => by
    have h1 := blk_idem false l; have h2 := blk_idem true l
    by_cases a : x.toNat = 10
    · rw [blk, if_pos a]; simpa using h1
    · by_cases b : x.toNat = 9 ∨ x.toNat = 13 ∨ x.toNat = 32
      · rw [blk, if_neg a, if_pos b]; simpa using h1
      · by_cases d : x.toNat = 47 ∧ (l.head?.map (·.toNat)) = some 47
        · rw [blk, if_neg a, if_neg b, if_pos d]; simpa using h2
        · rw [blk, if_neg a, if_neg b, if_neg d]
          rw [List.drop_zero, blk, if_neg a, if_neg b, if_neg d]
/-- What is at a token's place begins it. -/
theorem tok_again (l : List UInt8) (p : Nat) : (tok l (tok l p).a).k = (tok l p).k ∧ (tok l (tok l p).a).a = (tok l p).a := by
  have ha : (tok l p).a = p + (blk false (l.drop p)).1 := by
    unfold tok; cases piece _ <;> rfl
  rw [ha]
  have hi := blk_idem false (l.drop p)
  rw [List.drop_drop] at hi
  have e : tok l (p + (blk false (l.drop p)).1) = tokOf (p + (blk false (l.drop p)).1) false (piece (l.drop (p + (blk false (l.drop p)).1))) := by
    unfold tok
    rw [hi]; rfl
  rw [e]
  unfold tok
  cases piece _ <;> exact ⟨rfl, rfl⟩
/-- A piece's text stands there, but for a quoted one. -/
theorem piece_text_ok {l : List UInt8} {q : Pc} (h : piece l = some q) (hk : q.k ≠ 2) : q.t.length ≤ l.length ∧ l.take q.t.length = q.t := by
  unfold piece at h
  rw [Option.or_eq_some_iff] at h
  rcases h with h | ⟨_, h⟩
  · unfold pEnd at h
    split at h
    · cases h; exact ⟨by simp, by simp⟩
    · cases h
  rw [Option.or_eq_some_iff] at h
  rcases h with h | ⟨_, h⟩
  · unfold pNum at h
    split at h
    · cases h
      have hl := hd_le digit l
      have e : (l.take (hd digit l)).length = hd digit l := by rw [List.length_take]; omega
      exact ⟨by rw [e]; exact hl, by rw [e]⟩
    · cases h
  rw [Option.or_eq_some_iff] at h
  rcases h with h | ⟨_, h⟩
  · unfold pTxt at h
    split at h
    · cases h
    · split at h
      · obtain ⟨r, h1, rfl⟩ := Option.map_eq_some_iff.1 h
        exact absurd rfl hk
      · cases h
  rw [Option.or_eq_some_iff] at h
  rcases h with h | ⟨_, h⟩
  · unfold pNam at h
    split at h
    · cases h
      have hl := hd_le ofName l
      have e : (l.take (hd ofName l)).length = hd ofName l := by rw [List.length_take]; omega
      exact ⟨by rw [e]; exact hl, by rw [e]⟩
    · cases h
  · unfold pSgn at h
    have hp := sgn_pre l
    generalize sgn l = S at *
    split at h
    · cases h
    · rename_i e
      obtain rfl := Option.some.inj h
      exact isPre_le (hp.resolve_left e)
theorem tok_text (l : List UInt8) (p : Nat) (hp : p ≤ l.length) (hk : (tok l p).k ≠ 2) : (tok l p).a + (tok l p).t.length ≤ l.length ∧ (l.drop (tok l p).a).take (tok l p).t.length = (tok l p).t := by
  have hb := blk_le false (l.drop p)
  rw [List.length_drop] at hb
  unfold tok at *
  generalize (blk false (l.drop p)).1 = b at *
  generalize (blk false (l.drop p)).2 = ln at *
  cases hq : piece (l.drop (p + b)) with
  | none => simp only [tokOf]; exact ⟨by simp; omega, by simp⟩
  | some q =>
    rw [hq] at hk
    simp only [tokOf] at hk ⊢
    obtain ⟨h1, h2⟩ := piece_text_ok hq hk
    rw [List.length_drop] at h1
    refine ⟨?_, h2⟩
    rcases Nat.eq_zero_or_pos q.t.length with e | e <;> omega
theorem run_ne (l : List UInt8) : ∀ (f p : Nat), run l f p ≠ []
  | 0, p => by simp [run]
  | f + 1, p => by unfold run; split <;> simp
/-- All that is known of the tokens in a row. -/
theorem run_rows (l : List UInt8) : ∀ (f p : Nat), p ≤ l.length → l.length < p + f → ∀ i (h : i < (run l f p).length),
    ∃ q, p ≤ q ∧ q ≤ l.length ∧ (run l f p)[i] = tok l q ∧ (((run l f p)[i].k = 0 ∨ (run l f p)[i].k = 6) ↔ i + 1 = (run l f p).length) ∧ ∀ (h2 : i + 1 < (run l f p).length), (run l f p)[i].a < (run l f p)[i + 1].a
  | 0, p, hp, hf, i, h => by omega
  | f + 1, p, hp, hf, i, h => by
    have hok := tok_ok l p hp
    by_cases hend : (tok l p).k = 0 ∨ (tok l p).k = 6
    · have e : run l (f + 1) p = [tok l p] := by unfold run; rw [if_pos hend]
      simp only [e] at h ⊢
      have h0 : i = 0 := by simpa using h
      subst h0
      exact ⟨p, Nat.le_refl _, hp, rfl, by simp [hend], fun h2 => by simp at h2⟩
    · have e : run l (f + 1) p = tok l p :: run l f (tok l p).e := by conv => lhs; unfold run; rw [if_neg hend]
      have h5 := hok.2.2.2.2.1 (fun h => hend (.inl h)) (fun h => hend (.inr h))
      have ih := run_rows l f (tok l p).e (by omega) (by omega)
      have hne := List.length_pos_iff.2 (run_ne l f (tok l p).e)
      simp only [e] at h ⊢
      cases i with
      | zero =>
        refine ⟨p, Nat.le_refl _, hp, rfl, ?_, fun h2 => ?_⟩
        · simp only [List.getElem_cons_zero, List.length_cons]
          exact ⟨fun h => absurd h hend, fun h => by omega⟩
        · obtain ⟨q, h1, h3, h4, _⟩ := ih 0 hne
          have hq := tok_ok l q h3
          simp only [List.getElem_cons_zero, List.getElem_cons_succ, h4]; omega
      | succ i =>
        obtain ⟨q, h1, h3, h4, h6, h7⟩ := ih i (by simpa using h)
        refine ⟨q, by omega, h3, by simpa using h4, ?_, fun h2 => ?_⟩
        · simp only [List.getElem_cons_succ, List.length_cons, Nat.add_right_cancel_iff]
          exact h6
        · simp only [List.getElem_cons_succ]
          exact h7 (by simpa using h2)
end Go.Proofs.YtbciecmikcloaaaDoor.Lx
