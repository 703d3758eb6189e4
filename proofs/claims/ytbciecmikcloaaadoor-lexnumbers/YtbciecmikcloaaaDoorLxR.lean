/- Words of a program, by lists of bytes: what stands first decides what kind of piece it is; signs, the longest ones first. -/
import Derived.Test.YtbciecmikcloaaaDoorLxM
namespace Go.Proofs.YtbciecmikcloaaaDoor.Lx
set_option linter.unusedVariables false
def osigns : List (List UInt8) := [[61,61,61],[33,61,61],[60,61],[62,61],[38,38],[124,124],[123],[125],[40],[41],[91],[93],[59],[44],[46],[63],[58],[61],[60],[62],[43],[45],[42],[47],[37],[33]]
def fst (l : List UInt8) : Option (List UInt8) := osigns.find? fun s => isPre s l
theorem fold_mem (l : List UInt8) : ∀ (L : List (List UInt8)) (a : List UInt8), L.foldl (longer l) a = a ∨ (L.foldl (longer l) a ∈ L ∧ isPre (L.foldl (longer l) a) l = true)
  | [], a => .inl rfl
  | s :: L, a => by
    have h := fold_mem l L (longer l a s)
    rw [List.foldl_cons]
    rcases h with h | h
    · rw [h]
      unfold longer
      split
      · rename_i h1; exact .inr ⟨List.mem_cons_self, h1.2⟩
      · exact .inl rfl
    · exact .inr ⟨List.mem_cons_of_mem _ h.1, h.2⟩
theorem fold_ge (l : List UInt8) : ∀ (L : List (List UInt8)) (a : List UInt8), a.length ≤ (L.foldl (longer l) a).length ∧ ∀ s ∈ L, isPre s l = true → s.length ≤ (L.foldl (longer l) a).length
  | [], a => ⟨Nat.le_refl _, fun s h => by cases h⟩
  | t :: L, a => by
    obtain ⟨h1, h2⟩ := fold_ge l L (longer l a t)
    rw [List.foldl_cons]
    have h3 : a.length ≤ (longer l a t).length := by unfold longer; split <;> omega
    refine ⟨by omega, fun s hs hp => ?_⟩
    rcases List.mem_cons.1 hs with rfl | hs
    · have h4 : s.length ≤ (longer l a s).length := by
        unfold longer
        split
        · exact Nat.le_refl _
        · rename_i h; exact Nat.le_of_not_lt fun e => h ⟨e, hp⟩
      omega
    · exact h2 s hs hp
theorem osigns_same : ∀ s, s ∈ osigns ↔ s ∈ signs := fun s => ⟨fun h => by revert s; decide, fun h => by revert s; decide⟩
theorem osigns_down : osigns.Pairwise fun a b => b.length ≤ a.length := by decide
theorem find_first {p : List UInt8 → Bool} : ∀ (L : List (List UInt8)) (s : List UInt8), L.Pairwise (fun a b => b.length ≤ a.length) → L.find? p = some s → ∀ t ∈ L, p t = true → t.length ≤ s.length
  | [], s, _, h, t, ht, _ => by cases ht
  | a :: L, s, hw, h, t, ht, hp => by
    rw [List.find?_cons] at h
    obtain ⟨h1, h2⟩ := List.pairwise_cons.1 hw
    cases ha : p a
    · rw [ha] at h
      rcases List.mem_cons.1 ht with rfl | ht
      · rw [ha] at hp; cases hp
      · exact find_first L s h2 h t ht hp
    · rw [ha] at h
      cases h
      rcases List.mem_cons.1 ht with rfl | ht
      · exact Nat.le_refl _
      · exact h1 t ht
theorem signs_pos : ∀ s ∈ signs, s ≠ [] := by decide
theorem pre_same {s t l : List UInt8} (hs : isPre s l = true) (ht : isPre t l = true) (h : s.length = t.length) : s = t := by
  rw [← (isPre_le hs).2, ← (isPre_le ht).2, h]
/-- The longest sign is the first of those in order. -/
theorem sgn_fst (l : List UInt8) : sgn l = (fst l).getD [] := by
  have hm := fold_mem l signs []
  have hg := fold_ge l signs []
  change sgn l = [] ∨ _ at hm
  cases hf : fst l with
  | none =>
    rcases hm with hm | ⟨hm, hp⟩
    · exact hm
    · have := List.find?_eq_none.1 hf _ ((osigns_same _).2 hm)
      exact absurd hp this
  | some s =>
    have hs : isPre s l = true := List.find?_some (p := fun s => isPre s l) hf
    have hms : s ∈ signs := (osigns_same _).1 (List.mem_of_find?_eq_some hf)
    have h1 := hg.2 s hms hs
    rcases hm with hm | ⟨hm, hp⟩
    · have e : (List.foldl (longer l) [] signs) = [] := hm
      rw [e] at h1
      have := List.length_pos_iff.2 (signs_pos s hms)
      simp at h1; exact absurd h1 (signs_pos s hms)
    · have h2 := find_first osigns s osigns_down hf _ ((osigns_same _).2 hm) hp
      exact pre_same hp hs (Nat.le_antisymm h2 h1)
theorem pSgn_fst (l : List UInt8) : pSgn l = (fst l).map fun s => ⟨5, s, 0, s.length⟩ := by
  unfold pSgn
  rw [sgn_fst]
  cases hf : fst l with
  | none => rfl
  | some s =>
    have hms : s ∈ signs := (osigns_same _).1 (List.mem_of_find?_eq_some hf)
    rw [Option.getD_some, if_neg (signs_pos s hms)]; rfl
theorem signs_front : ∀ s ∈ signs, beg digit s = false ∧ beg letter s = false ∧ beg (fun c => c.toNat == 34) s = false := by decide
theorem beg_pre {p : UInt8 → Bool} {s l : List UInt8} (h : isPre s l = true) (hs : s ≠ []) : beg p l = beg p s := by
  obtain ⟨h1, h2⟩ := isPre_le h
  cases s with
  | nil => exact absurd rfl hs
  | cons a s =>
    cases l with
    | nil => simp at h1
    | cons b l =>
      simp at h2
      rw [h2.1]; rfl
theorem pSgn_none (l : List UInt8) (h : beg digit l = true ∨ beg letter l = true ∨ beg (fun c => c.toNat == 34) l = true) : pSgn l = none := by
  rw [pSgn_fst]
  cases hf : fst l with
  | none => rfl
  | some s =>
    have hs : isPre s l = true := List.find?_some (p := fun s => isPre s l) hf
    have hms : s ∈ signs := (osigns_same _).1 (List.mem_of_find?_eq_some hf)
    obtain ⟨f1, f2, f3⟩ := signs_front s hms
    rw [beg_pre hs (signs_pos s hms), beg_pre hs (signs_pos s hms), beg_pre hs (signs_pos s hms), f1, f2, f3] at h
    simp at h
theorem digit_letter {c : UInt8} (h : digit c = true) : letter c = false := by
  unfold digit at h; unfold letter
  simp at h ⊢; omega
theorem pNum_none (c : UInt8) (l : List UInt8) (h : digit c = false) : pNum (c :: l) = none := by
  unfold pNum
  rw [hd, h]
  simp [valB]
theorem pTxt_none (c : UInt8) (l : List UInt8) (h : c.toNat ≠ 34) : pTxt (c :: l) = none := by
  simp only [pTxt]; rw [if_neg h]
theorem pNam_none (c : UInt8) (l : List UInt8) (h : letter c = false) : pNam (c :: l) = none := by
  unfold pNam
  rw [if_neg]
  show ¬ letter c = true
  rw [h]; simp
theorem piece_digit (c : UInt8) (l : List UInt8) (h : digit c = true) : piece (c :: l) = pNum (c :: l) := by
  have h34 : c.toNat ≠ 34 := by unfold digit at h; simp at h; omega
  unfold piece
  rw [pTxt_none c l h34, pNam_none c l (digit_letter h), pSgn_none (c :: l) (.inl h)]
  simp [pEnd]
theorem piece_text (c : UInt8) (l : List UInt8) (h : c.toNat = 34) : piece (c :: l) = (quo l).map fun r => ⟨2, r.1, 0, r.2 + 1⟩ := by
  have h1 : digit c = false := by unfold digit; simp; omega
  have h2 : letter c = false := by unfold letter; simp; omega
  have h3 : pTxt (c :: l) = (quo l).map fun r => ⟨2, r.1, 0, r.2 + 1⟩ := by simp only [pTxt]; rw [if_pos h]
  unfold piece
  rw [pNum_none c l h1, pNam_none c l h2, pSgn_none (c :: l) (.inr (.inr (by simp [beg, h]))), h3]
  simp [pEnd]
theorem piece_name (c : UInt8) (l : List UInt8) (h : letter c = true) : piece (c :: l) = some ⟨if isWord ((c :: l).take (hd ofName (c :: l))) then 4 else 3, (c :: l).take (hd ofName (c :: l)), 0, hd ofName (c :: l)⟩ := by
  have h1 : digit c = false := by
    cases hd : digit c
    · rfl
    · rw [digit_letter hd] at h; cases h
  have h34 : c.toNat ≠ 34 := by unfold letter at h; simp at h; omega
  unfold piece
  rw [pNum_none c l h1, pTxt_none c l h34, pNam, if_pos (show beg letter (c :: l) = true from h)]
  simp [pEnd]
theorem piece_sign (c : UInt8) (l : List UInt8) (h1 : digit c = false) (h2 : c.toNat ≠ 34) (h3 : letter c = false) : piece (c :: l) = (fst (c :: l)).map fun s => ⟨5, s, 0, s.length⟩ := by
  unfold piece
  rw [pNum_none c l h1, pTxt_none c l h2, pNam_none c l h3, pSgn_fst]
  simp [pEnd]
/-- What a number is, or why it is none. -/
theorem pNum_is (c : UInt8) (l : List UInt8) (h : digit c = true) : pNum (c :: l) = if 2147483647 < val ((c :: l).take (hd digit (c :: l))) ∨ (c.toNat = 48 ∧ 1 < hd digit (c :: l)) ∨ beg letter ((c :: l).drop (hd digit (c :: l))) = true then none else some ⟨1, (c :: l).take (hd digit (c :: l)), val ((c :: l).take (hd digit (c :: l))), hd digit (c :: l)⟩ := by
  have hpos : 1 ≤ hd digit (c :: l) := hd_pos (l := c :: l) h
  have hle := hd_le digit (c :: l)
  have hb : beg ofName ((c :: l).drop (hd digit (c :: l))) = beg letter ((c :: l).drop (hd digit (c :: l))) := by
    rcases Nat.lt_or_ge (hd digit (c :: l)) (c :: l).length with hlt | hge
    · rw [List.drop_eq_getElem_cons hlt]
      show ofName _ = letter _
      have := hd_stop digit (c :: l) hlt
      unfold ofName; rw [this]; simp
    · rw [List.drop_of_length_le hge]; rfl
  have hne : ((c :: l).take (hd digit (c :: l))).isEmpty = false := by
    cases hd' : hd digit (c :: l) with
    | zero => omega
    | succ n => rfl
  have hh : (((c :: l).take (hd digit (c :: l))).head?.map (·.toNat)) = some c.toNat := by
    cases hd' : hd digit (c :: l) with
    | zero => omega
    | succ n => rfl
  have hlen : ((c :: l).take (hd digit (c :: l))).length = hd digit (c :: l) := by rw [List.length_take]; omega
  unfold pNum valB
  rw [hb, hne, hh, hlen]
  generalize val ((c :: l).take (hd digit (c :: l))) = V
  generalize beg letter ((c :: l).drop (hd digit (c :: l))) = b
  generalize (c :: l).take (hd digit (c :: l)) = T
  clear hb hne hh hlen hle h
  generalize hd digit (c :: l) = D at *
  by_cases a1 : 2147483647 < V
  · have e : ¬ V ≤ 2147483647 := by omega
    simp [a1, e]
  have e1 : V ≤ 2147483647 := by omega
  by_cases a2 : c.toNat = 48
  · by_cases a3 : 1 < D
    · simp [a2, a3]
    · cases b <;> simp [a1, e1, a2, a3]
  · cases b <;> simp [a1, e1, a2]
end Go.Proofs.YtbciecmikcloaaaDoor.Lx
