/- Texts: LxR LKit LRSmall LRBlanks LRNumber. -/
import Derived.Test.YtpjmapoiinjakaaGreatDoorBn02
import Derived.Test.YtpjmapoiinjakaaGreatDoorBn01
import Derived.Test.YtpjmapoiinjakaaGreatDoorBn03
import Derived.BigRegion
section
namespace Go.Proofs.YtpjmapoiinjakaaGreatDoor.Lx
set_option linter.unusedVariables false
def osigns : List (List UInt8) := [[61,61,61],[33,61,61],[60,61],[62,61],[38,38],[124,124],[123],[125],[40],[41],[91],[93],[59],[44],[46],[63],[58],[61],[60],[62],[43],[45],[42],[47],[37],[33]]
def fst (l : List UInt8) : Option (List UInt8) := osigns.find? fun s => isPre s l
theorem fold_mem (l : List UInt8) : ∀ (L : List (List UInt8)) (a : List UInt8), L.foldl (longer l) a = a ∨ (L.foldl (longer l) a ∈ L ∧ isPre (L.foldl (longer l) a) l = true)
  | [], a => .inl rfl
  | s :: L, a => by
    have h := fold_mem l L (longer l a s)
    rw [List.foldl_cons]
    rcases h with h | h
    · rw [h]
      unfold longer
      split
      · rename_i h1; exact .inr ⟨List.mem_cons_self, h1.2⟩
      · exact .inl rfl
    · exact .inr ⟨List.mem_cons_of_mem _ h.1, h.2⟩
theorem fold_ge (l : List UInt8) : ∀ (L : List (List UInt8)) (a : List UInt8), a.length ≤ (L.foldl (longer l) a).length ∧ ∀ s ∈ L, isPre s l = true → s.length ≤ (L.foldl (longer l) a).length
  | [], a => ⟨Nat.le_refl _, fun s h => by cases h⟩
  | t :: L, a => by
    obtain ⟨h1, h2⟩ := fold_ge l L (longer l a t)
    rw [List.foldl_cons]
    have h3 : a.length ≤ (longer l a t).length := by unfold longer; split <;> omega
    refine ⟨by omega, fun s hs hp => ?_⟩
    rcases List.mem_cons.1 hs with rfl | hs
    · have h4 : s.length ≤ (longer l a s).length := by
        unfold longer
        split
        · exact Nat.le_refl _
        · rename_i h; exact Nat.le_of_not_lt fun e => h ⟨e, hp⟩
      omega
    · exact h2 s hs hp
theorem osigns_same : ∀ s, s ∈ osigns ↔ s ∈ signs := fun s => ⟨fun h => by revert s; decide, fun h => by revert s; decide⟩
theorem osigns_down : osigns.Pairwise fun a b => b.length ≤ a.length := by decide
theorem find_first {p : List UInt8 → Bool} : ∀ (L : List (List UInt8)) (s : List UInt8), L.Pairwise (fun a b => b.length ≤ a.length) → L.find? p = some s → ∀ t ∈ L, p t = true → t.length ≤ s.length
  | [], s, _, h, t, ht, _ => by cases ht
  | a :: L, s, hw, h, t, ht, hp => by
    rw [List.find?_cons] at h
    obtain ⟨h1, h2⟩ := List.pairwise_cons.1 hw
    cases ha : p a
    · rw [ha] at h
      rcases List.mem_cons.1 ht with rfl | ht
      · rw [ha] at hp; cases hp
      · exact find_first L s h2 h t ht hp
    · rw [ha] at h
      cases h
      rcases List.mem_cons.1 ht with rfl | ht
      · exact Nat.le_refl _
      · exact h1 t ht
theorem signs_pos : ∀ s ∈ signs, s ≠ [] := by decide
theorem pre_same {s t l : List UInt8} (hs : isPre s l = true) (ht : isPre t l = true) (h : s.length = t.length) : s = t := by
  rw [← (isPre_le hs).2, ← (isPre_le ht).2, h]
/-- The longest sign is the first of those in order. -/
theorem sgn_fst (l : List UInt8) : sgn l = (fst l).getD [] := by
  have hm := fold_mem l signs []
  have hg := fold_ge l signs []
  change sgn l = [] ∨ _ at hm
  cases hf : fst l with
  | none =>
    rcases hm with hm | ⟨hm, hp⟩
    · exact hm
    · have := List.find?_eq_none.1 hf _ ((osigns_same _).2 hm)
      exact absurd hp this
  | some s =>
    have hs : isPre s l = true := List.find?_some (p := fun s => isPre s l) hf
    have hms : s ∈ signs := (osigns_same _).1 (List.mem_of_find?_eq_some hf)
    have h1 := hg.2 s hms hs
    rcases hm with hm | ⟨hm, hp⟩
    · have e : (List.foldl (longer l) [] signs) = [] := hm
      rw [e] at h1
      have := List.length_pos_iff.2 (signs_pos s hms)
      simp at h1; exact absurd h1 (signs_pos s hms)
    · have h2 := find_first osigns s osigns_down hf _ ((osigns_same _).2 hm) hp
      exact pre_same hp hs (Nat.le_antisymm h2 h1)
theorem pSgn_fst (l : List UInt8) : pSgn l = (fst l).map fun s => ⟨5, s, 0, s.length⟩ := by
  unfold pSgn
  rw [sgn_fst]
  cases hf : fst l with
  | none => rfl
  | some s =>
    have hms : s ∈ signs := (osigns_same _).1 (List.mem_of_find?_eq_some hf)
    rw [Option.getD_some, if_neg (signs_pos s hms)]; rfl
theorem signs_front : ∀ s ∈ signs, beg digit s = false ∧ beg letter s = false ∧ beg (fun c => c.toNat == 34) s = false := by decide
theorem beg_pre {p : UInt8 → Bool} {s l : List UInt8} (h : isPre s l = true) (hs : s ≠ []) : beg p l = beg p s := by
  obtain ⟨h1, h2⟩ := isPre_le h
  cases s with
  | nil => exact absurd rfl hs
  | cons a s =>
    cases l with
    | nil => simp at h1
    | cons b l =>
      simp at h2
      rw [h2.1]; rfl
theorem pSgn_none (l : List UInt8) (h : beg digit l = true ∨ beg letter l = true ∨ beg (fun c => c.toNat == 34) l = true) : pSgn l = none := by
  rw [pSgn_fst]
  cases hf : fst l with
  | none => rfl
  | some s =>
    have hs : isPre s l = true := List.find?_some (p := fun s => isPre s l) hf
    have hms : s ∈ signs := (osigns_same _).1 (List.mem_of_find?_eq_some hf)
    obtain ⟨f1, f2, f3⟩ := signs_front s hms
    rw [beg_pre hs (signs_pos s hms), beg_pre hs (signs_pos s hms), beg_pre hs (signs_pos s hms), f1, f2, f3] at h
    simp at h
theorem digit_letter {c : UInt8} (h : digit c = true) : letter c = false := by
  unfold digit at h; unfold letter
  simp at h ⊢; omega
theorem pNum_none (c : UInt8) (l : List UInt8) (h : digit c = false) : pNum (c :: l) = none := by
  unfold pNum
  rw [hd, h]
  simp [valB]
theorem pTxt_none (c : UInt8) (l : List UInt8) (h : c.toNat ≠ 34) : pTxt (c :: l) = none := by
  simp only [pTxt]; rw [if_neg h]
theorem pNam_none (c : UInt8) (l : List UInt8) (h : letter c = false) : pNam (c :: l) = none := by
  unfold pNam
  rw [if_neg]
  show ¬ letter c = true
  rw [h]; simp
theorem piece_digit (c : UInt8) (l : List UInt8) (h : digit c = true) : piece (c :: l) = pNum (c :: l) := by
  have h34 : c.toNat ≠ 34 := by unfold digit at h; simp at h; omega
  unfold piece
  rw [pTxt_none c l h34, pNam_none c l (digit_letter h), pSgn_none (c :: l) (.inl h)]
  simp [pEnd]
theorem piece_text (c : UInt8) (l : List UInt8) (h : c.toNat = 34) : piece (c :: l) = (quo l).map fun r => ⟨2, r.1, 0, r.2 + 1⟩ := by
  have h1 : digit c = false := by unfold digit; simp; omega
  have h2 : letter c = false := by unfold letter; simp; omega
  have h3 : pTxt (c :: l) = (quo l).map fun r => ⟨2, r.1, 0, r.2 + 1⟩ := by simp only [pTxt]; rw [if_pos h]
  unfold piece
  rw [pNum_none c l h1, pNam_none c l h2, pSgn_none (c :: l) (.inr (.inr (by simp [beg, h]))), h3]
  simp [pEnd]
theorem piece_name (c : UInt8) (l : List UInt8) (h : letter c = true) : piece (c :: l) = some ⟨if isWord ((c :: l).take (hd ofName (c :: l))) then 4 else 3, (c :: l).take (hd ofName (c :: l)), 0, hd ofName (c :: l)⟩ := by
  have h1 : digit c = false := by
    cases hd : digit c
    · rfl
    · rw [digit_letter hd] at h; cases h
  have h34 : c.toNat ≠ 34 := by unfold letter at h; simp at h; omega
  unfold piece
  rw [pNum_none c l h1, pTxt_none c l h34, pNam, if_pos (show beg letter (c :: l) = true from h)]
  simp [pEnd]
theorem piece_sign (c : UInt8) (l : List UInt8) (h1 : digit c = false) (h2 : c.toNat ≠ 34) (h3 : letter c = false) : piece (c :: l) = (fst (c :: l)).map fun s => ⟨5, s, 0, s.length⟩ := by
  unfold piece
  rw [pNum_none c l h1, pTxt_none c l h2, pNam_none c l h3, pSgn_fst]
  simp [pEnd]
/-- What a number is, or why it is none. -/
theorem pNum_is (c : UInt8) (l : List UInt8) (h : digit c = true) : pNum (c :: l) = if 2147483647 < val ((c :: l).take (hd digit (c :: l))) ∨ (c.toNat = 48 ∧ 1 < hd digit (c :: l)) ∨ beg letter ((c :: l).drop (hd digit (c :: l))) = true then none else some ⟨1, (c :: l).take (hd digit (c :: l)), val ((c :: l).take (hd digit (c :: l))), hd digit (c :: l)⟩ := by
  have hpos : 1 ≤ hd digit (c :: l) := hd_pos (l := c :: l) h
  have hle := hd_le digit (c :: l)
  have hb : beg ofName ((c :: l).drop (hd digit (c :: l))) = beg letter ((c :: l).drop (hd digit (c :: l))) := by
    rcases Nat.lt_or_ge (hd digit (c :: l)) (c :: l).length with hlt | hge
    · rw [List.drop_eq_getElem_cons hlt]
      show ofName _ = letter _
      have := hd_stop digit (c :: l) hlt
      unfold ofName; rw [this]; simp
    · rw [List.drop_of_length_le hge]; rfl
  have hne : ((c :: l).take (hd digit (c :: l))).isEmpty = false := by
    cases hd' : hd digit (c :: l) with
    | zero => omega
    | succ n => rfl
  have hh : (((c :: l).take (hd digit (c :: l))).head?.map (·.toNat)) = some c.toNat := by
    cases hd' : hd digit (c :: l) with
    | zero => omega
    | succ n => rfl
  have hlen : ((c :: l).take (hd digit (c :: l))).length = hd digit (c :: l) := by rw [List.length_take]; omega
  unfold pNum valB
  rw [hb, hne, hh, hlen]
  generalize val ((c :: l).take (hd digit (c :: l))) = V
  generalize beg letter ((c :: l).drop (hd digit (c :: l))) = b
  generalize (c :: l).take (hd digit (c :: l)) = T
  clear hb hne hh hlen hle h
  generalize hd digit (c :: l) = D at *
  by_cases a1 : 2147483647 < V
  · have e : ¬ V ≤ 2147483647 := by omega
    simp [a1, e]
  have e1 : V ≤ 2147483647 := by omega
  by_cases a2 : c.toNat = 48
  · by_cases a3 : 1 < D
    · simp [a2, a3]
    · cases b <;> simp [a1, e1, a2, a3]
  · cases b <;> simp [a1, e1, a2]
end Go.Proofs.YtpjmapoiinjakaaGreatDoor.Lx
end
section
namespace Go.Proofs.YtpjmapoiinjakaaGreatDoor.L
/-- The place that a number says. -/
def plc (a : Int) (n : Nat) : Nat := min a.toNat n
end Go.Proofs.YtpjmapoiinjakaaGreatDoor.L
end
section
namespace Go.Proofs.YtpjmapoiinjakaaGreatDoor.L
open Go.RowKit
set_option linter.unusedVariables false
theorem rdigit_any (c : UInt8) (w : World) : Calls Tryz.prog 29 #[.int .u8 (c.toNat : Int)] w fun e w' => e = .returned (.bool (Lx.digit c)) ∧ w' = w := by
  have H : Hid (Lx.digit c = (decide (48 ≤ (c.toNat : Int)) && decide ((c.toNat : Int) ≤ 57))) := by
    unfold Lx.digit; congr 1 <;> (apply decide_eq_decide.2; omega)
  generalize (c.toNat : Int) = n at H ⊢
  by_cases h1 : 48 ≤ n
  all_goals
    by_cases h2 : n ≤ 57
    all_goals
      go_enter Tryz.func29, Tryz.ntmps29
      go_wp2
      go_ret
      exact ⟨ret_bool (by rw [H.out]; simp [h1, h2]), rfl⟩
theorem rletter_any (c : UInt8) (w : World) : Calls Tryz.prog 32 #[.int .u8 (c.toNat : Int)] w fun e w' => e = .returned (.bool (Lx.letter c)) ∧ w' = w := by
  have H : Hid (Lx.letter c = ((decide (97 ≤ (c.toNat : Int)) && decide ((c.toNat : Int) ≤ 122)) || (decide (65 ≤ (c.toNat : Int)) && decide ((c.toNat : Int) ≤ 90)) || decide ((c.toNat : Int) = 95) || decide ((c.toNat : Int) = 36))) := by
    unfold Lx.letter; congr 1; congr 1; congr 1; congr 1
    all_goals first | (apply decide_eq_decide.2; omega) | (congr 1 <;> (apply decide_eq_decide.2; omega))
  generalize (c.toNat : Int) = n at H ⊢
  by_cases h5 : n = 95
  · subst h5
    go_enter Tryz.func32, Tryz.ntmps32
    go_wp2
    go_ret
    exact ⟨ret_bool (by rw [H.out]; rfl), rfl⟩
  by_cases h6 : n = 36
  · subst h6
    go_enter Tryz.func32, Tryz.ntmps32
    go_wp2
    go_ret
    exact ⟨ret_bool (by rw [H.out]; rfl), rfl⟩
  have e5 : (n == 95) = false := by simpa using h5
  have e6 : (n == 36) = false := by simpa using h6
  by_cases h1 : 97 ≤ n
  all_goals
    by_cases h2 : n ≤ 122
    all_goals
      by_cases h3 : 65 ≤ n
      all_goals
        by_cases h4 : n ≤ 90
        all_goals
          first
          | (exfalso; omega)
          | (go_enter Tryz.func32, Tryz.ntmps32
             go_wp2
             go_ret
             exact ⟨ret_bool (by rw [H.out]; simp [h1, h2, h3, h4, h5, h6]), rfl⟩)
def strV (L : List (List UInt8)) : Array Value := (L.map fun s => .string ⟨s.toArray⟩).toArray
theorem words_any (w : World) : Calls Tryz.prog 41 #[] w fun e w' => e = .returned (.slice (some ⟨w.heap.size, 0, none⟩) 19 19) ∧ w' = w.alloc (.cells (strV Lx.words) 9) := by
  go_enter Tryz.func41, Tryz.ntmps41
  go_wp2
  go_ret
  exact ⟨rfl, rfl⟩
theorem osigns_any (w : World) : Calls Tryz.prog 34 #[] w fun e w' => e = .returned (.slice (some ⟨w.heap.size, 0, none⟩) 26 26) ∧ w' = w.alloc (.cells (strV Lx.osigns) 9) := by
  go_enter Tryz.func34, Tryz.ntmps34
  go_wp2
  go_ret
  exact ⟨rfl, rfl⟩
theorem strV_cell (L : List (List UInt8)) (w : World) (t : TypeId) (k : Nat) (h : k < L.length) : (w.alloc (.cells (strV L) t)).cell? ⟨w.heap.size, k, none⟩ = some (.string ⟨(L[k]'h).toArray⟩) := by
  have e : (strV L)[k]? = some (.string ⟨(L[k]'h).toArray⟩) := by simp [strV, h]
  have e2 : (w.alloc (.cells (strV L) t)).heap[w.heap.size]? = some (.cells (strV L) t) := by
    show (w.heap.push _)[w.heap.size]? = _
    simp
  unfold World.cell?
  rw [e2]
  exact e
/-- Texts that lie in a row. -/
def Lies (w : World) (b : Nat) (L : List (List UInt8)) : Prop := b < w.heap.size ∧ ∀ k (h : k < L.length), w.cell? ⟨b, k, none⟩ = some (.string ⟨(L[k]'h).toArray⟩)
theorem Lies.below {w w' : World} {b : Nat} {L : List (List UInt8)} (h : Lies w b L) (hb : Below w.heap.size w w') : Lies w' b L :=
  ⟨Nat.lt_of_lt_of_le h.1 hb.size, fun k hk => by rw [hb.cell h.1]; exact h.2 k hk⟩
theorem lies_alloc (L : List (List UInt8)) (w : World) (t : TypeId) : Lies (w.alloc (.cells (strV L) t)) w.heap.size L := ⟨by simp, fun k h => strV_cell L w t k h⟩
theorem bytes_beq (a b : List UInt8) : ((⟨a.toArray⟩ : ByteArray).toList == (⟨b.toArray⟩ : ByteArray).toList) = (a == b) := by
  rw [ByteArray.toList_eq, ByteArray.toList_eq]
set_option maxHeartbeats 400000 in
theorem in_any (b n cap : Nat) (L : List (List UInt8)) (s : ByteArray) (w : World) (hl : Lies w b L) (hn : n = L.length) (h1 : n ≤ 1000) (h2 : n ≤ cap) :
    Calls Tryz.prog 40 #[.slice (some ⟨b, 0, none⟩) n cap, .string s] w fun e w' => e = .returned (.bool (L.contains s.data.toList)) ∧ w' = w := by
  have HL : Hid (∀ k (h : k < L.length), w.cell? ⟨b, k, none⟩ = some (.string ⟨(L[k]'h).toArray⟩)) := hl.2
  clear hl
  obtain ⟨B, hB⟩ : ∃ B, L.contains s.data.toList = B := ⟨_, rfl⟩
  rw [hB]
  have HB : Hid (_) := hB
  clear hB
  go_enter Tryz.func40, Tryz.ntmps40
  go_wp2
  go_loop [5] (fun i => ∃ k : Nat, k ≤ n ∧ i = .int .i64 k ∧ Hid (∀ j (h : j < L.length), j < k → L[j] ≠ s.data.toList)) (fun i => n - (intOf i).toNat)
  case atStart => exact ⟨0, Nat.zero_le _, rfl, fun j h h' => absurd h' (by omega)⟩
  case round =>
    obtain ⟨k, hk, rfl, HA⟩ := hrel
    by_cases hlt : k < n
    · have hlt' : (k : Int) < n := by omega
      have hc := HL.out k (by omega)
      have hb : (L[k]'(by omega) == s.toList) = (L[k]'(by omega) == s.data.toList) := by
        rw [ByteArray.toList_eq]
      by_cases he : L[k]'(by omega) = s.data.toList
      · rw [beq_iff_eq.2 he] at hb
        have HR : Hid (B = true) := HB.out.symm.trans (List.contains_iff_mem.2 (he ▸ List.getElem_mem _))
        clear he HA HL
        generalize L[k]'(by omega) = T at *
        go_wp2
        go_ret
        exact ⟨ret_bool HR.out.symm, rfl⟩
      · rw [beq_eq_false_iff_ne.2 he] at hb
        have HE : Hid (_) := he
        clear he
        generalize hT : L[k]'(by omega) = T at *
        have HT : Hid (_) := hT
        clear hT HL
        go_wp2
        go_round
        case rel => exact ⟨k + 1, by omega, by go_num, fun j h h' => by
          by_cases e : j = k
          · subst e; rw [HT.out]; exact HE.out
          · exact HA.out j h (by omega)⟩
        case measure => simp [intOf]; omega
    · have hlt' : ¬ (k : Int) < n := by omega
      have HR : Hid (B = false) := by
        show _ = _
        rw [← HB.out]
        refine Bool.eq_false_iff.2 fun hm => ?_
        rw [List.contains_iff_mem] at hm
        obtain ⟨j, hj, e⟩ := List.getElem_of_mem hm
        exact HA.out j hj (by omega) e
      go_wp2
      go_ret
      exact ⟨ret_bool HR.out.symm, rfl⟩
theorem rword_any (s : ByteArray) (w : World) : Calls Tryz.prog 33 #[.string s] w fun e w' => e = .returned (.bool (Lx.isWord s.data.toList)) ∧ Below w.heap.size w w' := by
  have HI : Hid (_) := in_any w.heap.size 19 19 Lx.words s (w.alloc (.cells (strV Lx.words) 9)) (lies_alloc _ _ _) rfl (by omega) (by omega)
  have HW : Hid (_) := words_any w
  show Calls _ _ _ _ fun e w' => e = .returned (.bool (Lx.words.contains s.data.toList)) ∧ _
  generalize Lx.words.contains s.data.toList = B at *
  generalize strV Lx.words = V at *
  go_enter Tryz.func33, Tryz.ntmps33
  go_wp2_with (first | (go_at_call 41; refine Calls.mono HW.out ?_; rintro e w' ⟨rfl, rfl⟩) | (go_at_call 40; refine Calls.mono HI.out ?_; rintro e w' ⟨rfl, rfl⟩))
  go_ret
  exact ⟨rfl, (Below.refl _ _).alloc (Nat.le_refl _) _⟩
end Go.Proofs.YtpjmapoiinjakaaGreatDoor.L
end
section
namespace Go.Proofs.YtpjmapoiinjakaaGreatDoor.L
open Go.RowKit
set_option linter.unusedVariables false
theorem blkT_end (k : Nat) (s : ByteArray) (h : k = s.size) : Lx.blk true (s.data.toList.drop k) = Lx.blk false (s.data.toList.drop k) := by
  rw [List.drop_of_length_le (by rw [size_list]; omega)]; rfl
theorem blkT_line (c : UInt8) (l : List UInt8) (h : c.toNat = 10) : Lx.blk true (c :: l) = Lx.blk false (c :: l) := by
  rw [Lx.blk, if_pos h, Lx.blk_line _ _ h]
theorem blkT_on (c : UInt8) (l : List UInt8) (h : c.toNat ≠ 10) : Lx.blk true (c :: l) = ((Lx.blk true l).1 + 1, (Lx.blk true l).2) := by
  rw [Lx.blk, if_neg h]
theorem blk_note (c d : UInt8) (l : List UInt8) (h : c.toNat = 47) (h2 : d.toNat = 47) : Lx.blk false (c :: d :: l) = Lx.blk true (c :: d :: l) := by
  rw [blkT_on c _ (by omega)]
  simp [Lx.blk, h, h2]
theorem blk_stop (c : UInt8) (l : List UInt8) (h1 : c.toNat ≠ 10) (h2 : c.toNat ≠ 9) (h3 : c.toNat ≠ 13) (h4 : c.toNat ≠ 32) (h5 : ¬ (c.toNat = 47 ∧ (l.head?.map (·.toNat)) = some 47)) : Lx.blk false (c :: l) = (0, false) := by
  rw [Lx.blk, if_neg h1, if_neg (by omega), if_neg h5]
/-- Where one is, behind what. -/
def BlkS (s : ByteArray) (G1 : Nat) (G2 : Bool) (c : Bool) (k : Nat) (x : Bool) : Prop := k + (Lx.blk c (s.data.toList.drop k)).1 = G1 ∧ (x || (Lx.blk c (s.data.toList.drop k)).2) = G2
set_option maxRecDepth 100000 in
set_option maxHeartbeats 1000000 in
theorem rblanks_any (s : ByteArray) (p : Nat) (w : World) (hs : s.size ≤ 1000000) (hp : p ≤ s.size) :
    Calls Tryz.prog 28 #[.string s, .int .i64 (p : Int)] w fun e w' => e = .returned (.tuple #[.int .i64 ((p + (Lx.blk false (s.data.toList.drop p)).1 : Nat) : Int), .bool (Lx.blk false (s.data.toList.drop p)).2]) ∧ w' = w := by
  obtain ⟨G1, hG1⟩ : ∃ G1, p + (Lx.blk false (s.data.toList.drop p)).1 = G1 := ⟨_, rfl⟩
  obtain ⟨G2, hG2⟩ : ∃ G2, (Lx.blk false (s.data.toList.drop p)).2 = G2 := ⟨_, rfl⟩
  have HG : Hid (BlkS s G1 G2 false p false) := ⟨hG1, hG2⟩
  rw [hG1, hG2]
  clear hG1 hG2
  go_enter Tryz.func28, Tryz.ntmps28
  go_wp2
  go_loop [1, 6] (fun i b => ∃ (k : Nat) (x : Bool), k ≤ s.size ∧ i = .int .i64 k ∧ b = .bool x ∧ Hid (BlkS s G1 G2 false k x)) (fun i _ => s.size - (intOf i).toNat)
  case atStart => exact ⟨p, false, hp, rfl, rfl, HG⟩
  case round =>
    obtain ⟨k, x, hk, rfl, rfl, HR⟩ := hrel
    clear HG
    by_cases hlt : k < s.size
    · have hlt' : (k : Int) < s.size := by omega
      have hd := drop_at s k hlt
      by_cases h10 : s[k].toNat = 10
      · have HN : Hid (BlkS s G1 G2 false (k + 1) true) := by
          have := HR.out
          unfold BlkS at this
          rw [hd, Lx.blk_line _ _ h10] at this
          exact ⟨by have := this.1; simp only [] at this; omega, by have := this.2; simpa using this⟩
        have hc : ((s[k].toNat : Int) == 10) = true := by rw [beq_iff_eq]; omega
        clear hd HR h10
        go_wp2
        go_round
        case rel => exact ⟨k + 1, true, by omega, by go_num, rfl, HN⟩
        case measure => simp [intOf]; omega
      have hc10 : ((s[k].toNat : Int) == 10) = false := by rw [beq_eq_false_iff_ne]; omega
      by_cases hb : Lx.blank s[k] = true
      · have HN : Hid (BlkS s G1 G2 false (k + 1) x) := by
          have := HR.out
          unfold BlkS at this
          rw [hd, Lx.blk_blank _ _ hb h10] at this
          exact ⟨by have := this.1; simp only [] at this; omega, this.2⟩
        have hb3 : s[k].toNat = 9 ∨ s[k].toNat = 13 ∨ s[k].toNat = 32 := by unfold Lx.blank at hb; simp at hb; omega
        clear hd HR hb
        rcases hb3 with h | h | h
        · have hc : ((s[k].toNat : Int) == 9) = true := by rw [beq_iff_eq]; omega
          clear h h10
          go_wp2
          go_round
          case rel => exact ⟨k + 1, x, by omega, by go_num, rfl, HN⟩
          case measure => simp [intOf]; omega
        · have hc : ((s[k].toNat : Int) == 13) = true := by rw [beq_iff_eq]; omega
          have hc2 : ((s[k].toNat : Int) == 9) = false := by rw [beq_eq_false_iff_ne]; omega
          clear h h10
          go_wp2
          go_round
          case rel => exact ⟨k + 1, x, by omega, by go_num, rfl, HN⟩
          case measure => simp [intOf]; omega
        · have hc : ((s[k].toNat : Int) == 32) = true := by rw [beq_iff_eq]; omega
          have hc2 : ((s[k].toNat : Int) == 9) = false := by rw [beq_eq_false_iff_ne]; omega
          have hc3 : ((s[k].toNat : Int) == 13) = false := by rw [beq_eq_false_iff_ne]; omega
          clear h h10
          go_wp2
          go_round
          case rel => exact ⟨k + 1, x, by omega, by go_num, rfl, HN⟩
          case measure => simp [intOf]; omega
      have hb3 : s[k].toNat ≠ 9 ∧ s[k].toNat ≠ 13 ∧ s[k].toNat ≠ 32 := by unfold Lx.blank at hb; simp at hb; omega
      have hc9 : ((s[k].toNat : Int) == 9) = false := by rw [beq_eq_false_iff_ne]; omega
      have hc13 : ((s[k].toNat : Int) == 13) = false := by rw [beq_eq_false_iff_ne]; omega
      have hc32 : ((s[k].toNat : Int) == 32) = false := by rw [beq_eq_false_iff_ne]; omega
      by_cases hq : s[k].toNat = 47 ∧ ((s.data.toList.drop (k + 1)).head?.map (·.toNat)) = some 47
      · have hlt2 : k + 1 < s.size := by
          rcases Nat.lt_or_ge (k + 1) s.size with h | h
          · exact h
          · rw [List.drop_of_length_le (by rw [size_list]; exact h)] at hq; simp at hq
        have hlt2' : (k : Int) + 1 < s.size := by omega
        have hd2 := drop_at s (k + 1) hlt2
        have hn : s[k + 1].toNat = 47 := by rw [hd2] at hq; simpa using hq.2
        have hc47 : ((s[k].toNat : Int) == 47) = true := by rw [beq_iff_eq]; omega
        have hn47 : ((s[k + 1].toNat : Int) == 47) = true := by rw [beq_iff_eq]; omega
        have HT : Hid (BlkS s G1 G2 true k x) := by
          have := HR.out
          unfold BlkS at this
          rw [hd, hd2, blk_note _ _ _ hq.1 hn, ← hd2, ← hd] at this
          exact this
        have HK : Hid (s[k].toNat ≠ 10) := h10
        clear hd hd2 HR hb hb3 h10 hq hn
        go_wp2
        go_loop [1] (fun i => ∃ (m : Nat), k ≤ m ∧ m ≤ s.size ∧ i = .int .i64 m ∧ Hid (BlkS s G1 G2 true m x)) (fun i => s.size - (intOf i).toNat)
        case atStart => exact ⟨k, by omega, hk, rfl, HT⟩
        case round =>
          obtain ⟨m, hkm, hm, rfl, HM⟩ := hrel
          clear HT
          by_cases hmt : m < s.size
          · have hmt' : (m : Int) < s.size := by omega
            have hdm := drop_at s m hmt
            by_cases hm10 : s[m].toNat = 10
            · have HN : Hid (k < m ∧ BlkS s G1 G2 false m x) := by
                refine ⟨Nat.lt_of_le_of_ne hkm (fun e => HK.out (by subst e; exact hm10)), ?_⟩
                have := HM.out
                unfold BlkS at this ⊢
                rw [hdm, blkT_line _ _ hm10, ← hdm] at this
                exact this
              have hcm : ((s[m].toNat : Int) == 10) = true := by rw [beq_iff_eq]; omega
              clear hdm HM hm10
              go_wp2
              go_round
              case rel => exact ⟨m, x, hm, rfl, rfl, HN.out.2⟩
              case measure => have := HN.out.1; simp [intOf]; omega
            · have HN : Hid (BlkS s G1 G2 true (m + 1) x) := by
                have := HM.out
                unfold BlkS at this ⊢
                rw [hdm, blkT_on _ _ hm10] at this
                exact ⟨by have := this.1; simp only [] at this; omega, this.2⟩
              have hcm : ((s[m].toNat : Int) == 10) = false := by rw [beq_eq_false_iff_ne]; omega
              clear hdm HM hm10
              go_wp2
              go_round
              case rel => exact ⟨m + 1, by omega, by omega, by go_num, HN⟩
              case measure => simp [intOf]; omega
          · have hmt' : ¬ (m : Int) < s.size := by omega
            have HN : Hid (k < m ∧ BlkS s G1 G2 false m x) := by
              refine ⟨by omega, ?_⟩
              have := HM.out
              unfold BlkS at this ⊢
              rw [blkT_end m s (by omega)] at this
              exact this
            clear HM
            go_wp2
            go_round
            case rel => exact ⟨m, x, hm, rfl, rfl, HN.out.2⟩
            case measure => have := HN.out.1; simp [intOf]; omega
      · have HN : Hid (k = G1 ∧ x = G2) := by
          have := HR.out
          unfold BlkS at this
          rw [hd, blk_stop _ _ h10 hb3.1 hb3.2.1 hb3.2.2 hq] at this
          exact ⟨by have := this.1; simpa using this, by have := this.2; simpa using this⟩
        by_cases h47 : s[k].toNat = 47
        · have hc47 : ((s[k].toNat : Int) == 47) = true := by rw [beq_iff_eq]; omega
          by_cases hlt2 : k + 1 < s.size
          · have hlt2' : (k : Int) + 1 < s.size := by omega
            have hd2 := drop_at s (k + 1) hlt2
            have hn47 : ((s[k + 1].toNat : Int) == 47) = false := by
              rw [beq_eq_false_iff_ne]; intro e
              exact hq ⟨h47, by rw [hd2]; simp; omega⟩
            clear hd hd2 HR hb hb3 h10 hq h47
            go_wp2
            go_ret2
            exact ⟨ret2 (by rw [HN.out.1]) HN.out.2, rfl⟩
          · have hlt2' : ¬ (k : Int) + 1 < s.size := by omega
            clear hd HR hb hb3 h10 hq h47
            go_wp2
            go_ret2
            exact ⟨ret2 (by rw [HN.out.1]) HN.out.2, rfl⟩
        · have hc47 : ((s[k].toNat : Int) == 47) = false := by rw [beq_eq_false_iff_ne]; omega
          clear hd HR hb hb3 h10 hq h47
          go_wp2
          go_ret2
          exact ⟨ret2 (by rw [HN.out.1]) HN.out.2, rfl⟩
    · have hlt' : ¬ (k : Int) < s.size := by omega
      have HN : Hid (k = G1 ∧ x = G2) := by
        have := HR.out
        unfold BlkS at this
        rw [List.drop_of_length_le (by rw [size_list]; omega)] at this
        exact ⟨by have := this.1; simpa [Lx.blk] using this, by have := this.2; simpa [Lx.blk] using this⟩
      clear HR
      go_wp2
      go_ret2
      exact ⟨ret2 (by rw [HN.out.1]) HN.out.2, rfl⟩
end Go.Proofs.YtpjmapoiinjakaaGreatDoor.L
end
section
namespace Go.Proofs.YtpjmapoiinjakaaGreatDoor.L
open Go.RowKit
set_option linter.unusedVariables false
/-- What the reference finds: a token, and the place behind it, where it is one. -/
def FoundT (t : Lx.Tk) (e : Ending) : Prop := ∃ E : Nat, e = .returned (.agg #[.int .i64 (t.k : Int), .string ⟨t.t.toArray⟩, .int .i64 (t.n : Int), .int .i64 (t.a : Int), .bool t.ln, .int .i64 (E : Int)]) ∧ (t.k ≠ 6 → E = t.e)
theorem val_take_succ (l : List UInt8) (k : Nat) (h : k < l.length) : Lx.val (l.take (k + 1)) = 10 * Lx.val (l.take k) + ((l[k]'h).toNat - 48) := by
  rw [List.take_succ_eq_append_getElem h, Lx.val_snoc]
theorem foundT_bad (p : Nat) (ln : Bool) (E : Nat) (r : Option Lx.Pc) (h : r = none) : FoundT (Lx.tokOf p ln r) (.returned (.agg #[.int .i64 6, .string ⟨#[]⟩, .int .i64 0, .int .i64 (p : Int), .bool ln, .int .i64 (E : Int)])) := by
  subst h; exact ⟨E, rfl, fun h => absurd rfl h⟩
theorem foundT_ok (p : Nat) (ln : Bool) (k n z : Nat) (t : List UInt8) (r : Option Lx.Pc) (h : r = some ⟨k, t, n, z⟩) : FoundT (Lx.tokOf p ln r) (.returned (.agg #[.int .i64 (k : Int), .string ⟨t.toArray⟩, .int .i64 (n : Int), .int .i64 (p : Int), .bool ln, .int .i64 ((p + z : Nat) : Int)])) := by
  subst h; exact ⟨p + z, rfl, fun _ => rfl⟩
set_option maxRecDepth 100000 in
set_option maxHeartbeats 2000000 in
theorem rnumber_core (s : ByteArray) (p : Nat) (ln : Bool) (w : World) (hs : s.size ≤ 1000000) (hp : p < s.size) (V : Nat → Nat) (D : Nat) (R : Option Lx.Pc) (B : Bool)
    (hV0 : V 0 = 0) (HV : Hid (∀ k (h : p + k < s.size), V (k + 1) = 10 * V k + (s[p + k].toNat - 48)))
    (HD : Hid (∀ k, p + k ≤ s.size → (∀ j (h : p + j < s.size), j < k → Lx.digit s[p + j] = true) → (∀ h : p + k < s.size, Lx.digit s[p + k] = false) → D = k))
    (HB1 : Hid (∀ h : p + D < s.size, Lx.letter s[p + D] = B)) (HB2 : Hid (p + D = s.size → B = false)) (hD1 : 1 ≤ D)
    (HR : Hid (R = if 2147483647 < V D ∨ (s[p].toNat = 48 ∧ 1 < D) ∨ B = true then none else some ⟨1, (s.data.toList.drop p).take D, V D, D⟩)) :
    Calls Tryz.prog 30 #[.string s, .int .i64 (p : Int), .agg #[.int .i64 0, .string ⟨#[]⟩, .int .i64 0, .int .i64 (p : Int), .bool ln]] w fun e w' => FoundT (Lx.tokOf p ln R) e ∧ Below w.heap.size w w' := by
  go_enter Tryz.func30, Tryz.ntmps30
  go_wp2
  go_loop [7, 8] (fun i n => ∃ (k N : Nat), p + k ≤ s.size ∧ i = .int .i64 ((p + k : Nat) : Int) ∧ n = .int .i64 (N : Int) ∧ N ≤ 2147483648 ∧ Hid (N = min (V k) 2147483648) ∧ Hid (∀ j (h : p + j < s.size), j < k → Lx.digit s[p + j] = true)) (fun i _ => s.size - (intOf i).toNat)
  case atStart => exact ⟨0, 0, by omega, rfl, rfl, by omega, (by show _ = _; rw [hV0]; rfl), fun j h h' => absurd h' (by omega)⟩
  case round =>
    obtain ⟨k, N, hk, rfl, rfl, hN, HN, HA⟩ := hrel
    obtain ⟨q, hq⟩ : ∃ q, p + k = q := ⟨_, rfl⟩
    have HQ : Hid (p + k = q) := hq
    have go : ∀ (hD : D = k), Hid (R = if 2147483647 < N ∨ (s[p].toNat = 48 ∧ p + 1 < q) ∨ B = true then none else some ⟨1, (s.data.toList.drop p).take D, N, D⟩) := fun hD => by
      show _ = _
      have h1 := HR.out
      have h2 := HN.out
      rw [h1]
      subst hD
      by_cases a : 2147483647 < V D
      · rw [if_pos (.inl a), if_pos (.inl (by omega))]
      · have e : N = V D := by omega
        rw [e]
        have e2 : (1 < D) ↔ p + 1 < q := by omega
        simp only [e2]
    by_cases hlt : q < s.size
    · have hlt' : (q : Int) < s.size := by omega
      have hk' : p + k < s.size := by omega
      have HX : Hid (V (k + 1) = 10 * V k + (s[q].toNat - 48)) := by subst hq; exact HV.out k hk'
      have HDG : Hid (_) := fun W => rdigit_any s[q] W
      by_cases hdg : Lx.digit s[q] = true
      · rw [hdg] at HDG
        have HA' : Hid (∀ j (h : p + j < s.size), j < k + 1 → Lx.digit s[p + j] = true) := fun j h h' => by
          by_cases e : j = k
          · subst e; subst hq; exact hdg
          · exact HA.out j h (by omega)
        have h1 : 48 ≤ (s[q].toNat : Int) := by unfold Lx.digit at hdg; simp at hdg; omega
        have h2 : (s[q].toNat : Int) ≤ 57 := by unfold Lx.digit at hdg; simp at hdg; omega
        clear hdg HA HD HR HV go HB1 HB2
        rw [hq]
        clear hq
        go_wp2_with (go_at_call 29; refine Calls.mono (HDG.out _) ?_; rintro e w' ⟨rfl, rfl⟩)
        go_round
        case rel =>
          refine ⟨k + 1, min (10 * N + (s[q].toNat - 48)) 2147483648, by have := HQ.out; omega, by have := HQ.out; rw [show p + (k + 1) = q + 1 by omega]; go_num, ?_, by omega, ?_, HA'⟩
          · exact congrArg (Value.int .i64) (by omega)
          · show _ = _
            rw [HX.out, HN.out]; omega
        case measure => have := HQ.out; simp [intOf]; omega
      · have hdg' : Lx.digit s[q] = false := by simpa using hdg
        rw [hdg'] at HDG
        have hD := HD.out k hk (fun j h h' => HA.out j h h') (fun h => by subst hq; exact hdg')
        have HR' : Hid (_) := (go hD).out
        have HDL : Hid (_) := fun W => rletter_any s[q] W
        have hb : Lx.letter s[q] = B := by subst hq; subst hD; exact HB1.out hk'
        rw [hb] at HDL
        have hx : s.extract p q = ⟨((s.data.toList.drop p).take D).toArray⟩ := by rw [← hq, ← hD]; exact extract_eq s p D
        have HXT : Hid (_) := hx
        have HE : Hid (q = p + D) := by show _ = _; omega
        clear HD HR HV HA HX hdg hdg' HN go hb hx HB1 HB2 hD
        rw [hq]
        clear hq HQ
        have hpq : (p : Int) ≤ q := by have := HE.out; omega
        by_cases a1 : 2147483647 < N
        · have a1' : (2147483647 : Int) < N := by omega
          have HR2 : Hid (R = none) := HR'.out.trans (if_pos (.inl a1))
          clear HR'
          go_wp2_with (first | (go_at_call 29; refine Calls.mono (HDG.out _) ?_; rintro e w' ⟨rfl, rfl⟩) | (go_at_call 32; refine Calls.mono (HDL.out _) ?_; rintro e w' ⟨rfl, rfl⟩))
          refine bodyPost_ret (v := .agg #[.int .i64 6, .string ⟨#[]⟩, .int .i64 0, .int .i64 (p : Int), .bool ln, .int .i64 (q : Int)]) (by simp [results, Tryz.results30, go_sem, *]) rfl ⟨foundT_bad p ln q R HR2.out, ?_⟩
          repeat (first | with_reducible exact Below.refl _ _ | (with_reducible refine Below.drew ?_) | (with_reducible refine Below.setCell ?_ (by first | exact Nat.le_refl _ | omega | simp) _) | (with_reducible refine Below.alloc ?_ (by first | exact Nat.le_refl _ | omega | simp | (simp; omega)) _))
        have a1' : ¬ (2147483647 : Int) < N := by omega
        by_cases a2 : s[p].toNat = 48
        · have a2' : ((s[p].toNat : Int) == 48) = true := by rw [beq_iff_eq]; omega
          by_cases a3 : p + 1 < q
          · have a3' : (p : Int) + 1 < q := by omega
            have HR2 : Hid (R = none) := HR'.out.trans (if_pos (.inr (.inl ⟨a2, a3⟩)))
            clear HR'
            go_wp2_with (first | (go_at_call 29; refine Calls.mono (HDG.out _) ?_; rintro e w' ⟨rfl, rfl⟩) | (go_at_call 32; refine Calls.mono (HDL.out _) ?_; rintro e w' ⟨rfl, rfl⟩))
            refine bodyPost_ret (v := .agg #[.int .i64 6, .string ⟨#[]⟩, .int .i64 0, .int .i64 (p : Int), .bool ln, .int .i64 (q : Int)]) (by simp [results, Tryz.results30, go_sem, *]) rfl ⟨foundT_bad p ln q R HR2.out, ?_⟩
            repeat (first | with_reducible exact Below.refl _ _ | (with_reducible refine Below.drew ?_) | (with_reducible refine Below.setCell ?_ (by first | exact Nat.le_refl _ | omega | simp) _) | (with_reducible refine Below.alloc ?_ (by first | exact Nat.le_refl _ | omega | simp | (simp; omega)) _))
          have a3' : ¬ (p : Int) + 1 < q := by omega
          cases B
          · have HR2 : Hid (R = some ⟨1, (s.data.toList.drop p).take D, N, D⟩) := HR'.out.trans (if_neg (by simp [a1, a3]))
            clear HR'
            go_wp2_with (first | (go_at_call 29; refine Calls.mono (HDG.out _) ?_; rintro e w' ⟨rfl, rfl⟩) | (go_at_call 32; refine Calls.mono (HDL.out _) ?_; rintro e w' ⟨rfl, rfl⟩))
            rw [HXT.out]
            refine bodyPost_ret (v := .agg #[.int .i64 1, .string ⟨((s.data.toList.drop p).take D).toArray⟩, .int .i64 (N : Int), .int .i64 (p : Int), .bool ln, .int .i64 (q : Int)]) (by simp [results, Tryz.results30, go_sem, *]) rfl ⟨by rw [HE.out]; exact foundT_ok p ln 1 N D _ R HR2.out, ?_⟩
            repeat (first | with_reducible exact Below.refl _ _ | (with_reducible refine Below.drew ?_) | (with_reducible refine Below.setCell ?_ (by first | exact Nat.le_refl _ | omega | simp) _) | (with_reducible refine Below.alloc ?_ (by first | exact Nat.le_refl _ | omega | simp | (simp; omega)) _))
          · have HR2 : Hid (R = none) := HR'.out.trans (if_pos (.inr (.inr rfl)))
            clear HR'
            go_wp2_with (first | (go_at_call 29; refine Calls.mono (HDG.out _) ?_; rintro e w' ⟨rfl, rfl⟩) | (go_at_call 32; refine Calls.mono (HDL.out _) ?_; rintro e w' ⟨rfl, rfl⟩))
            refine bodyPost_ret (v := .agg #[.int .i64 6, .string ⟨#[]⟩, .int .i64 0, .int .i64 (p : Int), .bool ln, .int .i64 (q : Int)]) (by simp [results, Tryz.results30, go_sem, *]) rfl ⟨foundT_bad p ln q R HR2.out, ?_⟩
            repeat (first | with_reducible exact Below.refl _ _ | (with_reducible refine Below.drew ?_) | (with_reducible refine Below.setCell ?_ (by first | exact Nat.le_refl _ | omega | simp) _) | (with_reducible refine Below.alloc ?_ (by first | exact Nat.le_refl _ | omega | simp | (simp; omega)) _))
        have a2' : ((s[p].toNat : Int) == 48) = false := by rw [beq_eq_false_iff_ne]; omega
        cases B
        · have HR2 : Hid (R = some ⟨1, (s.data.toList.drop p).take D, N, D⟩) := HR'.out.trans (if_neg (by simp [a1, a2]))
          clear HR'
          go_wp2_with (first | (go_at_call 29; refine Calls.mono (HDG.out _) ?_; rintro e w' ⟨rfl, rfl⟩) | (go_at_call 32; refine Calls.mono (HDL.out _) ?_; rintro e w' ⟨rfl, rfl⟩))
          rw [HXT.out]
          refine bodyPost_ret (v := .agg #[.int .i64 1, .string ⟨((s.data.toList.drop p).take D).toArray⟩, .int .i64 (N : Int), .int .i64 (p : Int), .bool ln, .int .i64 (q : Int)]) (by simp [results, Tryz.results30, go_sem, *]) rfl ⟨by rw [HE.out]; exact foundT_ok p ln 1 N D _ R HR2.out, ?_⟩
          repeat (first | with_reducible exact Below.refl _ _ | (with_reducible refine Below.drew ?_) | (with_reducible refine Below.setCell ?_ (by first | exact Nat.le_refl _ | omega | simp) _) | (with_reducible refine Below.alloc ?_ (by first | exact Nat.le_refl _ | omega | simp | (simp; omega)) _))
        · have HR2 : Hid (R = none) := HR'.out.trans (if_pos (.inr (.inr rfl)))
          clear HR'
          go_wp2_with (first | (go_at_call 29; refine Calls.mono (HDG.out _) ?_; rintro e w' ⟨rfl, rfl⟩) | (go_at_call 32; refine Calls.mono (HDL.out _) ?_; rintro e w' ⟨rfl, rfl⟩))
          refine bodyPost_ret (v := .agg #[.int .i64 6, .string ⟨#[]⟩, .int .i64 0, .int .i64 (p : Int), .bool ln, .int .i64 (q : Int)]) (by simp [results, Tryz.results30, go_sem, *]) rfl ⟨foundT_bad p ln q R HR2.out, ?_⟩
          repeat (first | with_reducible exact Below.refl _ _ | (with_reducible refine Below.drew ?_) | (with_reducible refine Below.setCell ?_ (by first | exact Nat.le_refl _ | omega | simp) _) | (with_reducible refine Below.alloc ?_ (by first | exact Nat.le_refl _ | omega | simp | (simp; omega)) _))
    · have hlt' : ¬ (q : Int) < s.size := by omega
      have hD := HD.out k hk (fun j h h' => HA.out j h h') (fun h => absurd h (by omega))
      have HR' : Hid (_) := (go hD).out
      have HBf : Hid (B = false) := HB2.out (by omega)
      have hx : s.extract p q = ⟨((s.data.toList.drop p).take D).toArray⟩ := by rw [← hq, ← hD]; exact extract_eq s p D
      have HXT : Hid (_) := hx
      have HE : Hid (q = p + D) := by show _ = _; omega
      have hqs : q ≤ s.size := by omega
      clear HD HR HV HA HN go hx HB1 HB2 hD
      rw [hq]
      clear hq HQ
      have hpq : (p : Int) ≤ q := by have := HE.out; omega
      by_cases a1 : 2147483647 < N
      · have a1' : (2147483647 : Int) < N := by omega
        have HR2 : Hid (R = none) := HR'.out.trans (if_pos (.inl a1))
        clear HR'
        go_wp2_with fail
        refine bodyPost_ret (v := .agg #[.int .i64 6, .string ⟨#[]⟩, .int .i64 0, .int .i64 (p : Int), .bool ln, .int .i64 (q : Int)]) (by simp [results, Tryz.results30, go_sem, *]) rfl ⟨foundT_bad p ln q R HR2.out, ?_⟩
        repeat (first | with_reducible exact Below.refl _ _ | (with_reducible refine Below.drew ?_) | (with_reducible refine Below.setCell ?_ (by first | exact Nat.le_refl _ | omega | simp) _) | (with_reducible refine Below.alloc ?_ (by first | exact Nat.le_refl _ | omega | simp | (simp; omega)) _))
      have a1' : ¬ (2147483647 : Int) < N := by omega
      by_cases a2 : s[p].toNat = 48
      · have a2' : ((s[p].toNat : Int) == 48) = true := by rw [beq_iff_eq]; omega
        by_cases a3 : p + 1 < q
        · have a3' : (p : Int) + 1 < q := by omega
          have HR2 : Hid (R = none) := HR'.out.trans (if_pos (.inr (.inl ⟨a2, a3⟩)))
          clear HR'
          go_wp2_with fail
          refine bodyPost_ret (v := .agg #[.int .i64 6, .string ⟨#[]⟩, .int .i64 0, .int .i64 (p : Int), .bool ln, .int .i64 (q : Int)]) (by simp [results, Tryz.results30, go_sem, *]) rfl ⟨foundT_bad p ln q R HR2.out, ?_⟩
          repeat (first | with_reducible exact Below.refl _ _ | (with_reducible refine Below.drew ?_) | (with_reducible refine Below.setCell ?_ (by first | exact Nat.le_refl _ | omega | simp) _) | (with_reducible refine Below.alloc ?_ (by first | exact Nat.le_refl _ | omega | simp | (simp; omega)) _))
        have a3' : ¬ (p : Int) + 1 < q := by omega
        have HR2 : Hid (R = some ⟨1, (s.data.toList.drop p).take D, N, D⟩) := HR'.out.trans (if_neg (by simp [a1, a3, HBf.out]))
        clear HR'
        go_wp2_with fail
        rw [HXT.out]
        refine bodyPost_ret (v := .agg #[.int .i64 1, .string ⟨((s.data.toList.drop p).take D).toArray⟩, .int .i64 (N : Int), .int .i64 (p : Int), .bool ln, .int .i64 (q : Int)]) (by simp [results, Tryz.results30, go_sem, *]) rfl ⟨by rw [HE.out]; exact foundT_ok p ln 1 N D _ R HR2.out, ?_⟩
        repeat (first | with_reducible exact Below.refl _ _ | (with_reducible refine Below.drew ?_) | (with_reducible refine Below.setCell ?_ (by first | exact Nat.le_refl _ | omega | simp) _) | (with_reducible refine Below.alloc ?_ (by first | exact Nat.le_refl _ | omega | simp | (simp; omega)) _))
      have a2' : ((s[p].toNat : Int) == 48) = false := by rw [beq_eq_false_iff_ne]; omega
      have HR2 : Hid (R = some ⟨1, (s.data.toList.drop p).take D, N, D⟩) := HR'.out.trans (if_neg (by simp [a1, a2, HBf.out]))
      clear HR'
      go_wp2_with fail
      rw [HXT.out]
      refine bodyPost_ret (v := .agg #[.int .i64 1, .string ⟨((s.data.toList.drop p).take D).toArray⟩, .int .i64 (N : Int), .int .i64 (p : Int), .bool ln, .int .i64 (q : Int)]) (by simp [results, Tryz.results30, go_sem, *]) rfl ⟨by rw [HE.out]; exact foundT_ok p ln 1 N D _ R HR2.out, ?_⟩
      repeat (first | with_reducible exact Below.refl _ _ | (with_reducible refine Below.drew ?_) | (with_reducible refine Below.setCell ?_ (by first | exact Nat.le_refl _ | omega | simp) _) | (with_reducible refine Below.alloc ?_ (by first | exact Nat.le_refl _ | omega | simp | (simp; omega)) _))
theorem rnumber_any (s : ByteArray) (p : Nat) (ln : Bool) (w : World) (hs : s.size ≤ 1000000) (hp : p < s.size) (hdg : Lx.digit s[p] = true) :
    Calls Tryz.prog 30 #[.string s, .int .i64 (p : Int), .agg #[.int .i64 0, .string ⟨#[]⟩, .int .i64 0, .int .i64 (p : Int), .bool ln]] w fun e w' => FoundT (Lx.tokOf p ln (Lx.pNum (s.data.toList.drop p))) e ∧ Below w.heap.size w w' := by
  have hd := drop_at s p hp
  have hl := Lx.hd_le Lx.digit (s.data.toList.drop p)
  rw [List.length_drop, size_list] at hl
  have hat : ∀ k (h : p + k < s.size), (s.data.toList.drop p)[k]'(by rw [List.length_drop, size_list]; omega) = s[p + k] := fun k h => by
    rw [List.getElem_drop]; rfl
  have hpos : 1 ≤ Lx.hd Lx.digit (s.data.toList.drop p) := by
    rw [hd]; exact Lx.hd_pos (l := s[p] :: _) hdg
  refine rnumber_core s p ln w hs hp (fun k => Lx.val ((s.data.toList.drop p).take k)) (Lx.hd Lx.digit (s.data.toList.drop p)) _ (Lx.beg Lx.letter ((s.data.toList.drop p).drop (Lx.hd Lx.digit (s.data.toList.drop p)))) rfl (fun k h => ?_) (fun k hk h1 h2 => ?_) (fun h => ?_) (fun h => ?_) hpos ?_
  · show Lx.val _ = _
    rw [val_take_succ _ k (by rw [List.length_drop, size_list]; omega), hat k h]
  · refine Lx.hd_eq _ _ _ (by rw [List.length_drop, size_list]; omega) (fun j h h' => ?_) (fun h => ?_)
    · rw [List.length_drop, size_list] at h
      rw [hat j (by omega)]; exact h1 j (by omega) h'
    · rw [List.length_drop, size_list] at h
      rw [hat k (by omega)]; exact h2 (by omega)
  · rw [List.drop_drop, drop_at s _ h]; rfl
  · rw [List.drop_drop, h, List.drop_of_length_le (by rw [size_list]; omega)]; rfl
  · show _ = _
    have := Lx.pNum_is s[p] (s.data.toList.drop (p + 1)) hdg
    rw [← hd] at this
    exact this
end Go.Proofs.YtpjmapoiinjakaaGreatDoor.L
end
