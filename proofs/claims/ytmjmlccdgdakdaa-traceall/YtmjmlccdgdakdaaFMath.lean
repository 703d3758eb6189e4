-- PROVED: records side by side as lists of bytes: the algebra of chapter 3.
import Derived.Test.YtmjmlccdgdakdaaVGet
import Derived.Test.YtmjmlccdgdakdaaCBurstMath
namespace Go.Proofs.Ytmjmlccdgdakdaa.Fm
/-- A record's bytes (3.1). -/
def put (t : List UInt8) : List UInt8 := Vn.put (t.length : Int) ++ Cm.put t
/-- Behind the number: the text and its sum. -/
def body (l : List UInt8) (n : Int) (c : Nat) : List UInt8 × Nat × Nat :=
  if n < 0 ∨ 4096 < n then ([], 0, 4)
  else if l.length < c + n.toNat + 4 then ([], 0, 3)
  else if (Cm.get ((l.drop c).take (n.toNat + 4))).2 = 0 then ((Cm.get ((l.drop c).take (n.toNat + 4))).1, c + n.toNat + 4, 0) else ([], 0, (Cm.get ((l.drop c).take (n.toNat + 4))).2)
/-- The record at the front: its text, how many bytes it takes, the error. -/
def one (l : List UInt8) : List UInt8 × Nat × Nat :=
  if (Vn.getU l).2.2 = 0 then body l (Vn.unzig (Vn.getU l).1) (Vn.getU l).2.1 else ([], 0, (Vn.getU l).2.2)
def allF : Nat → List UInt8 → List (List UInt8) × Nat × Nat
  | 0, _ => ([], 0, 0)
  | k + 1, l => if l = [] then ([], 0, 0) else if (one l).2.2 = 0 then ((one l).1 :: (allF k (l.drop (one l).2.1)).1, (one l).2.1 + (allF k (l.drop (one l).2.1)).2.1, (allF k (l.drop (one l).2.1)).2.2)
      else ([], 0, (one l).2.2)
/-- The records of l, how many bytes they take, the error (3.2). -/
def all (l : List UInt8) : List (List UInt8) × Nat × Nat := allF l.length l

theorem body_ok {l : List UInt8} {n : Int} {c : Nat} (h : (body l n c).2.2 = 0) : 0 ≤ n ∧ n ≤ 4096 ∧ (body l n c).2.1 = c + n.toNat + 4 ∧ c + n.toNat + 4 ≤ l.length := by
  unfold body at h ⊢
  by_cases h1 : n < 0 ∨ 4096 < n
  · rw [if_pos h1] at h; simp at h
  · rw [if_neg h1] at h ⊢
    by_cases h2 : l.length < c + n.toNat + 4
    · rw [if_pos h2] at h; simp at h
    · rw [if_neg h2] at h ⊢
      by_cases h3 : (Cm.get ((l.drop c).take (n.toNat + 4))).2 = 0
      · rw [if_pos h3]
        exact ⟨by omega, by omega, rfl, by omega⟩
      · rw [if_neg h3] at h; exact absurd h h3
theorem one_ok {l : List UInt8} (h : (one l).2.2 = 0) : 5 ≤ (one l).2.1 ∧ (one l).2.1 ≤ l.length := by
  unfold one at h ⊢
  by_cases h1 : (Vn.getU l).2.2 = 0
  · rw [if_pos h1] at h ⊢
    have hb := body_ok h
    have hk := Vn.getU_ok (l := l) (v := (Vn.getU l).1) (c := (Vn.getU l).2.1) (by rw [← h1])
    omega
  · rw [if_neg h1] at h; exact absurd h h1
theorem one_nil : (one []).2.2 ≠ 0 := by decide
theorem allF_same : ∀ (k j : Nat) (l : List UInt8), l.length ≤ k → l.length ≤ j → allF k l = allF j l
  | 0, 0, _, _, _ => rfl
  | 0, j + 1, l, h, _ => by
    have : l = [] := List.length_eq_zero_iff.1 (by omega)
    subst this; simp [allF]
  | k + 1, 0, l, _, h => by
    have : l = [] := List.length_eq_zero_iff.1 (by omega)
    subst this; simp [allF]
  | k + 1, j + 1, l, h1, h2 => by
    unfold allF
    by_cases h0 : (one l).2.2 = 0
    · have hk := one_ok h0
      have hl : (l.drop (one l).2.1).length = l.length - (one l).2.1 := List.length_drop
      rw [allF_same k j (l.drop (one l).2.1) (by omega) (by omega)]
    · rw [if_neg h0, if_neg h0]
theorem all_nil : all [] = ([], 0, 0) := rfl
theorem all_step {l : List UInt8} (h0 : (one l).2.2 = 0) : all l = ((one l).1 :: (all (l.drop (one l).2.1)).1, (one l).2.1 + (all (l.drop (one l).2.1)).2.1, (all (l.drop (one l).2.1)).2.2) := by
  have hk := one_ok h0
  obtain ⟨k, hk1⟩ : ∃ k, l.length = k + 1 := ⟨l.length - 1, by omega⟩
  have hn : l ≠ [] := fun h => by rw [h] at hk1; simp at hk1
  have hl : (l.drop (one l).2.1).length = l.length - (one l).2.1 := List.length_drop
  have he : allF k (l.drop (one l).2.1) = all (l.drop (one l).2.1) := allF_same _ _ _ (by omega) (Nat.le_refl _)
  rw [show all l = allF (k + 1) l from by unfold all; rw [hk1]]
  conv => lhs; unfold allF
  rw [if_neg hn, if_pos h0, he]
theorem all_err {l : List UInt8} (hn : l ≠ []) (h0 : (one l).2.2 ≠ 0) : all l = ([], 0, (one l).2.2) := by
  obtain ⟨k, hk1⟩ : ∃ k, l.length = k + 1 := ⟨l.length - 1, by have := List.length_pos_iff.2 hn; omega⟩
  rw [show all l = allF (k + 1) l from by unfold all; rw [hk1]]
  unfold allF
  rw [if_neg hn, if_neg h0]
theorem put_length (t : List UInt8) : (put t).length = (Vn.put (t.length : Int)).length + t.length + 4 := by
  unfold put; rw [List.length_append, Cm.put_length]; omega
theorem put_bounds (t : List UInt8) : t.length + 5 ≤ (put t).length ∧ (put t).length ≤ t.length + 14 := by
  have := Vn.put_len (t.length : Int)
  rw [put_length]; omega
theorem unzig_len (t : List UInt8) : Vn.unzig (Vn.zig (t.length : Int)) = (t.length : Int) := Vn.unzig_zig _
theorem one_put (t rest : List UInt8) (ht : t.length ≤ 4096) : one (put t ++ rest) = (t, (put t).length, 0) := by
  have hg := Vn.getU_put (t.length : Int) (Cm.put t ++ rest) (by omega) (by omega)
  have hp : put t ++ rest = Vn.put (t.length : Int) ++ (Cm.put t ++ rest) := by unfold put; rw [List.append_assoc]
  have hl := put_length t
  unfold one
  rw [hp, hg]
  simp only [if_true, unzig_len]
  unfold body
  have hd : ((Vn.put (t.length : Int) ++ (Cm.put t ++ rest)).drop (Vn.put (t.length : Int)).length).take ((t.length : Int).toNat + 4) = Cm.put t := by
    rw [List.drop_left, Int.toNat_natCast, ← Cm.put_length, List.take_left]
  rw [hd, Cm.get_put, if_neg (by omega), if_neg (by simp [Cm.put_length]; omega), if_pos rfl]
  rw [hl, Int.toNat_natCast]
theorem one_cut (t : List UInt8) (m : Nat) (ht : t.length ≤ 4096) (hm : m < (put t).length) : one ((put t).take m) = ([], 0, 3) := by
  have hl := put_length t
  by_cases h : m < (Vn.put (t.length : Int)).length
  · have hg := Vn.getU_cut (t.length : Int) m h
    have hp : (put t).take m = (Vn.put (t.length : Int)).take m := by unfold put; rw [List.take_append_of_le_length (by omega)]
    unfold one
    rw [hp, hg]
    rfl
  · have hg := Vn.getU_put (t.length : Int) ((Cm.put t).take (m - (Vn.put (t.length : Int)).length)) (by omega) (by omega)
    have hp : (put t).take m = Vn.put (t.length : Int) ++ (Cm.put t).take (m - (Vn.put (t.length : Int)).length) := by
      unfold put; rw [List.take_append, List.take_of_length_le (by omega)]
    unfold one
    rw [hp, hg]
    simp only [if_true, unzig_len]
    unfold body
    rw [if_neg (by omega), if_pos (by simp [Cm.put_length]; omega)]
/-- Records one behind the other. -/
def puts : List (List UInt8) → List UInt8
  | [] => []
  | t :: L => put t ++ puts L
theorem puts_append : ∀ (L M : List (List UInt8)), puts (L ++ M) = puts L ++ puts M
  | [], _ => rfl
  | t :: L, M => by simp [puts, puts_append L M]
theorem all_puts : ∀ (L : List (List UInt8)) (rest : List UInt8), (∀ t ∈ L, t.length ≤ 4096) → all (puts L ++ rest) = (L ++ (all rest).1, (puts L).length + (all rest).2.1, (all rest).2.2)
  | [], rest, _ => by simp [puts]
  | t :: L, rest, h => by
    have ht := h t (by simp)
    have ih := all_puts L rest (fun x hx => h x (by simp [hx]))
    have ho := one_put t (puts L ++ rest) ht
    have h0 : (one (put t ++ (puts L ++ rest))).2.2 = 0 := by rw [ho]
    rw [show puts (t :: L) ++ rest = put t ++ (puts L ++ rest) from by simp [puts]]
    rw [all_step h0, ho]
    simp only [List.drop_left]
    rw [ih]
    simp [puts]; omega
theorem all_whole (L : List (List UInt8)) (h : ∀ t ∈ L, t.length ≤ 4096) : all (puts L) = (L, (puts L).length, 0) := by
  have := all_puts L [] h
  rw [all_nil] at this
  simpa using this
/-- Where the i-th record ends. -/
def fin (L : List (List UInt8)) (i : Nat) : Nat := (puts (L.take (i + 1))).length
theorem fin_step (L : List (List UInt8)) (i : Nat) (h : i < L.length) : fin L i = (puts (L.take i)).length + (put L[i]).length := by
  unfold fin
  rw [List.take_succ_eq_append_getElem h, puts_append, List.length_append]
  simp [puts]
theorem puts_take_mono (L : List (List UInt8)) {i j : Nat} (h : i ≤ j) : (puts (L.take i)).length ≤ (puts (L.take j)).length := by
  have : L.take j = L.take i ++ (L.take j).drop i := by
    rw [show L.take i = (L.take j).take i from by rw [List.take_take, Nat.min_eq_left h], List.take_append_drop]
  rw [this, puts_append, List.length_append]
  omega
/-- 3.3: of a beginning of records just those that are whole. -/
theorem cut (L : List (List UInt8)) (h : ∀ t ∈ L, t.length ≤ 4096) (k : Nat) (hk : k ≤ (puts L).length) :
    ∃ W, W ≤ L.length ∧ (∀ i, i < L.length → (fin L i ≤ k ↔ i < W)) ∧ (puts (L.take W)).length ≤ k ∧
      all ((puts L).take k) = (L.take W, (puts (L.take W)).length, if (puts (L.take W)).length = k then 0 else 3) := by
  have hex : ∃ W, W ≤ L.length ∧ (puts (L.take W)).length ≤ k ∧ (W < L.length → k < fin L W) := by
    have : ∀ n, n ≤ L.length → ∃ W, W ≤ L.length ∧ (puts (L.take W)).length ≤ k ∧ (W < n → k < fin L W) := by
      intro n
      induction n with
      | zero => exact fun _ => ⟨0, by omega, by simp [puts], by omega⟩
      | succ n ih =>
        intro hn
        obtain ⟨W, h1, h2, h3⟩ := ih (by omega)
        by_cases hW : W < n
        · exact ⟨W, h1, h2, fun _ => h3 hW⟩
        · by_cases hf : fin L n ≤ k
          · exact ⟨n + 1, by omega, hf, by omega⟩
          · by_cases hWn : W = n
            · exact ⟨W, h1, h2, fun _ => by rw [hWn]; omega⟩
            · exact ⟨W, h1, h2, by omega⟩
    exact this L.length (Nat.le_refl _)
  obtain ⟨W, h1, h2, h3⟩ := hex
  refine ⟨W, h1, ?_, h2, ?_⟩
  · intro i hi
    constructor
    · intro hf
      by_cases hiW : i < W
      · exact hiW
      · have hW := h3 (by omega)
        have := puts_take_mono L (i := W + 1) (j := i + 1) (by omega)
        unfold fin at hf hW
        omega
    · intro hiW
      have := puts_take_mono L (i := i + 1) (j := W) (by omega)
      unfold fin
      omega
  · have hsplit : puts L = puts (L.take W) ++ puts (L.drop W) := by rw [← puts_append, List.take_append_drop]
    have ht : (puts L).take k = puts (L.take W) ++ (puts (L.drop W)).take (k - (puts (L.take W)).length) := by
      rw [hsplit, List.take_append, List.take_of_length_le h2]
    rw [ht, all_puts _ _ (fun t ht => h t (List.mem_of_mem_take ht))]
    by_cases he : (puts (L.take W)).length = k
    · rw [he, Nat.sub_self, List.take_zero, all_nil, if_pos rfl]
      simp
    · rw [if_neg he]
      by_cases hW : W < L.length
      · have hkW := h3 hW
        have hd : L.drop W = L[W] :: L.drop (W + 1) := List.drop_eq_getElem_cons hW
        have hfs := fin_step L W hW
        have htl : L[W].length ≤ 4096 := h _ (List.getElem_mem hW)
        have hpt : (puts (L.drop W)).take (k - (puts (L.take W)).length) = (put L[W]).take (k - (puts (L.take W)).length) := by
          rw [hd, show puts (L[W] :: L.drop (W + 1)) = put L[W] ++ puts (L.drop (W + 1)) from rfl, List.take_append_of_le_length (by omega)]
        have hc := one_cut L[W] (k - (puts (L.take W)).length) htl (by omega)
        have hne : (put L[W]).take (k - (puts (L.take W)).length) ≠ [] := by
          intro hn
          have := congrArg List.length hn
          rw [List.length_take, List.length_nil] at this
          have := put_bounds L[W]
          omega
        rw [hpt, all_err hne (by rw [hc]; decide), hc]
        simp
      · have : L.take W = L := List.take_of_length_le (by omega)
        rw [this] at h2 he
        omega
/-- Whatever stands behind whole records: these are told. -/
theorem ahead (L : List (List UInt8)) (h : ∀ t ∈ L, t.length ≤ 4096) (rest : List UInt8) : L.length ≤ (all (puts L ++ rest)).1.length ∧ (all (puts L ++ rest)).1.take L.length = L := by
  rw [all_puts L rest h]
  simp
end Go.Proofs.Ytmjmlccdgdakdaa.Fm
