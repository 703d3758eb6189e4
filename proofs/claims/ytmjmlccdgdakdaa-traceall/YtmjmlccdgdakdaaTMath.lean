-- PROVED: inputs with their steps as lists of bytes: the algebra of chapter 4.
import Derived.Test.YtmjmlccdgdakdaaFMath
import Derived.Test.YtmjmlccdgdakdaaVText
namespace Go.Proofs.Ytmjmlccdgdakdaa.Vn
theorem get_at (pre : List UInt8) (n : Int) (rest : List UInt8) (h1 : -9223372036854775808 ≤ n) (h2 : n ≤ 9223372036854775807) :
    get (pre ++ put n ++ rest) (pre.length : Int) = (n, pre.length + (put n).length, 0) := by
  unfold get
  have hd : (pre ++ put n ++ rest).drop (pre.length : Int).toNat = put n ++ rest := by
    rw [Int.toNat_natCast, List.append_assoc, List.drop_left]
  rw [if_neg (by simp; omega), hd, getU_put n rest h1 h2]
  simp [unzig_zig]
theorem get_bd (l : List UInt8) (p : Int) : -9223372036854775808 ≤ (get l p).1 ∧ (get l p).1 ≤ 9223372036854775807 ∧ ((get l p).2.1 : Int) ≤ l.length ∧ (get l p).2.2 ≤ 4 := by
  unfold get
  split
  · simp
  · rename_i h
    split
    · rename_i h0
      have hk := getU_ok (l := l.drop p.toNat) (v := (getU (l.drop p.toNat)).1) (c := (getU (l.drop p.toNat)).2.1) (by rw [← h0])
      have hb := unzig_bd _ hk.1
      have hl := hk.2.2.1
      rw [List.length_drop] at hl
      refine ⟨hb.1, hb.2, ?_, by simp⟩
      simp only []
      omega
    · rename_i h0
      have he := getU_err (l.drop p.toNat)
      refine ⟨by simp, by simp, by simp, ?_⟩
      simp only []
      rcases he with he | he | he
      · omega
      · rw [he]; simp
      · rw [he]; simp
theorem text_len (t : List UInt8) : (text t).length = (put (t.length : Int)).length + t.length := by unfold text; rw [List.length_append]
theorem getText_at (pre t rest : List UInt8) (h : t.length ≤ 4096) :
    getText (pre ++ text t ++ rest) (pre.length : Int) = (t, pre.length + (text t).length, 0) := by
  have hg : get (pre ++ text t ++ rest) (pre.length : Int) = ((t.length : Int), pre.length + (put (t.length : Int)).length, 0) := by
    have := get_at pre (t.length : Int) (t ++ rest) (by omega) (by omega)
    unfold text
    rw [← this]
    simp
  unfold getText
  rw [hg]
  simp only [if_true]
  unfold gt1
  have hd : (pre ++ text t ++ rest).drop (pre.length + (put (t.length : Int)).length) = t ++ rest := by
    unfold text
    rw [show pre ++ (put (t.length : Int) ++ t) ++ rest = (pre ++ put (t.length : Int)) ++ (t ++ rest) by simp, ← List.length_append, List.drop_left]
  rw [if_neg (by omega), if_neg (by rw [List.length_append, List.length_append, text_len]; omega), hd, Int.toNat_natCast, List.take_left, text_len, Nat.add_assoc]
theorem getText_bd (l : List UInt8) (p : Int) : (getText l p).1.length ≤ 4096 ∧ (getText l p).2.2 ≤ 4 ∧ (getText l p).1.length ≤ l.length := by
  have hg := get_bd l p
  unfold getText
  split
  · unfold gt1
    split
    · simp
    · split
      · simp
      · simp only [List.length_take, List.length_drop]; omega
  · exact ⟨by simp, hg.2.2.2, by simp⟩
end Go.Proofs.Ytmjmlccdgdakdaa.Vn
namespace Go.Proofs.Ytmjmlccdgdakdaa.Tm
/-- A record: a step, and an input's three parts. -/
structure Rec where
  step : Int
  kind : Int
  n : Int
  s : List UInt8
/-- 4.1: may a host give this? -/
def may (k n : Int) (s : List UInt8) : Bool :=
  decide (-2147483648 ≤ n ∧ n ≤ 2147483647 ∧ s.length ≤ 1024 ∧ ((k = 1 ∨ k = 2) ∧ s.length = 0 ∨ (k = 3 ∨ k = 4) ∧ n = 0 ∨ k = 5 ∧ 0 ≤ n ∧ s.length = 0))
def ok (r : Rec) : Bool := decide (0 ≤ r.step) && may r.kind r.n r.s
def put (r : Rec) : List UInt8 := Vn.put r.step ++ Vn.put r.kind ++ Vn.put r.n ++ Vn.text r.s
def zero : Rec := ⟨0, 0, 0, []⟩
def pA (l : List UInt8) : Int × Nat × Nat := Vn.get l 0
def pB (l : List UInt8) : Int × Nat × Nat := Vn.get l ((pA l).2.1 : Int)
def pC (l : List UInt8) : Int × Nat × Nat := Vn.get l ((pB l).2.1 : Int)
def pD (l : List UInt8) : List UInt8 × Nat × Nat := Vn.getText l ((pC l).2.1 : Int)
def parts (l : List UInt8) : Rec := ⟨(pA l).1, (pB l).1, (pC l).1, (pD l).1⟩
/-- Is it the bytes of a record? -/
def is (l : List UInt8) : Bool := ok (parts l) && decide (put (parts l) = l)
def got (l : List UInt8) : Rec := if is l then parts l else zero
/-- Its numbers are a machine's. -/
def fits (r : Rec) : Prop := -9223372036854775808 ≤ r.step ∧ r.step ≤ 9223372036854775807 ∧ -9223372036854775808 ≤ r.kind ∧ r.kind ≤ 9223372036854775807 ∧ -9223372036854775808 ≤ r.n ∧ r.n ≤ 9223372036854775807
theorem parts_fits (l : List UInt8) : fits (parts l) := by
  have ha := Vn.get_bd l 0
  have hb := Vn.get_bd l ((pA l).2.1 : Int)
  have hc := Vn.get_bd l ((pB l).2.1 : Int)
  exact ⟨ha.1, ha.2.1, hb.1, hb.2.1, hc.1, hc.2.1⟩
theorem ok_bd {r : Rec} (h : ok r = true) : 0 ≤ r.step ∧ 1 ≤ r.kind ∧ r.kind ≤ 5 ∧ -2147483648 ≤ r.n ∧ r.n ≤ 2147483647 ∧ r.s.length ≤ 1024 := by
  unfold ok may at h
  simp at h
  omega
theorem put_length (r : Rec) : (put r).length = (Vn.put r.step).length + (Vn.put r.kind).length + (Vn.put r.n).length + ((Vn.put (r.s.length : Int)).length + r.s.length) := by
  unfold put; rw [List.length_append, List.length_append, List.length_append, Vn.text_len]
theorem put_len (r : Rec) : 4 ≤ (put r).length ∧ (put r).length ≤ 40 + r.s.length := by
  have h1 := Vn.put_len r.step
  have h2 := Vn.put_len r.kind
  have h3 := Vn.put_len r.n
  have h4 := Vn.put_len (r.s.length : Int)
  rw [put_length]; omega
theorem ok_len {r : Rec} (h : ok r = true) : (put r).length ≤ 1064 := by
  have := put_len r
  have := ok_bd h
  omega
/-- What a record's bytes say, with something behind. -/
theorem at_put (r : Rec) (q : List UInt8) (hf : fits r) (hl : r.s.length ≤ 4096) :
    pA (put r ++ q) = (r.step, (Vn.put r.step).length, 0) ∧ pB (put r ++ q) = (r.kind, (Vn.put r.step ++ Vn.put r.kind).length, 0) ∧
    pC (put r ++ q) = (r.n, (Vn.put r.step ++ Vn.put r.kind ++ Vn.put r.n).length, 0) ∧ pD (put r ++ q) = (r.s, (put r).length, 0) := by
  obtain ⟨f1, f2, f3, f4, f5, f6⟩ := hf
  have hA : pA (put r ++ q) = (r.step, (Vn.put r.step).length, 0) := by
    have := Vn.get_at [] r.step (Vn.put r.kind ++ Vn.put r.n ++ Vn.text r.s ++ q) f1 f2
    unfold pA put
    simpa using this
  have hB : pB (put r ++ q) = (r.kind, (Vn.put r.step ++ Vn.put r.kind).length, 0) := by
    have := Vn.get_at (Vn.put r.step) r.kind (Vn.put r.n ++ Vn.text r.s ++ q) f3 f4
    unfold pB
    rw [hA]
    unfold put
    simpa using this
  have hC : pC (put r ++ q) = (r.n, (Vn.put r.step ++ Vn.put r.kind ++ Vn.put r.n).length, 0) := by
    have := Vn.get_at (Vn.put r.step ++ Vn.put r.kind) r.n (Vn.text r.s ++ q) f5 f6
    unfold pC
    rw [hB]
    unfold put
    rw [← List.length_append] at this
    rw [← this]
    simp
  refine ⟨hA, hB, hC, ?_⟩
  have := Vn.getText_at (Vn.put r.step ++ Vn.put r.kind ++ Vn.put r.n) r.s q hl
  unfold pD
  rw [hC]
  unfold put
  rw [List.length_append (bs := Vn.text r.s)]
  exact this
theorem parts_put (r : Rec) (q : List UInt8) (hf : fits r) (hl : r.s.length ≤ 4096) : parts (put r ++ q) = r := by
  obtain ⟨a, b, c, d⟩ := at_put r q hf hl
  unfold parts
  rw [a, b, c, d]
theorem is_put {r : Rec} (hf : fits r) (ho : ok r = true) : is (put r) = true ∧ got (put r) = r := by
  have hp := parts_put r [] hf (by have := ok_bd ho; omega)
  rw [List.append_nil] at hp
  have h : is (put r) = true := by unfold is; rw [hp, ho]; simp
  exact ⟨h, by unfold got; rw [if_pos h, hp]⟩
theorem is_ok {l : List UInt8} (h : is l = true) : ok (got l) = true ∧ put (got l) = l ∧ fits (got l) ∧ got l = parts l := by
  have hg : got l = parts l := by unfold got; rw [if_pos h]
  unfold is at h
  simp at h
  exact ⟨by rw [hg]; exact h.1, by rw [hg]; exact h.2, by rw [hg]; exact parts_fits l, hg⟩
/-- No error of a part, where it is a record. -/
theorem is_errs {l : List UInt8} (h : is l = true) : (pA l).2.2 + (pB l).2.2 + (pC l).2.2 + (pD l).2.2 = 0 := by
  obtain ⟨ho, hp, hf, hg⟩ := is_ok h
  obtain ⟨a, b, c, d⟩ := at_put (got l) [] hf (by have := ok_bd ho; omega)
  rw [List.append_nil, hp] at a b c d
  rw [a, b, c, d]; rfl
theorem put_inj {r r' : Rec} (hf : fits r) (hf' : fits r') (ho : ok r = true) (ho' : ok r' = true) (h : put r = put r') : r = r' := by
  have h1 := (is_put hf ho).2
  have h2 := (is_put hf' ho').2
  rw [h] at h1
  exact h1.symm.trans h2
/-- With something behind, or cut, it is none. -/
theorem is_more {r : Rec} (q : List UInt8) (hf : fits r) (ho : ok r = true) (hq : q ≠ []) : is (put r ++ q) = false := by
  have hp := parts_put r q hf (by have := ok_bd ho; omega)
  unfold is
  rw [hp, ho]
  simp [hq]
theorem is_less {r : Rec} (m : Nat) (hf : fits r) (ho : ok r = true) (hm : m < (put r).length) : is ((put r).take m) = false := by
  cases h : is ((put r).take m) with
  | false => rfl
  | true =>
    obtain ⟨ho', hp, hf', hg⟩ := is_ok h
    have e : put r = put (got ((put r).take m)) ++ (put r).drop m := by rw [hp, List.take_append_drop]
    have h1 := parts_put (got ((put r).take m)) ((put r).drop m) hf' (by have := ok_bd ho'; omega)
    have h2 := parts_put r [] hf (by have := ok_bd ho; omega)
    rw [List.append_nil] at h2
    rw [← e, h2] at h1
    rw [← h1] at hp
    have := congrArg List.length hp
    rw [List.length_take] at this
    omega
/-! ### Lists of records -/
def good : Int → List Rec → Bool
  | _, [] => true
  | k, r :: l => ok r && (decide (k ≤ r.step) && good r.step l)
def rows (l : List Rec) : List UInt8 := Fm.puts (l.map put)
def enc (l : List Rec) : List UInt8 × Nat := if good 0 l then (rows l, 0) else ([], 1)
/-- May this text stand behind a step? -/
def next (k : Int) (t : List UInt8) : Bool := is t && decide (k ≤ (got t).step)
def dec : Int → List (List UInt8) → List Rec × Bool
  | _, [] => ([], true)
  | k, t :: L => if next k t then (got t :: (dec (got t).step L).1, (dec (got t).step L).2) else ([], false)
def decode (l : List UInt8) : List Rec × Nat × Nat :=
  if (dec 0 (Fm.all l).1).2 then ((dec 0 (Fm.all l).1).1, (Fm.all l).2.1, (Fm.all l).2.2)
  else ((dec 0 (Fm.all l).1).1, (Fm.puts ((Fm.all l).1.take (dec 0 (Fm.all l).1).1.length)).length, 4)
theorem dec_len : ∀ (k : Int) (L : List (List UInt8)), (dec k L).1.length ≤ L.length
  | _, [] => by simp [dec]
  | k, t :: L => by
    unfold dec
    split
    · simp; exact dec_len _ L
    · simp
theorem good_mem : ∀ (k : Int) (l : List Rec), good k l = true → ∀ r ∈ l, ok r = true
  | _, [], _ => by simp
  | k, r :: l, h => by
    simp [good] at h
    intro x hx
    rcases List.mem_cons.1 hx with rfl | hx
    · exact h.1
    · exact good_mem r.step l h.2.2 x hx
theorem good_take : ∀ (k : Int) (l : List Rec) (j : Nat), good k l = true → good k (l.take j) = true
  | _, [], _, _ => by simp [good]
  | k, r :: l, 0, _ => by simp [good]
  | k, r :: l, j + 1, h => by
    simp [good] at h
    simp [good, h.1, h.2.1, good_take r.step l j h.2.2]
/-- Whatever stands behind records: these are told first. -/
def fitsAll (l : List Rec) : Prop := ∀ r ∈ l, fits r
def lastStep : Int → List Rec → Int
  | k, [] => k
  | _, r :: l => lastStep r.step l
theorem dec_good : ∀ (k : Int) (l : List Rec) (M : List (List UInt8)), good k l = true → fitsAll l →
    dec k (l.map put ++ M) = (l ++ (dec (lastStep k l) M).1, (dec (lastStep k l) M).2)
  | k, [], M, _, _ => by simp [lastStep]
  | k, r :: l, M, h, hf => by
    simp [good] at h
    have hp := is_put (hf r (by simp)) h.1
    have hn : next k (put r) = true := by unfold next; rw [hp.1, hp.2]; simp [h.2.1]
    have ih := dec_good r.step l M h.2.2 (fun x hx => hf x (List.mem_cons_of_mem _ hx))
    simp only [List.map_cons, List.cons_append, dec, lastStep]
    rw [if_pos hn, hp.2, ih]
theorem texts_le {k : Int} {l : List Rec} (h : good k l = true) : ∀ t ∈ l.map put, t.length ≤ 4096 := by
  intro t ht
  obtain ⟨r, hr, rfl⟩ := List.mem_map.1 ht
  have := ok_len (good_mem k l h r hr)
  omega
/-- 4.3. -/
theorem decode_rows {l : List Rec} (h : good 0 l = true) (hf : fitsAll l) : decode (rows l) = (l, (rows l).length, 0) := by
  have ha := Fm.all_whole (l.map put) (texts_le h)
  have hd := dec_good 0 l [] h hf
  rw [List.append_nil] at hd
  simp [dec] at hd
  unfold decode rows
  rw [ha, hd]
  simp
theorem decode_cut {l : List Rec} (h : good 0 l = true) (hf : fitsAll l) (k : Nat) (hk : k ≤ (rows l).length) :
    ∃ W, W ≤ l.length ∧ (rows (l.take W)).length ≤ k ∧ decode ((rows l).take k) = (l.take W, (rows (l.take W)).length, if (rows (l.take W)).length = k then 0 else 3) ∧ rows (l.take W) = (rows l).take (rows (l.take W)).length := by
  obtain ⟨W, h1, _, h3, h4⟩ := Fm.cut (l.map put) (texts_le h) k hk
  rw [← List.map_take] at h3 h4
  rw [List.length_map] at h1
  have hd := dec_good 0 (l.take W) [] (good_take 0 l W h) (fun x hx => hf x (List.mem_of_mem_take hx))
  rw [List.append_nil] at hd
  simp [dec] at hd
  refine ⟨W, h1, h3, ?_, ?_⟩
  · unfold decode rows
    rw [h4]
    simp only []
    rw [List.map_take, hd]
    simp
  · have : rows l = rows (l.take W) ++ rows (l.drop W) := by
      unfold rows
      rw [← Fm.puts_append, ← List.map_append, List.take_append_drop]
    rw [this, List.take_left]
theorem decode_ahead {l : List Rec} (h : good 0 l = true) (hf : fitsAll l) (q : List UInt8) : ∃ M, (decode (rows l ++ q)).1 = l ++ M := by
  have ha := Fm.all_puts (l.map put) q (texts_le h)
  have hd := dec_good 0 l (Fm.all q).1 h hf
  refine ⟨(dec (lastStep 0 l) (Fm.all q).1).1, ?_⟩
  unfold decode rows
  rw [ha]
  simp only []
  rw [hd]
  split <;> rfl
end Go.Proofs.Ytmjmlccdgdakdaa.Tm
