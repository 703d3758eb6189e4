-- PROVED: the inputs, and the records, that numbers make.
import Derived.Test.YtmjmlccdgdakdaaTMath2
namespace Go.Proofs.Ytmjmlccdgdakdaa.Hm
open Tm
def word (m : Nat) : List UInt8 := if m = 0 then [] else if m = 1 then [111, 107] else if m = 2 then [101] else if m = 3 then [97, 32, 98] else [91, 49, 44, 50, 93]
/-- An input by two numbers. -/
def inp (a n : Nat) : Rec :=
  if 128 ≤ a then ⟨0, 5, n, []⟩ else if a % 5 = 0 then ⟨0, 1, n, []⟩ else if a % 5 = 1 then ⟨0, 2, (n : Int) - 100, []⟩ else if a % 5 = 2 then ⟨0, 3, 0, word (n % 5)⟩ else if a % 5 = 3 then ⟨0, 4, 0, word (n % 5)⟩ else ⟨0, 5, n, []⟩
theorem word_len (m : Nat) : (word m).length ≤ 5 := by
  unfold word
  split
  · simp
  · split
    · simp
    · split
      · simp
      · split <;> simp
theorem inp_may (a n : Nat) (hn : n < 256) : may (inp a n).kind (inp a n).n (inp a n).s = true := by
  have hw := word_len (n % 5)
  have key : ∀ (k m : Int) (s : List UInt8), -2147483648 ≤ m → m ≤ 2147483647 → s.length ≤ 1024 → ((k = 1 ∨ k = 2) ∧ s.length = 0 ∨ (k = 3 ∨ k = 4) ∧ m = 0 ∨ k = 5 ∧ 0 ≤ m ∧ s.length = 0) → may k m s = true := by
    intro k m s h1 h2 h3 h4
    unfold may
    exact decide_eq_true ⟨h1, h2, h3, h4⟩
  unfold inp
  split
  · exact key _ _ _ (by simp only []; omega) (by simp only []; omega) (by simp) (by simp)
  · split
    · exact key _ _ _ (by simp only []; omega) (by simp only []; omega) (by simp) (by simp)
    · split
      · exact key _ _ _ (by simp only []; omega) (by simp only []; omega) (by simp) (by simp)
      · split
        · exact key _ _ _ (by simp) (by simp) (by simp only []; omega) (by simp)
        · split
          · exact key _ _ _ (by simp) (by simp) (by simp only []; omega) (by simp)
          · exact key _ _ _ (by simp only []; omega) (by simp only []; omega) (by simp) (by simp)
/-- At most so many inputs. -/
def host : Nat → List Nat → List Rec
  | 0, _ => []
  | _ + 1, [] => []
  | _ + 1, [_] => []
  | k + 1, a :: n :: Z => inp a n :: host k Z
def hosts (Z : List Nat) : List Rec := host 20 Z
theorem host_len : ∀ (k : Nat) (Z : List Nat), (host k Z).length ≤ k ∧ 2 * (host k Z).length ≤ Z.length
  | 0, _ => by simp [host]
  | _ + 1, [] => by simp [host]
  | _ + 1, [_] => by simp [host]
  | k + 1, a :: n :: Z => by have := host_len k Z; simp [host]; omega
theorem drop_two (Z : List Nat) (i : Nat) (h : i + 1 < Z.length) : Z.drop i = Z[i] :: Z[i + 1] :: Z.drop (i + 2) := by
  rw [List.drop_eq_getElem_cons (by omega), List.drop_eq_getElem_cons (i := i + 1) h]
theorem host_step (Z : List Nat) (i j : Nat) (h : i + 1 < Z.length) (hj : j < 20) : host (20 - j) (Z.drop i) = inp Z[i] Z[i + 1] :: host (20 - (j + 1)) (Z.drop (i + 2)) := by
  rw [drop_two Z i h, show 20 - j = (20 - (j + 1)) + 1 by omega]; rfl
theorem host_none (Z : List Nat) (i j : Nat) (h : ¬ (i + 1 < Z.length ∧ j < 20)) : host (20 - j) (Z.drop i) = [] := by
  by_cases hj : j < 20
  · rw [show 20 - j = (20 - (j + 1)) + 1 by omega]
    have hl : (Z.drop i).length ≤ 1 := by rw [List.length_drop]; omega
    match hd : Z.drop i, hl with
    | [], _ => rfl
    | [_], _ => rfl
  · rw [show 20 - j = 0 by omega]; rfl
/-- Each at a step that rises. -/
def recs : Int → List Nat → List Rec → List Rec
  | _, _, [] => []
  | k, Z, h :: H => ⟨k + ((Z.headD 0 % 7 : Nat) : Int), h.kind, h.n, h.s⟩ :: recs (k + ((Z.headD 0 % 7 : Nat) : Int)) (Z.drop 2) H
def records (Z : List Nat) : List Rec := recs 0 Z (hosts Z)
theorem recs_len : ∀ (k : Int) (Z : List Nat) (H : List Rec), (recs k Z H).length = H.length
  | _, _, [] => rfl
  | k, Z, h :: H => by simp [recs, recs_len]
theorem recs_good : ∀ (k : Int) (Z : List Nat) (H : List Rec), 0 ≤ k → (∀ h ∈ H, may h.kind h.n h.s = true) → good k (recs k Z H) = true
  | _, _, [], _, _ => rfl
  | k, Z, h :: H, hk, hm => by
    have ih := recs_good (k + ((Z.headD 0 % 7 : Nat) : Int)) (Z.drop 2) H (by omega) (fun x hx => hm x (List.mem_cons_of_mem _ hx))
    simp only [recs, good]
    rw [ih, Bool.and_true]
    have h1 : decide (k ≤ k + ((Z.headD 0 % 7 : Nat) : Int)) = true := decide_eq_true (by omega)
    rw [h1, Bool.and_true]
    unfold ok
    simp only []
    rw [hm h (List.mem_cons_self), Bool.and_true]
    exact decide_eq_true (by omega)
theorem recs_steps : ∀ (k : Int) (Z : List Nat) (H : List Rec), ∀ r ∈ recs k Z H, k ≤ r.step ∧ r.step ≤ k + 6 * H.length
  | _, _, [] => by simp [recs]
  | k, Z, h :: H => by
    intro r hr
    simp only [recs] at hr
    rcases List.mem_cons.1 hr with rfl | hr
    · simp only [List.length_cons]; omega
    · have := recs_steps _ _ _ r hr
      simp only [List.length_cons]; omega
theorem host_may : ∀ (k : Nat) (Z : List Nat), (∀ z ∈ Z, z < 256) → ∀ h ∈ host k Z, may h.kind h.n h.s = true
  | 0, _, _ => by simp [host]
  | _ + 1, [], _ => by simp [host]
  | _ + 1, [_], _ => by simp [host]
  | k + 1, a :: n :: Z, hz => by
    intro h hh
    simp only [host] at hh
    rcases List.mem_cons.1 hh with rfl | hh
    · exact inp_may a n (hz n (by simp))
    · exact host_may k Z (fun z h => hz z (by simp [h])) h hh
theorem fits_of {r : Rec} (ho : ok r = true) (hs : r.step ≤ 9223372036854775807) : fits r := by
  have := ok_bd ho
  unfold fits
  omega
theorem records_good (Z : List Nat) (hz : ∀ z ∈ Z, z < 256) : good 0 (records Z) = true := recs_good 0 Z (hosts Z) (by omega) (host_may 20 Z hz)
theorem records_len (Z : List Nat) : (records Z).length ≤ 20 := by unfold records; rw [recs_len]; exact (host_len 20 Z).1
theorem records_step (Z : List Nat) : ∀ r ∈ records Z, r.step ≤ 120 := by
  intro r hr
  have := recs_steps 0 Z (hosts Z) r hr
  have := (host_len 20 Z).1
  unfold hosts at *
  omega
theorem records_fits (Z : List Nat) (hz : ∀ z ∈ Z, z < 256) : fitsAll (records Z) := fun r hr => fits_of (good_mem 0 _ (records_good Z hz) r hr) (by have := records_step Z r hr; omega)
end Go.Proofs.Ytmjmlccdgdakdaa.Hm
