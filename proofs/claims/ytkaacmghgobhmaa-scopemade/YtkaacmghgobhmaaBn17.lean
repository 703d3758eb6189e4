/- Texts: RpTs ScRf ScRg. -/
import Derived.Test.YtkaacmghgobhmaaBn16
import Derived.Test.YtkaacmghgobhmaaBn00
section
namespace Go.Proofs.Ytkaacmghgobhmaa.Rp
open Lx Ps
set_option linter.unusedVariables false
def kindAt (l : List Nd) (x : Nat) : Nat := (l.getD x {}).k
def kidsAt (l : List Nd) (x : Nat) : List Nat := (l.getD x {}).kids
/-- The first i nodes, and what is free of them. -/
structure St (l : List Nd) (i : Nat) (st : List (Nat × Nat)) : Prop where
  lt : ∀ p ∈ st, p.1 < i ∧ kindAt l p.1 = p.2
  nd : (st.map (·.1)).Nodup
  kid : ∀ a, a < i → ∀ x ∈ kidsAt l a, x < a ∧ x ∉ st.map (·.1)
  kn : ∀ a, a < i → (kidsAt l a).Nodup
  one : ∀ a b, a < i → b < i → ∀ x, x ∈ kidsAt l a → x ∈ kidsAt l b → a = b
  all : ∀ x, x < i → x ∈ st.map (·.1) ∨ ∃ a, a < i ∧ x ∈ kidsAt l a
  ok : ∀ a, a < i → okB (l.getD a {}) ((kidsAt l a).map (kindAt l)) = true
theorem st_nil (l : List Nd) : St l 0 [] := ⟨fun p h => (nomatch h), List.nodup_nil, fun a h => by omega, fun a h => by omega, fun a b h => by omega, fun x h => by omega, fun a h => by omega⟩
theorem St.step {l : List Nd} {i : Nat} {A B : List (Nat × Nat)} (h : St l i (A ++ B)) (hk : kidsAt l i = B.map (·.1)) (ho : okB (l.getD i {}) (B.map (·.2)) = true) : St l (i + 1) (A ++ [(i, kindAt l i)]) := by
  have hnd := h.nd
  rw [List.map_append, List.nodup_append] at hnd
  obtain ⟨n1, n2, n3⟩ := hnd
  have hA : ∀ x ∈ A.map (·.1), x < i := fun x hx => by
    obtain ⟨p, hp, rfl⟩ := List.mem_map.1 hx
    exact (h.lt p (List.mem_append_left _ hp)).1
  have hB : ∀ x ∈ B.map (·.1), x < i := fun x hx => by
    obtain ⟨p, hp, rfl⟩ := List.mem_map.1 hx
    exact (h.lt p (List.mem_append_right _ hp)).1
  refine ⟨fun p hp => ?_, ?_, fun a ha x hx => ?_, fun a ha => ?_, fun a b ha hb x hx hy => ?_, fun x hx => ?_, fun a ha => ?_⟩
  · rcases List.mem_append.1 hp with hp | hp
    · obtain ⟨q1, q2⟩ := h.lt p (List.mem_append_left _ hp)
      exact ⟨by omega, q2⟩
    · rw [List.mem_singleton] at hp; subst hp; exact ⟨by simp, rfl⟩
  · rw [List.map_append, List.nodup_append]
    refine ⟨n1, by simp, fun x hx y hy => ?_⟩
    simp at hy; subst hy
    have := hA x hx; omega
  · rw [List.map_append, List.mem_append, not_or]
    by_cases e : a = i
    · subst e
      rw [hk] at hx
      exact ⟨hB x hx, fun c => n3 x c x hx rfl, by have := hB x hx; simp; omega⟩
    · obtain ⟨q1, q2⟩ := h.kid a (by omega) x hx
      rw [List.map_append, List.mem_append, not_or] at q2
      exact ⟨q1, q2.1, by simp; omega⟩
  · by_cases e : a = i
    · subst e; rw [hk]; exact n2
    · exact h.kn a (by omega)
  · by_cases e : a = i
    · subst e
      by_cases e2 : b = a
      · exact e2.symm
      · exfalso
        rw [hk] at hx
        have := (h.kid b (by omega) x hy).2
        rw [List.map_append, List.mem_append, not_or] at this
        exact this.2 hx
    · by_cases e2 : b = i
      · subst e2
        exfalso
        rw [hk] at hy
        have := (h.kid a (by omega) x hx).2
        rw [List.map_append, List.mem_append, not_or] at this
        exact this.2 hy
      · exact h.one a b (by omega) (by omega) x hx hy
  · by_cases e : x = i
    · subst e; left; simp
    · rcases h.all x (by omega) with q | ⟨a, q1, q2⟩
      · rw [List.map_append, List.mem_append] at q
        rcases q with q | q
        · left; rw [List.map_append, List.mem_append]; exact .inl q
        · right; exact ⟨i, by omega, by rw [hk]; exact q⟩
      · right; exact ⟨a, by omega, q2⟩
  · by_cases e : a = i
    · subst e
      have : (kidsAt l a).map (kindAt l) = B.map (·.2) := by
        rw [hk, List.map_map]
        exact List.map_congr_left fun p hp => (h.lt p (List.mem_append_right _ hp)).2
      rw [this]; exact ho
    · exact h.ok a (by omega)
theorem st_scan (l : List Nd) : ∀ (t : List Nd) (i : Nat) (st st' : List (Nat × Nat)), l.drop i = t → St l i st → scan i t st = some st' → St l (i + t.length) st'
  | [], i, st, st', _, h, e => by simp only [scan, Option.some.injEq] at e; subst e; exact h
  | n :: t, i, st, st', hd, h, e => by
    rw [scan] at e
    split at e
    · rename_i c
      obtain ⟨c1, c2, c3⟩ := c
      have hi : l[i]? = some n := by
        have := congrArg (fun q : List Nd => q[0]?) hd
        simpa using this
      have hg : l.getD i {} = n := by rw [List.getD_eq_getElem?_getD, hi]; rfl
      have hs : St l i (st.take (st.length - n.kids.length) ++ st.drop (st.length - n.kids.length)) := by rw [List.take_append_drop]; exact h
      have h1 := hs.step (by unfold kidsAt; rw [hg]; exact c2.symm) (by rw [hg]; exact c3)
      have h2 : kindAt l i = n.k := by unfold kindAt; rw [hg]
      rw [h2] at h1
      have hd' : l.drop (i + 1) = t := by
        have := congrArg List.tail hd
        simpa [List.tail_drop] using this
      have := st_scan l t (i + 1) _ st' hd' h1 e
      rw [List.length_cons, show i + (t.length + 1) = i + 1 + t.length by omega]
      exact this
    · cases e
/-- What a program's tree is. -/
structure Wf (l : List Nd) : Prop where
  kid : ∀ a, a < l.length → ∀ x ∈ kidsAt l a, x < a
  kn : ∀ a, a < l.length → (kidsAt l a).Nodup
  one : ∀ a b, a < l.length → b < l.length → ∀ x, x ∈ kidsAt l a → x ∈ kidsAt l b → a = b
  all : ∀ x, x + 1 < l.length → ∃ a, a < l.length ∧ x ∈ kidsAt l a
  ok : ∀ a, a < l.length → okB (l.getD a {}) ((kidsAt l a).map (kindAt l)) = true
  last : l ≠ [] ∧ kindAt l (l.length - 1) = 33
theorem wf_of {l : List Nd} (hl : l ≠ []) (h : scan 0 l [] = some [(l.length - 1, 33)]) : Wf l := by
  have hs := st_scan l l 0 [] _ (by simp) (st_nil l) h
  rw [Nat.zero_add] at hs
  refine ⟨fun a ha x hx => (hs.kid a ha x hx).1, hs.kn, hs.one, fun x hx => ?_, hs.ok, hl, (hs.lt (l.length - 1, 33) (by simp)).2⟩
  rcases hs.all x (by omega) with q | q
  · simp at q; omega
  · exact q
theorem rparse_wf (src : List UInt8) (h : (rparse src).2.2 = true) : Wf (rparse src).1 := by
  obtain ⟨h1, h2⟩ := rparse_scan src h
  exact wf_of h1 h2
end Go.Proofs.Ytkaacmghgobhmaa.Rp
end
section
namespace Go.Proofs.Ytkaacmghgobhmaa.Sr
open Ps (Nd)
open Rp (kindAt kidsAt Wf)
set_option linter.unusedVariables false
/-- Each node's parent, or -1. -/
def setKids : List Nat → Nat → List Int → List Int
  | [], _, u => u
  | k :: ks, i, u => setKids ks i (u.set k (i : Int))
def aroundTo (l : List Nd) : Nat → List Int
  | 0 => List.replicate l.length (-1)
  | i + 1 => setKids (kidsAt l i) i (aroundTo l i)
def around (l : List Nd) : List Int := aroundTo l l.length
def isD (k : Nat) : Bool := decide (k = 21) || decide (k = 22) || decide (k = 23)
def decls (l : List Nd) (K : List Nat) : List Nat := K.filter fun k => isD (kindAt l k)
def nameOf (l : List Nd) (k : Nat) : List UInt8 := if kindAt l k = 23 then (l.getD ((kidsAt l k).getD 0 0) {}).t else (l.getD k {}).t
def catches (l : List Nd) (U : List Int) (k : Nat) : Bool :=
  decide (0 ≤ U.getD k 0) && decide (kindAt l (U.getD k 0).toNat = 32) && decide ((kidsAt l (U.getD k 0).toNat).getD 1 0 = k)
def names (l : List Nd) (U : List Int) (k : Nat) : Option (List (List UInt8)) :=
  let d := (decls l (kidsAt l k)).map (nameOf l)
  if kindAt l k = 33 then some d
  else if kindAt l k = 10 then some ((l.getD k {}).names ++ d)
  else if kindAt l k = 25 ∧ catches l U k = true then some ((l.getD (U.getD k 0).toNat {}).t :: d)
  else if kindAt l k = 25 ∧ decls l (kidsAt l k) ≠ [] then some d
  else none
def slot (l : List Nd) (k : Nat) : Int := match names l (around l) k with
  | some N => N.length
  | none => -1
def place (N : List (List UInt8)) (s : List UInt8) : Int := match N.idxOf? s with
  | some p => p
  | none => -1
/-- Outward from node k. -/
def climb (l : List Nd) (U : List Int) (nm : List UInt8) : Nat → Int → Nat → Int × Int
  | 0, _, _ => (-1, 0)
  | f + 1, k, d => if k < 0 then (-1, 0) else match names l U k.toNat with
    | none => climb l U nm f (U.getD k.toNat 0) d
    | some N => match N.idxOf? nm with
      | some p => ((d : Int), (p : Int))
      | none => climb l U nm f (U.getD k.toNat 0) (d + 1)
def spot (l : List Nd) (x : Nat) : Int × Int :=
  if isD (kindAt l x) then (0, place ((names l (around l) ((around l).getD x 0).toNat).getD []) (nameOf l x))
  else if kindAt l x = 3 then climb l (around l) (l.getD x {}).t (l.length + 1) ((around l).getD x 0) 0
  else (-1, 0)
/-! ## Parents -/
theorem setKids_len : ∀ (K : List Nat) (i : Nat) (u : List Int), (setKids K i u).length = u.length
  | [], i, u => rfl
  | k :: K, i, u => by rw [setKids, setKids_len K]; simp
theorem setKids_at : ∀ (K : List Nat) (i : Nat) (u : List Int) (x : Nat), x < u.length → (setKids K i u).getD x 0 = if x ∈ K then (i : Int) else u.getD x 0
  | [], i, u, x, h => by simp [setKids]
  | k :: K, i, u, x, h => by
    rw [setKids, setKids_at K i _ x (by simpa using h)]
    by_cases e : x ∈ K
    · simp [e]
    · rw [if_neg e]
      by_cases e2 : x = k
      · subst e2
        rw [if_pos List.mem_cons_self, List.getD_eq_getElem?_getD, List.getElem?_set_self h]; rfl
      · rw [if_neg (by simp [e, e2]), List.getD_eq_getElem?_getD, List.getElem?_set_ne (fun c => e2 c.symm), ← List.getD_eq_getElem?_getD]
theorem aroundTo_len (l : List Nd) : ∀ i, (aroundTo l i).length = l.length
  | 0 => by simp [aroundTo]
  | i + 1 => by rw [aroundTo, setKids_len, aroundTo_len l i]
theorem aroundTo_no (l : List Nd) : ∀ i x, x < l.length → (∀ a, a < i → x ∉ kidsAt l a) → (aroundTo l i).getD x 0 = -1
  | 0, x, h, _ => by rw [aroundTo, List.getD_eq_getElem?_getD, List.getElem?_replicate, if_pos h]; rfl
  | i + 1, x, h, hn => by
    rw [aroundTo, setKids_at _ _ _ _ (by rw [aroundTo_len]; exact h), if_neg (hn i (by omega))]
    exact aroundTo_no l i x h (fun a ha => hn a (by omega))
theorem aroundTo_yes {l : List Nd} (hw : Wf l) : ∀ i x a, i ≤ l.length → x < l.length → a < i → x ∈ kidsAt l a → (aroundTo l i).getD x 0 = (a : Int)
  | 0, x, a, _, _, h, _ => by omega
  | i + 1, x, a, hi, hx, ha, hk => by
    rw [aroundTo, setKids_at _ _ _ _ (by rw [aroundTo_len]; exact hx)]
    by_cases e : a = i
    · subst e; rw [if_pos hk]
    · rw [if_neg (fun c => e (hw.one a i (by omega) (by omega) x hk c))]
      exact aroundTo_yes hw i x a (by omega) hx (by omega) hk
theorem up_of {l : List Nd} (hw : Wf l) {x a : Nat} (ha : a < l.length) (h : x ∈ kidsAt l a) : (around l).getD x 0 = (a : Int) :=
  aroundTo_yes hw _ x a (Nat.le_refl _) (by have := hw.kid a ha x h; omega) ha h
theorem up_cases {l : List Nd} (hw : Wf l) {x : Nat} (hx : x < l.length) : (∃ a, a < l.length ∧ x ∈ kidsAt l a ∧ x < a ∧ (around l).getD x 0 = (a : Int)) ∨ (x + 1 = l.length ∧ (around l).getD x 0 = -1) := by
  by_cases h : x + 1 < l.length
  · obtain ⟨a, ha, hk⟩ := hw.all x h
    exact .inl ⟨a, ha, hk, hw.kid a ha x hk, up_of hw ha hk⟩
  · refine .inr ⟨by omega, aroundTo_no l _ x hx (fun a ha hk => ?_)⟩
    have := hw.kid a ha x hk
    omega
/-! ## Names -/
theorem getD_at {l : List Nd} {a : Nat} (ha : a < l.length) : l.getD a {} = l[a] := by rw [List.getD_eq_getElem?_getD, List.getElem?_eq_getElem ha]; rfl
theorem makes_eq {l : List Nd} (hw : Wf l) {k : Nat} (hk : k < l.length) : Sc.makes l k = if isD (kindAt l k) then some (nameOf l k) else none := by
  have hn : l[k]? = some (l.getD k {}) := by rw [getD_at hk]; exact List.getElem?_eq_getElem hk
  have hkk : kindAt l k = (l.getD k {}).k := rfl
  unfold Sc.makes
  rw [hn]
  simp only
  by_cases h1 : kindAt l k = 21
  · rw [if_pos (by rw [← hkk]; exact .inl h1)]; simp [isD, nameOf, h1]
  · by_cases h2 : kindAt l k = 22
    · rw [if_pos (by rw [← hkk]; exact .inr h2)]; simp [isD, nameOf, h2]
    · rw [if_neg (by rw [← hkk]; simp [h1, h2])]
      by_cases h3 : kindAt l k = 23
      · rw [if_pos (by rw [← hkk]; exact h3)]
        have ho := hw.ok k hk
        unfold Rp.okB at ho
        rw [← hkk] at ho
        simp [h3] at ho
        have hex : ∃ f, kidsAt l k = [f] := by
          cases hc : kidsAt l k with
          | nil => rw [hc] at ho; simp at ho
          | cons f t => cases t with
            | nil => exact ⟨f, rfl⟩
            | cons g t => rw [hc] at ho; simp at ho
        obtain ⟨f, hf⟩ := hex
        have hfk := hw.kid k hk f (by rw [hf]; simp)
        have e1 : Sc.kid l k 0 = some f := by
          unfold Sc.kid
          rw [hn, Option.bind_some, show (l.getD k {}).kids[0]? = some f by rw [show (l.getD k {}).kids = [f] from hf]; rfl]
          simp only
          rw [if_pos hfk]
        rw [e1, Option.bind_some, List.getElem?_eq_getElem (by omega : f < l.length), Option.map_some]
        simp only [isD, h3, decide_true, Bool.or_true, if_true, nameOf, hf]
        rw [List.getD_cons_zero, getD_at (by omega : f < l.length)]
      · rw [if_neg (by rw [← hkk]; exact h3)]; simp [isD, h1, h2, h3]
theorem madeFrom_eq {l : List Nd} (hw : Wf l) {a : Nat} (ha : a < l.length) : ∀ (m p : Nat), p + m = (kidsAt l a).length → Sc.madeFrom l a p m = (decls l ((kidsAt l a).drop p)).map (nameOf l)
  | 0, p, h => by rw [Sc.madeFrom, List.drop_eq_nil_of_le (by omega)]; rfl
  | m + 1, p, h => by
    have hp : p < (kidsAt l a).length := by omega
    have hd : (kidsAt l a).drop p = (kidsAt l a)[p] :: (kidsAt l a).drop (p + 1) := (List.getElem_cons_drop hp).symm
    rw [Sc.madeFrom, madeFrom_eq hw ha m (p + 1) (by omega), hd]
    have hka := hw.kid a ha _ (List.getElem_mem hp)
    have hn : l[a]? = some (l.getD a {}) := by rw [getD_at ha]; exact List.getElem?_eq_getElem ha
    have e1 : Sc.kid l a p = some (kidsAt l a)[p] := by
      unfold Sc.kid
      rw [hn, Option.bind_some, show (l.getD a {}).kids[p]? = some (kidsAt l a)[p] from List.getElem?_eq_getElem hp]
      simp only
      rw [if_pos hka]
    unfold Sc.one
    rw [e1, Option.bind_some, makes_eq hw (by omega)]
    unfold decls
    rw [List.filter_cons]
    cases isD (kindAt l (kidsAt l a)[p]) <;> simp
theorem made_eq {l : List Nd} (hw : Wf l) {a : Nat} (ha : a < l.length) : Sc.made l a = (decls l (kidsAt l a)).map (nameOf l) := by
  have hn : Sc.kidsOf l a = (kidsAt l a).length := by unfold Sc.kidsOf kidsAt; rw [List.getElem?_eq_getElem ha, getD_at ha]; rfl
  unfold Sc.made
  rw [hn, madeFrom_eq hw ha _ 0 (by omega), List.drop_zero]
end Go.Proofs.Ytkaacmghgobhmaa.Sr
end
section
namespace Go.Proofs.Ytkaacmghgobhmaa.Sr
open Ps (Nd)
open Rp (kindAt kidsAt Wf)
open Sc (Fs)
set_option linter.unusedVariables false
abbrev up (l : List Nd) (x : Nat) : Int := (around l).getD x 0
abbrev nms (l : List Nd) (k : Nat) : Option (List (List UInt8)) := names l (around l) k
theorem nodup_inj {L : List Nat} (h : L.Nodup) {i j : Nat} (hi : i < L.length) (hj : j < L.length) (e : L[i] = L[j]) : i = j := by
  rcases Nat.lt_trichotomy i j with c | c | c
  · exact absurd e (List.pairwise_iff_getElem.1 h i j hi hj c)
  · exact c
  · exact absurd e.symm (List.pairwise_iff_getElem.1 h j i hj hi c)
/-- The number of the nearest scope, from node k outward. -/
inductive NumOk (l : List Nd) (s : Fs) : Int → Int → Prop
  | top {k : Int} : k < 0 → NumOk l s (-1) k
  | sc {k : Nat} {num : Int} {N : List (List UInt8)} : nms l k = some N → s.own.getD k 0 = num → num ≠ -1 → k < l.length → NumOk l s num (k : Int)
  | up {k : Nat} {num : Int} : nms l k = none → k < l.length → NumOk l s num (up l k) → NumOk l s num (k : Int)
/-- What was opened stays, and scopes only get more. -/
structure Mono (n : Nat) (s s' : Fs) : Prop where
  own : ∀ k, k < n → s.own.getD k 0 ≠ -1 → s'.own.getD k 0 = s.own.getD k 0
  sc : ∀ q, q < s.scopes.length → s'.scopes[q]? = s.scopes[q]?
theorem Mono.refl (n : Nat) (s : Fs) : Mono n s s := ⟨fun _ _ _ => rfl, fun _ _ => rfl⟩
theorem NumOk.mono {l : List Nd} {s s' : Fs} {num k : Int} (h : NumOk l s num k) (m : Mono l.length s s') : NumOk l s' num k := by
  induction h with
  | top h => exact .top h
  | sc h1 h2 h3 h4 => exact .sc h1 (by rw [m.own _ h4 (by rw [h2]; exact h3), h2]) h3 h4
  | up h1 h2 _ ih => exact .up h1 h2 ih
/-- D: the nodes that know what they stand in; E: those that have their scope, if they have one. -/
structure Inv (l : List Nd) (D E : Nat → Prop) (s : Fs) : Prop where
  ok : Sc.Ok l.length s
  inn : ∀ x, x < l.length → D x → NumOk l s (s.inn.getD x 0) (up l x)
  own : ∀ y, y < l.length → s.own.getD y 0 ≠ -1 → ∃ (q : Nat) (p : Sc.Sp), s.own.getD y 0 = (q : Int) ∧ s.scopes[q]? = some p ∧ nms l y = some p.names ∧ NumOk l s p.around (up l y)
  opn : ∀ y N, y < l.length → E y → nms l y = some N → s.own.getD y 0 ≠ -1
  only : ∀ y, y < l.length → s.own.getD y 0 ≠ -1 → E y
theorem Inv.weak {l : List Nd} {D D' E E' : Nat → Prop} {s : Fs} (h : Inv l D E s) (hD : ∀ x, x < l.length → D' x → D x) (hE : ∀ y, y < l.length → (E' y ↔ E y)) : Inv l D' E' s :=
  ⟨h.ok, fun x hx d => h.inn x hx (hD x hx d), h.own, fun y N hy e hn => h.opn y N hy ((hE y hy).1 e) hn, fun y hy e => (hE y hy).2 (h.only y hy e)⟩
theorem getD_set' {L : List Int} {a x : Nat} {v : Int} (ha : a < L.length) : (L.set a v).getD x 0 = if x = a then v else L.getD x 0 := by
  by_cases e : x = a
  · subst e; rw [if_pos rfl, List.getD_eq_getElem?_getD, List.getElem?_set_self ha]; rfl
  · rw [if_neg e, List.getD_eq_getElem?_getD, List.getElem?_set_ne (fun c => e c.symm), ← List.getD_eq_getElem?_getD]
/-- A node gets its scope. -/
theorem Inv.open {l : List Nd} {D E : Nat → Prop} {s : Fs} (h : Inv l D E s) {a : Nat} {ahead : List (List UInt8)} (ha : a < l.length) (hd : D a) (hE : ¬ E a) (hn : nms l a = some (ahead ++ Sc.made l a)) :
    Inv l D (fun y => E y ∨ y = a) (Sc.openS l a ahead s) := by
  have hok := h.ok
  have hal : a < s.own.length := by rw [hok.lo]; exact ha
  have hown : s.own.getD a 0 = -1 := by
    by_cases e : s.own.getD a 0 = -1
    · exact e
    · exact absurd (h.only a ha e) hE
  have eown : ∀ x, (Sc.openS l a ahead s).own.getD x 0 = if x = a then (s.scopes.length : Int) else s.own.getD x 0 := fun x => getD_set' hal
  have m : Mono l.length s (Sc.openS l a ahead s) := by
    refine ⟨fun k hk hne => ?_, fun q hq => ?_⟩
    · rw [eown]
      by_cases e : k = a
      · subst e; exact absurd hown hne
      · rw [if_neg e]
    · show (s.scopes ++ [_])[q]? = _
      rw [List.getElem?_append_left hq]
  have hsc : (Sc.openS l a ahead s).scopes[s.scopes.length]? = some ⟨s.inn.getD a 0, ahead ++ Sc.made l a⟩ := by
    show (s.scopes ++ [_])[s.scopes.length]? = _
    rw [List.getElem?_append_right (Nat.le_refl _)]; simp
  refine ⟨Sc.ok_open hok ha, fun x hx d => (h.inn x hx d).mono m, fun y hy hne => ?_, fun y N hy e hn' => ?_, fun y hy hne => ?_⟩
  · rw [eown] at hne ⊢
    by_cases e : y = a
    · subst e
      rw [if_pos rfl]
      exact ⟨s.scopes.length, _, rfl, hsc, hn, (h.inn y hy hd).mono m⟩
    · rw [if_neg e] at hne ⊢
      obtain ⟨q, p, h1, h2, h3, h4⟩ := h.own y hy hne
      have hq : q < s.scopes.length := by
        rcases Nat.lt_or_ge q s.scopes.length with c | c
        · exact c
        · rw [List.getElem?_eq_none c] at h2; cases h2
      exact ⟨q, p, h1, (m.sc q hq).trans h2, h3, h4.mono m⟩
  · rw [eown]
    by_cases e2 : y = a
    · rw [if_pos e2]; omega
    · rw [if_neg e2]; exact h.opn y N hy (e.resolve_right e2) hn'
  · rw [eown] at hne
    by_cases e : y = a
    · exact .inr e
    · rw [if_neg e] at hne; exact .inl (h.only y hy hne)
/-- A node is told what it stands in. -/
theorem Inv.told {l : List Nd} {D E : Nat → Prop} {s : Fs} (h : Inv l D E s) {k : Nat} {v : Int} (hk : k < l.length) (hv : -1 ≤ v ∧ v < s.scopes.length) (hn : NumOk l s v (up l k)) :
    Inv l (fun x => D x ∨ x = k) E { s with inn := s.inn.set k v } := by
  have hkl : k < s.inn.length := by rw [h.ok.li]; exact hk
  have m : Mono l.length s { s with inn := s.inn.set k v } := ⟨fun _ _ _ => rfl, fun _ _ => rfl⟩
  refine ⟨Sc.ok_inn h.ok hv, fun x hx d => ?_, fun y hy hne => ?_, h.opn, h.only⟩
  · show NumOk l _ ((s.inn.set k v).getD x 0) _
    rw [getD_set' hkl]
    by_cases e : x = k
    · subst e; rw [if_pos rfl]; exact hn.mono m
    · rw [if_neg e]; exact (h.inn x hx (d.resolve_right e)).mono m
  · obtain ⟨q, p, h1, h2, h3, h4⟩ := h.own y hy hne
    exact ⟨q, p, h1, h2, h3, h4.mono m⟩
section
variable {l : List Nd}
theorem kind_at {a : Nat} (ha : a < l.length) : l[a]? = some (l.getD a {}) := by rw [getD_at ha]; exact List.getElem?_eq_getElem ha
/-- What stands from node a on, and the second block of an NTry. -/
def Ea (l : List Nd) (a : Nat) (y : Nat) : Prop := a ≤ y ∨ (catches l (around l) y = true ∧ (a : Int) ≤ up l y)
def Da (l : List Nd) (a : Nat) (x : Nat) : Prop := (a : Int) ≤ up l x ∨ up l x = -1
theorem catches_of {y : Nat} (h : catches l (around l) y = true) : 0 ≤ up l y ∧ kindAt l (up l y).toNat = 32 ∧ (kidsAt l (up l y).toNat).getD 1 0 = y := by
  unfold catches at h
  simp only [Bool.and_eq_true, decide_eq_true_eq] at h
  exact ⟨h.1.1, h.1.2, h.2⟩
theorem try_kids (hw : Wf l) {a : Nat} (ha : a < l.length) (h : kindAt l a = 32) : ∃ f g, kidsAt l a = [f, g] ∧ kindAt l f = 25 ∧ kindAt l g = 25 := by
  have ho := hw.ok a ha
  unfold Rp.okB at ho
  rw [show (l.getD a {}).k = 32 from h] at ho
  simp at ho
  generalize kidsAt l a = K at *
  match K, ho with
  | [f, g], ho => simp at ho; exact ⟨f, g, rfl, ho.1, ho.2⟩
  | [], ho => simp at ho
  | [f], ho => simp at ho
  | f :: g :: h :: t, ho => simp at ho
theorem not_catch (hw : Wf l) {a : Nat} (ha : a < l.length) (hk : kindAt l a ≠ 25) : catches l (around l) a = false := by
  by_cases h : catches l (around l) a = true
  · obtain ⟨h1, h2, h3⟩ := catches_of h
    rcases up_cases hw ha with ⟨b, hb, hm, hlt, e⟩ | ⟨_, e⟩
    · rw [show up l a = (b : Int) from e, Int.toNat_natCast] at h2 h3
      obtain ⟨f, g, q1, _, q3⟩ := try_kids hw hb h2
      rw [q1] at h3
      simp at h3; subst h3
      exact absurd q3 hk
    · rw [show up l a = -1 from e] at h1; omega
  · simpa using h
theorem up_ge (hw : Wf l) {a : Nat} (ha : a < l.length) : up l a = -1 ∨ (a : Int) + 1 ≤ up l a := by
  rcases up_cases hw ha with ⟨b, hb, _, hlt, e⟩ | ⟨_, e⟩
  · right; show _ ≤ (around l).getD a 0; rw [e]; omega
  · left; exact e
/-- The node's own scope is opened. -/
theorem opens_inv (hw : Wf l) {a : Nat} {s : Fs} (ha : a < l.length) (h : Inv l (Da l (a + 1)) (Ea l (a + 1)) s) : Inv l (Da l (a + 1)) (fun y => Ea l (a + 1) y ∨ y = a) (Sc.opens l a s) := by
  have hD : Da l (a + 1) a := by
    rcases up_ge hw ha with e | e
    · exact .inr e
    · left; omega
  have hm := made_eq hw ha
  have hE : catches l (around l) a = false → ¬ Ea l (a + 1) a := fun hc => by
    rintro (q | ⟨q, _⟩)
    · omega
    · rw [hc] at q; cases q
  have hkk : ∀ n, kindAt l a = n → (l.getD a {}).k = n := fun n e => e
  unfold Sc.opens
  rw [kind_at ha]
  simp only
  by_cases h33 : kindAt l a = 33
  · rw [if_pos (hkk _ h33)]
    exact h.open ha hD (hE (not_catch hw ha (by omega))) (by unfold nms names; simp only; rw [if_pos h33, hm]; rfl)
  · rw [if_neg (show ¬ (l.getD a {}).k = 33 from h33)]
    by_cases h10 : kindAt l a = 10
    · rw [if_pos (hkk _ h10)]
      exact h.open ha hD (hE (not_catch hw ha (by omega))) (by unfold nms names; simp only; rw [if_neg h33, if_pos h10, hm])
    · rw [if_neg (show ¬ (l.getD a {}).k = 10 from h10)]
      by_cases h25 : (l.getD a {}).k = 25 ∧ s.own.getD a 0 = -1 ∧ Sc.made l a ≠ []
      · rw [if_pos h25]
        obtain ⟨h25, ho, hne⟩ := h25
        have h25 : kindAt l a = 25 := h25
        have hd : decls l (kidsAt l a) ≠ [] := fun e => hne (by rw [hm, e]; rfl)
        have hc : catches l (around l) a = false := by
          by_cases c : catches l (around l) a = true
          · exfalso
            have hu := (catches_of c).1
            have hu2 : ((a + 1 : Nat) : Int) ≤ up l a := by rcases up_ge hw ha with e | e <;> omega
            exact h.opn a _ ha (.inr ⟨c, hu2⟩) (by unfold nms names; simp only; rw [if_neg h33, if_neg h10, if_pos ⟨h25, c⟩]) ho
          · simpa using c
        exact h.open ha hD (hE hc) (by unfold nms names; simp only; rw [if_neg h33, if_neg h10, if_neg (by rw [hc]; simp), if_pos ⟨h25, hd⟩, hm]; rfl)
      · rw [if_neg h25]
        refine ⟨h.ok, h.inn, h.own, fun y N hy e hn => ?_, fun y hy e => .inl (h.only y hy e)⟩
        rcases e with e | e
        · exact h.opn y N hy e hn
        · subst e
          intro ho
          unfold nms names at hn
          simp only at hn
          rw [if_neg h33, if_neg h10] at hn
          by_cases c : kindAt l y = 25 ∧ catches l (around l) y = true
          · have hu := (catches_of c.2).1
            have hu2 : ((y + 1 : Nat) : Int) ≤ up l y := by rcases up_ge hw ha with e | e <;> omega
            exact h.opn y _ ha (.inr ⟨c.2, hu2⟩) (by unfold nms names; simp only; rw [if_neg h33, if_neg h10, if_pos c]) ho
          · rw [if_neg c] at hn
            split at hn
            · rename_i c2
              exact h25 ⟨c2.1, ho, by rw [hm]; simpa using c2.2⟩
            · cases hn
/-- One kid is told what it stands in. -/
theorem kid_inv (hw : Wf l) {a p : Nat} {s : Fs} (ha : a < l.length) (hp : p < (kidsAt l a).length)
    (h : Inv l (fun x => Da l (a + 1) x ∨ x ∈ (kidsAt l a).take p) (fun y => (Ea l (a + 1) y ∨ y = a) ∨ (y ∈ (kidsAt l a).take p ∧ catches l (around l) y = true)) s) :
    Inv l (fun x => Da l (a + 1) x ∨ x ∈ (kidsAt l a).take (p + 1)) (fun y => (Ea l (a + 1) y ∨ y = a) ∨ (y ∈ (kidsAt l a).take (p + 1) ∧ catches l (around l) y = true)) (Sc.enterKid l a p s) := by
  have hka := hw.kid a ha _ (List.getElem_mem hp)
  have htk : (kidsAt l a).take (p + 1) = (kidsAt l a).take p ++ [(kidsAt l a)[p]] := List.take_succ_eq_append_getElem hp
  have hup : up l (kidsAt l a)[p] = (a : Int) := up_of hw ha (List.getElem_mem hp)
  have hnd := hw.kn a ha
  have e1 : Sc.kid l a p = some (kidsAt l a)[p] := by
    unfold Sc.kid
    rw [kind_at ha, Option.bind_some, show (l.getD a {}).kids[p]? = some (kidsAt l a)[p] from List.getElem?_eq_getElem hp]
    simp only
    rw [if_pos hka]
  have hnot : (kidsAt l a)[p] ∉ (kidsAt l a).take p := fun c => by
    obtain ⟨j, hj, e⟩ := List.getElem_of_mem c
    rw [List.getElem_take] at e
    rw [List.length_take] at hj
    have := nodup_inj hnd _ _ e
    omega
  unfold Sc.enterKid
  rw [e1]
  simp only
  rw [kind_at ha]
  simp only
  have hDa : Da l (a + 1) a := by
    rcases up_ge hw ha with e | e
    · exact .inr e
    · left; omega
  have hv : (-1 ≤ (if s.own.getD a 0 = -1 then s.inn.getD a 0 else s.own.getD a 0) ∧ (if s.own.getD a 0 = -1 then s.inn.getD a 0 else s.own.getD a 0) < s.scopes.length) := by
    split
    · exact h.ok.inn _ (Sc.getD_mem (by rw [h.ok.li]; exact ha))
    · exact h.ok.own _ (Sc.getD_mem (by rw [h.ok.lo]; exact ha))
  have hnum : NumOk l s (if s.own.getD a 0 = -1 then s.inn.getD a 0 else s.own.getD a 0) (up l (kidsAt l a)[p]) := by
    rw [hup]
    split
    · rename_i ho
      refine .up ?_ ha (h.inn a ha (.inl hDa))
      cases hn : nms l a with
      | none => rfl
      | some N => exact absurd ho (h.opn a N ha (.inl (.inr rfl)) hn)
    · rename_i ho
      obtain ⟨q, pp, h1, h2, h3, h4⟩ := h.own a ha ho
      exact .sc h3 rfl ho ha
  have ht := h.told (k := (kidsAt l a)[p]) (by omega) hv hnum
  have hD' : ∀ x, x < l.length → ((Da l (a + 1) x ∨ x ∈ (kidsAt l a).take (p + 1)) → ((Da l (a + 1) x ∨ x ∈ (kidsAt l a).take p) ∨ x = (kidsAt l a)[p])) := fun x _ d => by
    rcases d with d | d
    · exact .inl (.inl d)
    · rw [htk, List.mem_append, List.mem_singleton] at d
      rcases d with d | d
      · exact .inl (.inr d)
      · exact .inr d
  by_cases ht1 : (l.getD a {}).k = 32 ∧ p = 1
  · rw [if_pos ht1]
    obtain ⟨f, g, q1, q2, q3⟩ := try_kids hw ha ht1.1
    have hg : (kidsAt l a)[p] = g := by
      have : (kidsAt l a)[p]? = some g := by rw [q1, ht1.2]; rfl
      rw [List.getElem?_eq_getElem hp] at this
      exact Option.some.inj this
    rw [hg] at hup hka ht hnot hD' ⊢
    have hcat : catches l (around l) g = true := by
      unfold catches
      rw [show (around l).getD g 0 = (a : Int) from hup]
      simp only [Int.toNat_natCast, q1, Bool.and_eq_true, decide_eq_true_eq]
      exact ⟨⟨by omega, ht1.1⟩, rfl⟩
    have hno := ht.open (a := g) (ahead := [(l.getD a {}).t]) (by omega) (.inr rfl) (by
      rintro ((q | q) | ⟨q, _⟩)
      · rcases q with q | ⟨_, q⟩
        · omega
        · rw [hup] at q; omega
      · omega
      · exact hnot q) (by
      unfold nms names
      simp only
      rw [if_neg (by omega), if_neg (by omega), if_pos ⟨q3, hcat⟩, show (around l).getD g 0 = (a : Int) from hup, made_eq hw (by omega)]
      rfl)
    refine hno.weak hD' (fun y hy => ?_)
    rw [htk, hg, List.mem_append, List.mem_singleton]
    constructor
    · rintro (q | ⟨q | q, c⟩)
      · exact .inl (.inl q)
      · exact .inl (.inr ⟨q, c⟩)
      · exact .inr q
    · rintro ((q | ⟨q, c⟩) | q)
      · exact .inl q
      · exact .inr ⟨.inl q, c⟩
      · subst q; exact .inr ⟨.inr rfl, hcat⟩
  · rw [if_neg ht1]
    refine ht.weak hD' (fun y hy => ?_)
    rw [htk, List.mem_append, List.mem_singleton]
    constructor
    · rintro (q | ⟨q | q, c⟩)
      · exact .inl q
      · exact .inr ⟨q, c⟩
      · exfalso
        subst q
        obtain ⟨h1, h2, h3⟩ := catches_of c
        rw [hup, Int.toNat_natCast] at h2 h3
        obtain ⟨f, g, q1, _, _⟩ := try_kids hw ha h2
        have hl : (kidsAt l a).length = 2 := by rw [q1]; rfl
        have h4 : (kidsAt l a)[1]'(by omega) = (kidsAt l a)[p] := by
          rw [List.getD_eq_getElem?_getD, List.getElem?_eq_getElem (by omega)] at h3
          exact h3
        have := nodup_inj hnd _ _ h4
        exact ht1 ⟨h2, this.symm⟩
    · rintro (q | ⟨q, c⟩)
      · exact .inl q
      · exact .inr ⟨.inl q, c⟩
theorem kids_inv (hw : Wf l) {a : Nat} (ha : a < l.length) : ∀ (m p : Nat) (s : Fs), p + m = (kidsAt l a).length →
    Inv l (fun x => Da l (a + 1) x ∨ x ∈ (kidsAt l a).take p) (fun y => (Ea l (a + 1) y ∨ y = a) ∨ (y ∈ (kidsAt l a).take p ∧ catches l (around l) y = true)) s →
    Inv l (fun x => Da l (a + 1) x ∨ x ∈ kidsAt l a) (fun y => (Ea l (a + 1) y ∨ y = a) ∨ (y ∈ kidsAt l a ∧ catches l (around l) y = true)) (Sc.kidsFrom l a p m s)
  | 0, p, s, e, h => by rw [List.take_of_length_le (by omega)] at h; exact h
  | m + 1, p, s, e, h => by
    rw [Sc.kidsFrom]
    exact kids_inv hw ha m (p + 1) _ (by omega) (kid_inv hw ha (by omega) h)
theorem enter_inv (hw : Wf l) {a : Nat} {s : Fs} (ha : a < l.length) (h : Inv l (Da l (a + 1)) (Ea l (a + 1)) s) : Inv l (Da l a) (Ea l a) (Sc.enter l a s) := by
  have h1 := opens_inv hw ha h
  have hn : Sc.kidsOf l a = (kidsAt l a).length := by unfold Sc.kidsOf kidsAt; rw [List.getElem?_eq_getElem ha, getD_at ha]; rfl
  have h2 := kids_inv hw ha (kidsAt l a).length 0 (Sc.opens l a s) (by omega) (h1.weak (fun x _ d => by simpa using d) (fun y _ => by simp))
  unfold Sc.enter
  rw [hn]
  refine h2.weak (fun x hx d => ?_) (fun y hy => ?_)
  · rcases d with d | d
    · rcases up_cases hw hx with ⟨b, hb, hm, hlt, e⟩ | ⟨_, e⟩
      · rw [show up l x = (b : Int) from e] at d
        by_cases hab : b = a
        · subst hab; exact .inr hm
        · left; left; rw [show up l x = (b : Int) from e]; omega
      · exact .inl (.inr e)
    · exact .inl (.inr d)
  · constructor
    · rintro (q | ⟨c, q⟩)
      · by_cases e : y = a
        · exact .inl (.inr e)
        · exact .inl (.inl (.inl (by omega)))
      · rcases up_cases hw hy with ⟨b, hb, hm, hlt, e⟩ | ⟨_, e⟩
        · rw [show up l y = (b : Int) from e] at q
          by_cases hab : b = a
          · subst hab; exact .inr ⟨hm, c⟩
          · exact .inl (.inl (.inr ⟨c, by rw [show up l y = (b : Int) from e]; omega⟩))
        · rw [show up l y = -1 from e] at q; omega
    · rintro ((q | q) | ⟨q, c⟩)
      · rcases q with q | ⟨c, q⟩
        · exact .inl (by omega)
        · exact .inr ⟨c, by omega⟩
      · exact .inl (by omega)
      · exact .inr ⟨c, by rw [show up l y = (a : Int) from up_of hw ha q]; omega⟩
theorem down_inv (hw : Wf l) : ∀ (a : Nat) (s : Fs), a ≤ l.length → Inv l (Da l a) (Ea l a) s → Inv l (Da l 0) (Ea l 0) (Sc.down l a s)
  | 0, s, _, h => h
  | a + 1, s, ha, h => down_inv hw a _ (by omega) (enter_inv hw (by omega) h)
theorem start_inv (hw : Wf l) : Inv l (Da l l.length) (Ea l l.length) ⟨[], List.replicate l.length (-1), List.replicate l.length (-1)⟩ := by
  have hr : ∀ y, y < l.length → (List.replicate l.length (-1 : Int)).getD y 0 = -1 := fun y hy => by rw [List.getD_eq_getElem?_getD, List.getElem?_replicate, if_pos hy]; rfl
  refine ⟨Sc.ok_start _, fun x hx d => ?_, fun y hy hne => absurd (hr y hy) hne, fun y N hy e hn => ?_, fun y hy hne => absurd (hr y hy) hne⟩
  · show NumOk l _ ((List.replicate l.length (-1 : Int)).getD x 0) _
    rw [hr x hx]
    rcases up_cases hw hx with ⟨b, hb, hm, hlt, e⟩ | ⟨_, e⟩
    · rcases d with d | d
      · rw [show up l x = (b : Int) from e] at d; omega
      · rw [show up l x = (b : Int) from e] at d; omega
    · rw [show up l x = -1 from e]; exact .top (by omega)
  · exfalso
    rcases e with e | ⟨c, e⟩
    · omega
    · rcases up_cases hw hy with ⟨b, hb, hm, hlt, e2⟩ | ⟨_, e2⟩
      · rw [show up l y = (b : Int) from e2] at e; omega
      · rw [show up l y = -1 from e2] at e; omega
theorem found_inv (hw : Wf l) : Inv l (fun _ => True) (fun _ => True) (Sc.found l) := by
  have h := down_inv hw l.length _ (Nat.le_refl _) (start_inv hw)
  refine h.weak (fun x hx _ => ?_) (fun y hy => ⟨fun _ => .inl (Nat.zero_le _), fun _ => trivial⟩)
  rcases up_cases hw hx with ⟨b, hb, hm, hlt, e⟩ | ⟨_, e⟩
  · left; rw [show up l x = (b : Int) from e]; omega
  · exact .inr e
/-! ## Slots, spots -/
theorem slot_eq (hw : Wf l) {y : Nat} (hy : y < l.length) : (if (Sc.found l).own.getD y 0 = -1 then -1 else (((Sc.found l).scopes[((Sc.found l).own.getD y 0).toNat]?.map (fun p => (p.names.length : Int))).getD 0)) = slot l y := by
  have h := found_inv hw
  by_cases e : (Sc.found l).own.getD y 0 = -1
  · rw [if_pos e]
    unfold slot
    cases hn : names l (around l) y with
    | none => rfl
    | some N => exact absurd e (h.opn y N hy trivial hn)
  · rw [if_neg e]
    obtain ⟨q, p, h1, h2, h3, _⟩ := h.own y hy e
    unfold slot
    rw [h1, Int.toNat_natCast, h2, show names l (around l) y = some p.names from h3]
    rfl
def pairOf (r : Option (Nat × Nat)) : Int × Int := match r with
  | none => (-1, 0)
  | some (d, k) => ((d : Int), (k : Int))
theorem find_climb (hw : Wf l) (nm : List UInt8) : ∀ (c : Nat) (k num : Int) (f d : Nat), NumOk l (Sc.found l) num k → (l.length : Int) < k + c ∨ k < 0 ∧ 0 < c → num + 1 < f → 0 < f → pairOf (Sc.find (Sc.found l).scopes nm f num d) = climb l (around l) nm c k d
  | 0, k, num, f, d, h, hc, _, _ => by
    rcases hc with hc | hc
    · cases h with
      | top h => omega
      | sc _ _ _ h4 => omega
      | up _ h4 _ => omega
    · omega
  | c + 1, k, num, f + 1, d, h, hc, hf, _ => by
    have hI := found_inv hw
    cases h with
    | top h => rw [climb, if_pos h, Sc.find, if_pos rfl]; rfl
    | @sc k _ N h1 h2 h3 h4 =>
      have hu := up_ge hw h4
      rw [climb, if_neg (by omega), Int.toNat_natCast, show names l (around l) k = some N from h1]
      obtain ⟨q, p, g1, g2, g3, g4⟩ := hI.own k h4 (by rw [h2]; exact h3)
      have eN : p.names = N := by have := g3.symm.trans h1; exact Option.some.inj this
      have enum : num = (q : Int) := by rw [← h2, g1]
      rw [Sc.find, if_neg h3, enum, Int.toNat_natCast, g2]
      simp only
      rw [eN]
      cases hx : N.idxOf? nm with
      | some p => rfl
      | none =>
        simp only
        have hq : q < (Sc.found l).scopes.length := by
          rcases Nat.lt_or_ge q (Sc.found l).scopes.length with c | c
          · exact c
          · rw [List.getElem?_eq_none c] at g2; cases g2
        have hpr : (Sc.found l).scopes[q] = p := by rw [List.getElem?_eq_getElem hq] at g2; exact Option.some.inj g2
        have har := hI.ok.up q hq
        rw [hpr] at har
        refine find_climb hw nm c (up l k) p.around f (d + 1) g4 ?_ ?_ ?_
        · rcases hu with e | e
          · exact .inr ⟨by rw [e]; decide, by omega⟩
          · exact .inl (by omega)
        · omega
        · omega
    | @up k _ h1 h4 h5 =>
      have hu := up_ge hw h4
      rw [climb, if_neg (by omega), Int.toNat_natCast, show names l (around l) k = none from h1]
      simp only
      refine find_climb hw nm c (up l k) num (f + 1) d h5 ?_ hf (by omega)
      rcases hu with e | e
      · exact .inr ⟨by rw [e]; decide, by omega⟩
      · exact .inl (by omega)
theorem okB_decl {n : Nd} {ks : List Nat} {k : Nat} (hok : Rp.okB n ks = true) (hm : k ∈ ks) (he : Rp.eK k = false) (ht : Rp.tK k = false) (h10 : k ≠ 10) (h25 : k ≠ 25) : n.k = 10 ∨ n.k = 25 ∨ n.k = 33 := by
  have hE : ks.all Rp.eK = true → False := fun q => by
    have := List.all_eq_true.1 q _ hm
    rw [he] at this; cases this
  have hT : ∀ x, Rp.eK x = true ∨ Rp.tK x = true → k = x → False := fun x q e => by
    subst e
    rcases q with q | q
    · rw [he] at q; cases q
    · rw [ht] at q; cases q
  have hA : ∀ {b : Bool}, (ks.all Rp.eK && b) = true → False := fun q => by rw [Bool.and_eq_true] at q; exact hE q.1
  unfold Rp.okB at hok
  by_cases c1 : n.k = 8
  · rw [if_pos c1] at hok; exact (hA hok).elim
  rw [if_neg c1] at hok
  by_cases c2 : n.k = 9
  · rw [if_pos c2] at hok; exact (hE hok).elim
  rw [if_neg c2] at hok
  by_cases c3 : n.k = 10 ∨ n.k = 25 ∨ n.k = 33
  · exact c3
  rw [if_neg c3] at hok
  by_cases c4 : n.k = 11 ∨ n.k = 14 ∨ n.k = 20 ∨ n.k = 21 ∨ n.k = 22 ∨ n.k = 24 ∨ n.k = 31
  · rw [if_pos c4] at hok; exact (hA hok).elim
  rw [if_neg c4] at hok
  by_cases c5 : n.k = 12 ∨ n.k = 15 ∨ n.k = 16 ∨ n.k = 17 ∨ n.k = 19
  · rw [if_pos c5] at hok; exact (hA hok).elim
  rw [if_neg c5] at hok
  by_cases c6 : n.k = 13
  · rw [if_pos c6] at hok; exact (hA hok).elim
  rw [if_neg c6] at hok
  by_cases c7 : n.k = 18
  · rw [if_pos c7] at hok; exact (hA hok).elim
  rw [if_neg c7] at hok
  by_cases c8 : n.k = 23
  · rw [if_pos c8] at hok
    rw [of_decide_eq_true hok, List.mem_singleton] at hm
    exact absurd hm h10
  rw [if_neg c8] at hok
  by_cases c9 : n.k = 26
  · rw [if_pos c9] at hok
    exfalso
    match ks, hok, hm with
    | [a, b], hok, hm =>
      simp only [Bool.and_eq_true] at hok
      simp only [List.mem_cons, List.not_mem_nil, or_false] at hm
      rcases hm with c | c
      · exact hT a (.inl hok.1) c
      · exact hT b (.inr hok.2) c
    | [a, b, d], hok, hm =>
      simp only [Bool.and_eq_true] at hok
      simp only [List.mem_cons, List.not_mem_nil, or_false] at hm
      rcases hm with c | c | c
      · exact hT a (.inl hok.1.1) c
      · exact hT b (.inr hok.1.2) c
      · exact hT d (.inr hok.2) c
  rw [if_neg c9] at hok
  by_cases c10 : n.k = 27
  · rw [if_pos c10] at hok
    exfalso
    match ks, hok, hm with
    | [a, b], hok, hm =>
      simp only [Bool.and_eq_true] at hok
      simp only [List.mem_cons, List.not_mem_nil, or_false] at hm
      rcases hm with c | c
      · exact hT a (.inl hok.1) c
      · exact hT b (.inr hok.2) c
  rw [if_neg c10] at hok
  by_cases c11 : n.k = 30
  · rw [if_pos c11] at hok; exact (hA hok).elim
  rw [if_neg c11] at hok
  by_cases c12 : n.k = 32
  · rw [if_pos c12] at hok
    rw [of_decide_eq_true hok] at hm
    simp only [List.mem_cons, List.not_mem_nil, or_false, or_self] at hm
    exact absurd hm h25
  rw [if_neg c12, Bool.and_eq_true] at hok
  rw [of_decide_eq_true hok.2] at hm
  cases hm
theorem spot_eq (hw : Wf l) {x : Nat} (hx : x < l.length) : Sc.spot l (Sc.found l) x = spot l x := by
  have hI := found_inv hw
  have hin := hI.ok.inn _ (Sc.getD_mem (i := x) (by rw [hI.ok.li]; exact hx))
  have hnum := hI.inn x hx trivial
  have hkk : kindAt l x = (l.getD x {}).k := rfl
  have hu := up_ge hw hx
  have hfc : ∀ nm, pairOf (Sc.find (Sc.found l).scopes nm ((Sc.found l).scopes.length + 1) ((Sc.found l).inn.getD x 0) 0) = climb l (around l) nm (l.length + 1) (up l x) 0 := fun nm =>
    find_climb hw nm (l.length + 1) (up l x) _ _ 0 hnum (by rcases hu with e | e; exact .inr ⟨by omega, by omega⟩; exact .inl (by omega)) (by omega) (by omega)
  have hsp : ∀ nm, (match Sc.find (Sc.found l).scopes nm ((Sc.found l).scopes.length + 1) ((Sc.found l).inn.getD x 0) 0 with | none => ((-1 : Int), (0 : Int)) | some (d, k) => ((d : Int), (k : Int))) = climb l (around l) nm (l.length + 1) (up l x) 0 := fun nm => by
    rw [← hfc nm]; unfold pairOf; rfl
  unfold Sc.spot Sc.asked spot
  rw [kind_at hx]
  simp only
  by_cases h3 : kindAt l x = 3
  · rw [if_pos (show (l.getD x {}).k = 3 from h3), if_neg (by simp [isD, h3]), if_pos h3]
    exact hsp _
  · rw [if_neg (show ¬ (l.getD x {}).k = 3 from h3), makes_eq hw hx]
    by_cases hd : isD (kindAt l x) = true
    · rw [if_pos hd, if_pos hd]
      simp only
      refine (hsp _).trans ?_
      -- its parent has a scope that has it
      rcases up_cases hw hx with ⟨b, hb, hm, hlt, e⟩ | ⟨e1, e⟩
      · have hdm : x ∈ decls l (kidsAt l b) := List.mem_filter.2 ⟨hm, hd⟩
        have hne : decls l (kidsAt l b) ≠ [] := List.ne_nil_of_mem hdm
        have hok := hw.ok b hb
        have hkx : kindAt l x = 21 ∨ kindAt l x = 22 ∨ kindAt l x = 23 := by simpa [isD, or_assoc] using hd
        have hmem : kindAt l x ∈ (kidsAt l b).map (kindAt l) := List.mem_map_of_mem hm
        have hkb : kindAt l b = 10 ∨ kindAt l b = 25 ∨ kindAt l b = 33 := by
          exact okB_decl hok hmem (by rcases hkx with q | q | q <;> rw [q] <;> rfl) (by rcases hkx with q | q | q <;> rw [q] <;> rfl) (by omega) (by omega)
        obtain ⟨N, hN, hin⟩ : ∃ N, names l (around l) b = some N ∧ nameOf l x ∈ N := by
          have hmn : nameOf l x ∈ (decls l (kidsAt l b)).map (nameOf l) := List.mem_map_of_mem hdm
          unfold names
          simp only
          rcases hkb with q | q | q
          · rw [if_neg (by omega), if_pos q]; exact ⟨_, rfl, List.mem_append_right _ hmn⟩
          · rw [if_neg (by omega), if_neg (by omega)]
            by_cases c : kindAt l b = 25 ∧ catches l (around l) b = true
            · rw [if_pos c]; exact ⟨_, rfl, List.mem_cons_of_mem _ hmn⟩
            · rw [if_neg c, if_pos ⟨q, hne⟩]; exact ⟨_, rfl, hmn⟩
          · rw [if_pos q]; exact ⟨_, rfl, hmn⟩
        rw [show up l x = (b : Int) from e, climb, if_neg (by omega), Int.toNat_natCast, hN, show (around l).getD x 0 = (b : Int) from e, Int.toNat_natCast, hN]
        simp only [Option.getD_some]
        unfold place
        cases hx2 : N.idxOf? (nameOf l x) with
        | some p => rfl
        | none => rw [List.idxOf?_eq_none_iff] at hx2; exact absurd hin hx2
      · exfalso
        have := hw.last.2
        rw [show l.length - 1 = x by omega] at this
        rw [this] at hd
        simp [isD] at hd
    · rw [if_neg hd, if_neg hd, if_neg h3]
end
end Go.Proofs.Ytkaacmghgobhmaa.Sr
end
