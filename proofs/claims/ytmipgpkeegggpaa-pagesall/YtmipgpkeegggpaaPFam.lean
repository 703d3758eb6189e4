-- PROVED: the reference's family in memory; whether another book has a page.
import Derived.Test.YtmipgpkeegggpaaPSame
namespace Go.Proofs.Ytmipgpkeegggpaa.P
open Go.RowKit
set_option linter.unusedVariables false
/-- A book of the reference: its cells, the numbers of its pages, whether it is gone; where the two lists lie. -/
structure Rb where
  cells : List Cl
  pgs : List Nat
  gone : Bool
  vC : Value
  vP : Value
def Ints (base : Nat) (w : World) (v : Value) (l : List Nat) : Prop :=
  ∃ a cap, v = .slice a l.length cap ∧ l.length ≤ cap ∧ (l.length = 0 ∨ ∃ b off arr fz, a = some ⟨b, off, none⟩ ∧ w.heap[b]? = some (.cells arr 3 fz) ∧ ∀ j (h : j < l.length), w.cell? ⟨b, off + j, none⟩ = some (.int .i64 ((l[j] : Nat) : Int)))
def Cells (base : Nat) (w : World) (v : Value) (L : List Cl) : Prop :=
  ∃ a cap, v = .slice a L.length cap ∧ L.length ≤ cap ∧ (L.length = 0 ∨ ∃ b off arr fz, a = some ⟨b, off, none⟩ ∧ w.heap[b]? = some (.cells arr 30 fz) ∧ ∀ j (h : j < L.length), ∃ vK vV,
    w.cell? ⟨b, off + j * 5, none⟩ = some (.int .i64 L[j].kind) ∧ w.cell? ⟨b, off + j * 5 + 1, none⟩ = some (.int .i64 L[j].a) ∧ w.cell? ⟨b, off + j * 5 + 2, none⟩ = some (.int .i64 L[j].b) ∧ w.cell? ⟨b, off + j * 5 + 3, none⟩ = some vK ∧ w.cell? ⟨b, off + j * 5 + 4, none⟩ = some vV ∧ Parts base w vK vV L[j])
section
variable {base : Nat} {w w' : World} {v : Value}
theorem Ints.keep {S : List TypeId} {l : List Nat} (h : Ints base w v l) (k : Keep S base w w') (hS : 3 ∉ S) : Ints base w' v l := by
  obtain ⟨a, cap, h1, h2, h3⟩ := h
  refine ⟨a, cap, h1, h2, h3.imp id ?_⟩
  rintro ⟨b, off, arr, fz, h4, h5, h6⟩
  have e := k.same _ _ _ _ h5 hS
  exact ⟨b, off, arr, fz, h4, e.trans h5, fun j hj => (World.cell?_of_block (a := ⟨b, off + j, none⟩) e).trans (h6 j hj)⟩
theorem Cells.keep {S : List TypeId} {L : List Cl} (h : Cells base w v L) (k : Keep S base w w') (hS : 30 ∉ S) (hM : ∀ T, T ∈ S → Mine T) : Cells base w' v L := by
  obtain ⟨a, cap, h1, h2, h3⟩ := h
  refine ⟨a, cap, h1, h2, h3.imp id ?_⟩
  rintro ⟨b, off, arr, fz, h4, h5, h6⟩
  have e := k.same _ _ _ _ h5 hS
  refine ⟨b, off, arr, fz, h4, e.trans h5, fun j hj => ?_⟩
  obtain ⟨vK, vV, c0, c1, c2, c3, c4, c5⟩ := h6 j hj
  exact ⟨vK, vV, (World.cell?_of_block (a := ⟨b, off + j * 5, none⟩) e).trans c0, (World.cell?_of_block (a := ⟨b, off + j * 5 + 1, none⟩) e).trans c1, (World.cell?_of_block (a := ⟨b, off + j * 5 + 2, none⟩) e).trans c2, (World.cell?_of_block (a := ⟨b, off + j * 5 + 3, none⟩) e).trans c3, (World.cell?_of_block (a := ⟨b, off + j * 5 + 4, none⟩) e).trans c4, c5.keep k hM⟩
theorem Ints.nil (base : Nat) (w : World) : Ints base w (.slice none 0 0) [] := ⟨none, 0, rfl, Nat.le_refl _, .inl rfl⟩
theorem Cells.nil (base : Nat) (w : World) : Cells base w (.slice none 0 0) [] := ⟨none, 0, rfl, Nat.le_refl _, .inl rfl⟩
end
def rcells (l : List Rb) : List Value := l.flatMap fun r => [r.vC, r.vP, .bool r.gone]
theorem rcells_length (l : List Rb) : (rcells l).length = l.length * 3 := by
  induction l with
  | nil => rfl
  | cons r l ih => simp only [rcells, List.flatMap_cons, List.length_append] at ih ⊢; rw [ih]; simp; omega
theorem rcells_at : ∀ (l : List Rb) (j : Nat) (r : Rb), l[j]? = some r → (rcells l)[j * 3]? = some r.vC ∧ (rcells l)[j * 3 + 1]? = some r.vP ∧ (rcells l)[j * 3 + 2]? = some (.bool r.gone)
  | [], j, r, h => by simp at h
  | x :: l, 0, r, h => by simp at h; subst h; exact ⟨rfl, rfl, rfl⟩
  | x :: l, j + 1, r, h => by
    obtain ⟨h1, h2, h3⟩ := rcells_at l j r (by simpa using h)
    have e : rcells (x :: l) = [x.vC, x.vP, .bool x.gone] ++ rcells l := by simp [rcells]
    rw [e]
    refine ⟨?_, ?_, ?_⟩
    · rw [List.getElem?_append_right (by simp; omega), show (j + 1) * 3 - [x.vC, x.vP, Value.bool x.gone].length = j * 3 by simp; omega]; exact h1
    · rw [List.getElem?_append_right (by simp; omega), show (j + 1) * 3 + 1 - [x.vC, x.vP, Value.bool x.gone].length = j * 3 + 1 by simp; omega]; exact h2
    · rw [List.getElem?_append_right (by simp; omega), show (j + 1) * 3 + 2 - [x.vC, x.vP, Value.bool x.gone].length = j * 3 + 2 by simp; omega]; exact h3
/-- The reference's family. -/
structure Fam (base : Nat) (w : World) (fB : Nat) (rs : List Rb) (nx : Nat) : Prop where
  low : base ≤ fB
  fam : ∃ v, w.heap[fB]? = some (.cells #[v, .int .i64 (nx : Int)] 58 (0, 0)) ∧ w.ownsRow base 55 3 v rs.length (rcells rs)
  book : ∀ (i : Nat) (r : Rb), rs[i]? = some r → Cells base w r.vC r.cells ∧ Ints base w r.vP r.pgs ∧ r.cells.length ≤ 4096 ∧ r.pgs.length ≤ 1000
  few : rs.length ≤ 1000
section
variable {base fB nx : Nat} {w w' : World} {rs : List Rb}
theorem Fam.keep {S : List TypeId} (h : Fam base w fB rs nx) (k : Keep S base w w') (hS : ∀ T, T ∈ S → Mine T ∧ T ≠ 58 ∧ T ≠ 55 ∧ T ≠ 30 ∧ T ≠ 3) : Fam base w' fB rs nx := by
  obtain ⟨v, h1, h2⟩ := h.fam
  refine ⟨h.low, ⟨v, (k.same _ _ _ _ h1 fun e => (hS _ e).2.1 rfl).trans h1, own_same h2 fun g cur _ hg => k.same _ _ _ _ hg fun e => (hS _ e).2.2.1 rfl⟩, fun i r hr => ?_, h.few⟩
  obtain ⟨g1, g2, g3⟩ := h.book i r hr
  exact ⟨g1.keep k (fun e => (hS _ e).2.2.2.1 rfl) fun T hT => (hS T hT).1, g2.keep k fun e => (hS _ e).2.2.2.2 rfl, g3⟩
/-- A book of the family, in memory. -/
theorem Fam.at_ (h : Fam base w fB rs nx) {i : Nat} {r : Rb} (hr : rs[i]? = some r) :
    ∃ g cap, w.cell? ⟨fB, 0, none⟩ = some (.slice (some ⟨g, 0, none⟩) rs.length cap) ∧ w.cell? ⟨fB, 1, none⟩ = some (.int .i64 (nx : Int)) ∧ fB < w.heap.size ∧ w.frozen? ⟨fB, 1, none⟩ = false ∧ w.frozen? ⟨fB, 0, none⟩ = false ∧ i < rs.length ∧ rs.length ≤ cap ∧ base ≤ g ∧ g < w.heap.size ∧
      w.cell? ⟨g, i * 3, none⟩ = some r.vC ∧ w.cell? ⟨g, i * 3 + 1, none⟩ = some r.vP ∧ w.cell? ⟨g, i * 3 + 2, none⟩ = some (.bool r.gone) ∧ (∀ o, w.frozen? ⟨g, o, none⟩ = false) ∧ (∃ cur, w.heap[g]? = some (.cells cur 55 (0, 0))) ∧ w.ownsRow base 55 3 (.slice (some ⟨g, 0, none⟩) rs.length cap) rs.length (rcells rs) := by
  obtain ⟨v, h1, h2⟩ := h.fam
  have hl := (List.getElem?_eq_some_iff.1 hr).1
  have hc := fun g hg => h2.cells (g := g) hg
  obtain ⟨c0, c1, c2⟩ := rcells_at rs i r hr
  have h2' := h2
  rcases h2.2 with ⟨h4, h5⟩ | ⟨g, cap, cur, h4, h5, h6, h7, _⟩
  · omega
  · subst h4
    have hcc : ∀ (j : Nat) (u : Value), (rcells rs)[j]? = some u → w.cell? ⟨g, j, none⟩ = some u := fun j u hj => by
      have := hc g rfl j u hj
      rw [Go.WideShapes.add_plain, Nat.zero_add] at this
      exact this
    exact ⟨g, cap, cellsOf h1 0, cellsOf h1 1, heap_lt h1, by simp [World.frozen?, h1], by simp [World.frozen?, h1], hl, h7, h5, heap_lt h6, hcc _ _ c0, hcc _ _ c1, hcc _ _ c2, fun o => by simp [World.frozen?, h6], ⟨cur, h6⟩, h2'⟩
theorem Ints.at_ {v : Value} {l : List Nat} (h : Ints base w v l) {j x : Nat} (hj : l[j]? = some x) : ∃ b off cap, v = .slice (some ⟨b, off, none⟩) l.length cap ∧ j < l.length ∧ b < w.heap.size ∧ w.cell? ⟨b, off + j, none⟩ = some (.int .i64 (x : Int)) := by
  obtain ⟨a, cap, h1, h2, h3⟩ := h
  obtain ⟨hl, rfl⟩ := List.getElem?_eq_some_iff.1 hj
  obtain ⟨b, off, arr, fz, rfl, h5, h6⟩ := h3.resolve_left (by omega)
  exact ⟨b, off, cap, h1, hl, heap_lt h5, h6 j hl⟩
/-- Whether another book than b has a page of number n. -/
def Other (rs : List Rb) (b n : Nat) (x : Bool) : Prop := x = true ↔ ∃ i r, i ≠ b ∧ rs[i]? = some r ∧ n ∈ r.pgs
set_option maxRecDepth 100000 in
set_option maxHeartbeats 4000000 in
theorem shared_any (h : Fam base w fB rs nx) (b n : Nat) :
    Calls Try.prog 55 #[.pointer (some ⟨fB, 0, none⟩), .int .i64 (b : Int), .int .i64 (n : Int)] w fun e w' => ∃ x : Bool, e = .returned (.bool x) ∧ Other rs b n x ∧ w' = w := by
  obtain ⟨v, h1, h2⟩ := h.fam
  obtain ⟨va, vcap, rfl⟩ : ∃ a cap, v = .slice a rs.length cap := by
    rcases h2.2 with ⟨h4, h5⟩ | ⟨g, cap, cur, h4, _⟩
    · exact ⟨none, 0, by rw [h4, h5]⟩
    · exact ⟨_, _, h4⟩
  have f0 := cellsOf h1 0
  simp at f0
  have lf := heap_lt h1
  have hfew := h.few
  have H : Hid (Fam base w fB rs nx) := h
  have HV : Hid (w.heap[fB]? = some (.cells #[.slice va rs.length vcap, .int .i64 (nx : Int)] 58 (0, 0))) := h1
  clear h1 h2 h
  go_enter Try.func55, Try.ntmps55
  go_wp2_with fail
  go_loop [7] (fun i => ∃ i' : Nat, i = .int .i64 (i' : Int) ∧ i' ≤ rs.length ∧ Hid (∀ k r, k < i' → k ≠ b → rs[k]? = some r → n ∉ r.pgs)) (fun i => rs.length - (intOf i).toNat)
  case atStart => exact ⟨0, rfl, by omega, fun k r hk => by omega⟩
  case round =>
    obtain ⟨i, rfl, hi, HI⟩ := hrel
    by_cases hlt : i < rs.length
    · have hlt' : (i : Int) < (rs.length : Int) := by omega
      obtain ⟨r, hr⟩ : ∃ r, rs[i]? = some r := ⟨_, List.getElem?_eq_getElem hlt⟩
      obtain ⟨g, cap, e0, -, -, -, -, -, hcap, -, hgl, -, c1, -⟩ := H.out.at_ hr
      rw [f0] at e0
      injection e0 with e0
      injection e0 with e0 x1 x2
      subst e0
      clear x1 x2
      obtain ⟨pa, pcap, hvp, -⟩ := (H.out.book i r hr).2.1
      rw [hvp] at c1
      have hpl := (H.out.book i r hr).2.2.2
      have HP : Hid (Ints base w r.vP r.pgs) := (H.out.book i r hr).2.1
      have HR : Hid (rs[i]? = some r) := hr
      have HVP : Hid (r.vP = .slice pa r.pgs.length pcap) := hvp
      clear hr hvp
      go_wp2_with fail
      go_loop [8] (fun k => ∃ k' : Nat, k = .int .i64 (k' : Int) ∧ k' ≤ r.pgs.length ∧ Hid (i ≠ b → ∀ j, j < k' → r.pgs[j]? ≠ some n)) (fun k => r.pgs.length - (intOf k).toNat)
      case atStart => exact ⟨0, rfl, by omega, fun _ j hj => by omega⟩
      case round =>
        obtain ⟨k, rfl, hk, HKK⟩ := hrel
        by_cases hlk : k < r.pgs.length
        · have hlk' : (k : Int) < (r.pgs.length : Int) := by omega
          obtain ⟨x, hx⟩ : ∃ x, r.pgs[k]? = some x := ⟨_, List.getElem?_eq_getElem hlk⟩
          obtain ⟨bb, off, cc, e1, -, hbl, hcl⟩ := HP.out.at_ hx
          rw [HVP.out] at e1
          injection e1 with e1 x1 x2
          subst e1
          clear x1 x2
          have HX : Hid (r.pgs[k]? = some x) := hx
          clear hx
          by_cases hib : i = b
          · subst hib
            go_wp2_with fail
            go_round
            case rel => exact ⟨k + 1, by go_num, by omega, fun hn => absurd rfl hn⟩
            case measure => simp [intOf]; omega
          · have hib' : ¬ (i : Int) = (b : Int) := by omega
            have hib2 : ((i : Int) == (b : Int)) = false := by simpa using hib'
            by_cases hxn : x = n
            · subst hxn
              go_wp2_with fail
              go_ret
              exact .inr ⟨rfl, by unfold Other; simp only [true_iff]; exact ⟨i, r, hib, HR.out, List.mem_of_getElem? HX.out⟩, rfl⟩
            · have hxn' : ¬ (x : Int) = (n : Int) := by omega
              have hxn2 : ((x : Int) == (n : Int)) = false := by simpa using hxn'
              go_wp2_with fail
              go_round
              case rel => exact ⟨k + 1, by go_num, by omega, fun hn j hj e => by
                by_cases ej : j = k
                · subst ej; rw [HX.out] at e; exact hxn (Option.some.inj e)
                · exact HKK.out hn j (by omega) e⟩
              case measure => simp [intOf]; omega
        · have hlk' : ¬ (k : Int) < (r.pgs.length : Int) := by omega
          go_wp2_with fail
          go_round
          case rel => exact ⟨i + 1, by go_num, by omega, fun j r' hj hjb hr' hm => by
            by_cases ej : j = i
            · subst ej
              rw [HR.out] at hr'
              cases hr'
              obtain ⟨l, hl⟩ := List.mem_iff_getElem?.1 hm
              exact HKK.out hjb l (by have := (List.getElem?_eq_some_iff.1 hl).1; omega) hl
            · exact HI.out j r' (by omega) hjb hr' hm⟩
          case measure => simp [intOf]; omega
    · have hlt' : ¬ (i : Int) < (rs.length : Int) := by omega
      go_wp2_with fail
      go_ret
      exact .inl ⟨rfl, by
        unfold Other
        simp only [Bool.false_eq_true, false_iff]
        rintro ⟨k, r, h1, h2, h3⟩
        exact HI.out k r (by have := (List.getElem?_eq_some_iff.1 h2).1; omega) h1 h2 h3, rfl⟩
end
end Go.Proofs.Ytmipgpkeegggpaa.P
