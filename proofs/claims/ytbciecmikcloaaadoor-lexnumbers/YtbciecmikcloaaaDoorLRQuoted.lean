/- The reference's quoted by its contract. -/
import Derived.Test.YtbciecmikcloaaaDoorLRNumber
import Derived.Test.YtbciecmikcloaaaDoorLAll
import Derived.Laws.BytesArg
import Derived.Laws.IdiomStrings
namespace Go.Proofs.YtbciecmikcloaaaDoor.L
open Go.RowKit
set_option linter.unusedVariables false
/-- Where one is within a text: what it says so far lies in memory of one's own. -/
structure QS (B : Nat) (w2 : World) (s : ByteArray) (p : Nat) (R : Option Lx.Pc) (k : Nat) (bs : List UInt8) (v : Value) (W : World) : Prop where
  own : W.ownsRow B 5 1 v bs.length (Lib.byteCells bs)
  bel : Below B w2 W
  few : bs.length ≤ k
  at_ : p ≤ k
  rest : R = (Lx.quo (s.data.toList.drop k)).map fun r => ⟨2, bs ++ r.1, 0, r.2 + (k - p)⟩
theorem byLen {W : World} {B n : Nat} {v : Value} {bs : List UInt8} (h : W.ownsRow B 5 1 v n (Lib.byteCells bs)) : W.ownsRow B 5 1 v (Lib.byteCells bs).length (Lib.byteCells bs) := by
  have e : (Lib.byteCells bs).length = n := by have := h.1; simpa using this
  rw [e]; exact h
theorem QS.none {B : Nat} {w2 : World} {s : ByteArray} {p : Nat} {R : Option Lx.Pc} {k : Nat} {bs : List UInt8} {v : Value} {W : World} (h : QS B w2 s p R k bs v W) (hq : Lx.quo (s.data.toList.drop k) = Option.none) : R = Option.none := by
  rw [h.rest, hq]; rfl
theorem QS.next {B : Nat} {w2 : World} {s : ByteArray} {p : Nat} {R : Option Lx.Pc} {k : Nat} {bs : List UInt8} {v v' : Value} {W w3 : World} {c : UInt8} {z : Nat} (h : QS B w2 s p R k bs v W)
    (hq : Lx.quo (s.data.toList.drop k) = (Lx.quo (s.data.toList.drop (k + z))).map fun r => (c :: r.1, r.2 + z)) (ho : w3.ownsRow B 5 1 v' (Lib.byteCells bs ++ [Value.int .u8 (c.toNat : Int)]).length (Lib.byteCells bs ++ [Value.int .u8 (c.toNat : Int)])) (hb : Below B W w3) (hz : 0 < z := by omega) : QS B w2 s p R (k + z) (bs ++ [c]) v' w3 := by
  have hp := h.at_
  refine ⟨?_, h.bel.trans hb, by have := h.few; simp; omega, by omega, ?_⟩
  · rw [byteCells_snoc] at ho
    have e : (Lib.byteCells (bs ++ [c])).length = (bs ++ [c]).length := by simp [Lib.byteCells]
    rw [e] at ho; exact ho
  · rw [h.rest, hq, Option.map_map]
    congr 1
    funext r
    simp only [Function.comp, List.append_assoc, List.singleton_append]
    congr 1
    omega
theorem quo_end (s : ByteArray) (k : Nat) (h : k = s.size) : Lx.quo (s.data.toList.drop k) = none := by
  rw [List.drop_of_length_le (by rw [size_list]; omega)]; rfl
theorem quo_one (c : UInt8) (l : List UInt8) (h : c.toNat ≠ 34) (h2 : c.toNat ≠ 92) (h3 : 32 ≤ c.toNat) (h4 : c.toNat ≤ 126) : Lx.quo (c :: l) = (Lx.quo l).map fun r => (c :: r.1, r.2 + 1) := by
  rw [Lx.quo_said c l h]
  have e : Lx.said (c :: l) = some (c, 1) := by
    cases l <;> simp [Lx.said, h2, h3, h4]
  rw [e]; rfl
theorem quo_bad (c : UInt8) (l : List UInt8) (h : c.toNat ≠ 34) (h2 : c.toNat ≠ 92) (h3 : c.toNat < 32 ∨ 126 < c.toNat) : Lx.quo (c :: l) = none := by
  rw [Lx.quo_said c l h]
  have e3 : ¬ (32 ≤ c.toNat ∧ c.toNat ≤ 126) := by omega
  have e : Lx.said (c :: l) = none := by
    cases l
    · simp only [Lx.said]; rw [if_neg h2, if_neg e3]
    · simp only [Lx.said]; rw [if_neg h2, if_neg e3]
  rw [e]
theorem quo_last (c : UInt8) (h2 : c.toNat = 92) : Lx.quo [c] = none := by
  rw [Lx.quo_said c [] (by omega)]; simp [Lx.said, h2]
theorem quo_same (c d : UInt8) (l : List UInt8) (h : c.toNat = 92) (h2 : d.toNat = 34 ∨ d.toNat = 92) : Lx.quo (c :: d :: l) = (Lx.quo l).map fun r => (d :: r.1, r.2 + 2) := by
  rw [Lx.quo_said c _ (by omega)]; simp [Lx.said, h, h2]
theorem quo_line (c d : UInt8) (l : List UInt8) (h : c.toNat = 92) (h2 : d.toNat = 110) : Lx.quo (c :: d :: l) = (Lx.quo l).map fun r => (10 :: r.1, r.2 + 2) := by
  rw [Lx.quo_said c _ (by omega)]; simp [Lx.said, h, h2]
theorem quo_other (c d : UInt8) (l : List UInt8) (h : c.toNat = 92) (h2 : d.toNat ≠ 34) (h3 : d.toNat ≠ 92) (h4 : d.toNat ≠ 110) : Lx.quo (c :: d :: l) = none := by
  rw [Lx.quo_said c _ (by omega)]; simp [Lx.said, h, h2, h3, h4]
theorem quo_close (c : UInt8) (l : List UInt8) (h : c.toNat = 34) : Lx.quo (c :: l) = some ([], 1) := by
  cases l <;> simp [Lx.quo, h]
theorem own_text {w : World} {base : Nat} {v : Value} {l : List UInt8} (h : w.ownsRow base 5 1 v l.length (Lib.byteCells l)) : ∃ a n c, v = .slice a n c ∧ ∀ W', (∀ j, j < l.length → ∀ g, a = some ⟨g, 0, none⟩ → W'.cell? ⟨g, j, none⟩ = w.cell? ⟨g, j, none⟩) → (convert 34 9 (.slice a n c)).run Tryd.prog W' = .ok (.string ⟨l.toArray⟩) W' := by
  rcases h.2 with ⟨e, e0⟩ | ⟨g, cap, cur, e, hb, _⟩
  · refine ⟨none, 0, 0, e, fun W' _ => ?_⟩
    have : l = [] := List.length_eq_zero_iff.1 e0
    subst this
    exact run_convert_bytes_nil W' 34 5 Tryd.underlying34 Tryd.underlying5 _ _ 9 Tryd.underlying9
  · subst e
    refine ⟨_, _, _, rfl, fun W' hW => ?_⟩
    have := run_convert_bytes_back (P := Tryd.prog) W' 34 9 5 ⟨g, 0, none⟩ cap l Tryd.underlying34 Tryd.underlying5 Tryd.underlying9 (fun j hj => by
      have hc := h.cellAt j (by rw [Nat.mul_one]; exact hj)
      rw [show (⟨g, 0, none⟩ : Addr).add j = ⟨g, j, none⟩ by unfold Addr.add; split <;> simp_all]
      rw [hW j hj g rfl, hc]; simp [Lib.byteCells, List.getElem?_eq_getElem hj])
    exact this
set_option maxRecDepth 100000 in
set_option maxHeartbeats 4000000 in
theorem rquoted_core (s : ByteArray) (p : Nat) (ln : Bool) (w : World) (hs : s.size ≤ 1000000) (hp : p < s.size) (R : Option Lx.Pc)
    (hR : R = (Lx.quo (s.data.toList.drop (p + 1))).map fun r => ⟨2, r.1, 0, r.2 + 1⟩) :
    Calls Tryd.prog 24 #[.string s, .int .i64 (p : Int), .agg #[.int .i64 0, .string ⟨#[]⟩, .int .i64 0, .int .i64 (p : Int), .bool ln]] w fun e w' => FoundT (Lx.tokOf p ln R) e ∧ Below w.heap.size w w' := by
  obtain ⟨B, hB⟩ : ∃ B, w.heap.size + 2 = B := ⟨_, rfl⟩
  obtain ⟨w2, hw2⟩ : ∃ w2, (w.alloc (.cells #[.int .i64 6, .string ⟨#[]⟩, .int .i64 0, .int .i64 (p : Int), .bool ln] 24)).alloc (.cells #[.int .i64 0, .string ⟨#[]⟩, .int .i64 0, .int .i64 0, .bool false, .int .i64 0] 27) = w2 := ⟨_, rfl⟩
  have hs2 : w2.heap.size = B := by rw [← hw2, alloc_size, alloc_size]; omega
  have H0 : Hid (QS B w2 s p R (p + 1) [] (.slice none 0 0) w2) := (show QS _ _ _ _ _ _ _ _ _ from ⟨World.ownsRow_nil _ _ _ _, Below.refl _ _, by simp, by omega, by rw [hR, show p + 1 - p = 1 by omega]; rfl⟩)
  have HW : Hid (∀ W, Below B w2 W → Below (w.heap.size + 1) (w.alloc (.cells #[.int .i64 6, .string ⟨#[]⟩, .int .i64 0, .int .i64 (p : Int), .bool ln] 24)) W ∧ Below (w.heap.size + 1 + 1) ((w.alloc (.cells #[.int .i64 6, .string ⟨#[]⟩, .int .i64 0, .int .i64 (p : Int), .bool ln] 24)).alloc (.cells #[.int .i64 0, .string ⟨#[]⟩, .int .i64 0, .int .i64 0, .bool false, .int .i64 0] 27)) W ∧ Below w.heap.size w W ∧ B ≤ W.heap.size) := (fun W hb => by
    subst hw2
    have h1 := hb.size
    rw [hs2] at h1
    refine ⟨((Below.refl _ _).alloc (by rw [alloc_size]; exact Nat.le_refl _) _).trans (hb.mono (by omega)), hb.mono (by omega), (((Below.refl _ _).alloc (Nat.le_refl _) _).alloc (by rw [alloc_size]; omega) _).trans (hb.mono (by omega)), h1⟩)
  clear hR
  have HB : Hid (_) := hB
  clear hB hs2
  go_enter Tryd.func24, Tryd.ntmps24
  go_wp2
  clear hw2
  go_loopw [7, 8] (fun v i W => ∃ (k : Nat) (bs : List UInt8), p + 1 ≤ k ∧ k ≤ s.size ∧ i = .int .i64 (k : Int) ∧ Hid (QS B w2 s p R k bs v W)) (fun _ i _ => s.size - (intOf i).toNat)
  case atStart => exact ⟨p + 1, [], by omega, by omega, by go_num, H0⟩
  case round =>
    obtain ⟨k, bs, hk1, hk, rfl, HQ⟩ := hrel
    clear H0
    obtain ⟨x1, x2, hBB, hsz⟩ := HW.out _ HQ.out.bel
    obtain ⟨q0, q1, q2, q3, q4, f0, f1, f2, f3, f4⟩ := cells5 rfl x1
    obtain ⟨r0, r1, r2, r3, r4, r5, g0, g1, g2, g3, g4, g5⟩ := cells6 (by rw [alloc_size]) x2
    have hlt1 : w.heap.size < wr.heap.size := by have := HB.out; omega
    have hlt2 : w.heap.size + 1 < wr.heap.size := by have := HB.out; omega
    clear x1 x2 HW
    by_cases hlt : k < s.size
    · have hlt' : (k : Int) < s.size := by omega
      have hd := drop_at s k hlt
      by_cases h34 : s[k].toNat = 34
      · have hc : ((s[k].toNat : Int) == 34) = true := by rw [beq_iff_eq]; omega
        have hc' : ((s[k].toNat : Int) != 34) = false := by rw [bne, hc]; rfl
        have HR' : Hid (R = some ⟨2, bs, 0, 1 + (k - p)⟩) := by
          show _ = _
          rw [HQ.out.rest, hd, quo_close _ _ h34]; simp
        obtain ⟨a, n, c, hv, hcv⟩ := own_text HQ.out.own
        subst hv
        have hcv2 := hcv (wr.setCell ⟨w.heap.size, 0, none⟩ (.int .i64 2)) (fun j _ g e => by
          have := (own_block HQ.out.own g (by subst e; rfl)).1
          have := HB.out
          unfold World.cell?
          show (match (wr.setCell ⟨w.heap.size, 0, none⟩ (.int .i64 2)).heap[g]? with | some (Obj.cells c elem frozen) => c[j]? | x => none) = _
          rw [Below.heap_setCell wr ⟨w.heap.size, 0, none⟩ (.int .i64 2) g (by show g ≠ w.heap.size; omega)]
          rfl)
        clear hd h34 HQ hcv
        go_wp2_with fail
        refine bodyPost_ret (v := .agg #[.int .i64 2, .string ⟨bs.toArray⟩, .int .i64 0, .int .i64 (p : Int), .bool ln, .int .i64 ((k : Int) + 1)]) (by simp [results, Tryd.results24, go_sem, *]) rfl ⟨by rw [show ((k : Int) + 1) = ((p + (1 + (k - p)) : Nat) : Int) by omega]; exact foundT_ok p ln 2 0 _ bs R HR'.out, ?_⟩
        repeat (first | with_reducible exact hBB | (with_reducible refine Below.drew ?_) | (with_reducible refine Below.setCell ?_ (by first | exact Nat.le_refl _ | omega | simp) _) | (with_reducible refine Below.alloc ?_ (by first | exact Nat.le_refl _ | omega | simp | (simp; omega)) _))
      have e34c : (((s[k]).toNat : Int) == 34) = false := by rw [beq_eq_false_iff_ne]; omega
      have e34c' : ((s[k].toNat : Int) != 34) = true := by rw [bne, e34c]; rfl
      by_cases h92 : s[k].toNat = 92
      · have e92c : (((s[k]).toNat : Int) == 92) = true := by rw [beq_iff_eq]; omega
        by_cases hlt3 : k + 1 < s.size
        · have hlt3' : (k : Int) + 1 < s.size := by omega
          have hd2 := drop_at s (k + 1) hlt3
          by_cases d34 : s[k + 1].toNat = 34
          · have e34d : (((s[k + 1]).toNat : Int) == 34) = true := by rw [beq_iff_eq]; omega
            obtain ⟨v', w3, hr, ho, _, hb3⟩ := byte_more (byLen HQ.out.own) hsz (by have := HQ.out.few; simp [Lib.byteCells]; omega) ((s[k + 1]).toNat : Int) 34
            have HN : Hid (QS B w2 s p R (k + 2) (bs ++ [s[k + 1]]) v' w3) := HQ.out.next (by rw [hd, hd2, quo_same _ _ _ h92 (.inl d34)]) ho hb3
            have HRn : Hid (_) := hr
            clear hd hd2 h34 h92 d34 HQ hr ho hb3 hBB q0 q1 q2 q3 q4 f0 f1 f2 f3 f4 r0 r1 r2 r3 r4 r5 g0 g1 g2 g3 g4 g5
            go_wp2_with (at_builtin; refine wpList_append_run _ _ 34 rfl rfl _ _ _ _ rfl rfl HRn.out ?_)
            go_roundw
            case rel => exact ⟨k + 2, bs ++ [s[k + 1]], by omega, by omega, by go_num, HN⟩
            case measure => simp [intOf]; omega
          have e34d : (((s[k + 1]).toNat : Int) == 34) = false := by rw [beq_eq_false_iff_ne]; omega
          by_cases d92 : s[k + 1].toNat = 92
          · have e92d : (((s[k + 1]).toNat : Int) == 92) = true := by rw [beq_iff_eq]; omega
            obtain ⟨v', w3, hr, ho, _, hb3⟩ := byte_more (byLen HQ.out.own) hsz (by have := HQ.out.few; simp [Lib.byteCells]; omega) ((s[k + 1]).toNat : Int) 34
            have HN : Hid (QS B w2 s p R (k + 2) (bs ++ [s[k + 1]]) v' w3) := HQ.out.next (by rw [hd, hd2, quo_same _ _ _ h92 (.inr d92)]) ho hb3
            have HRn : Hid (_) := hr
            clear hd hd2 h34 h92 d34 d92 HQ hr ho hb3 hBB q0 q1 q2 q3 q4 f0 f1 f2 f3 f4 r0 r1 r2 r3 r4 r5 g0 g1 g2 g3 g4 g5
            go_wp2_with (at_builtin; refine wpList_append_run _ _ 34 rfl rfl _ _ _ _ rfl rfl HRn.out ?_)
            go_roundw
            case rel => exact ⟨k + 2, bs ++ [s[k + 1]], by omega, by omega, by go_num, HN⟩
            case measure => simp [intOf]; omega
          have e92d : (((s[k + 1]).toNat : Int) == 92) = false := by rw [beq_eq_false_iff_ne]; omega
          by_cases d110 : s[k + 1].toNat = 110
          · have e110d : (((s[k + 1]).toNat : Int) == 110) = true := by rw [beq_iff_eq]; omega
            obtain ⟨v', w3, hr, ho, _, hb3⟩ := byte_more (byLen HQ.out.own) hsz (by have := HQ.out.few; simp [Lib.byteCells]; omega) ((10 : UInt8).toNat : Int) 34
            have HN : Hid (QS B w2 s p R (k + 2) (bs ++ [10]) v' w3) := HQ.out.next (c := 10) (by rw [hd, hd2, quo_line _ _ _ h92 d110]) ho hb3
            have HRn : Hid (_) := hr
            clear hd hd2 h34 h92 d34 d92 d110 HQ hr ho hb3 hBB q0 q1 q2 q3 q4 f0 f1 f2 f3 f4 r0 r1 r2 r3 r4 r5 g0 g1 g2 g3 g4 g5
            go_wp2_with (at_builtin; refine wpList_append_run _ _ 34 rfl rfl _ _ _ _ rfl rfl HRn.out ?_)
            go_roundw
            case rel => exact ⟨k + 2, bs ++ [10], by omega, by omega, by go_num, HN⟩
            case measure => simp [intOf]; omega
          have e110d : (((s[k + 1]).toNat : Int) == 110) = false := by rw [beq_eq_false_iff_ne]; omega
          have HRn : Hid (R = none) := HQ.out.none (by rw [hd, hd2, quo_other _ _ _ h92 d34 d92 d110])
          clear hd hd2 h34 h92 d34 d92 d110 HQ
          go_wp2_with fail
          refine bodyPost_ret (v := .agg #[.int .i64 6, .string ⟨#[]⟩, .int .i64 0, .int .i64 (p : Int), .bool ln, .int .i64 ((k + 1 : Nat) : Int)]) (by simp [results, Tryd.results24, go_sem, *]) rfl ⟨foundT_bad p ln (k + 1) R HRn.out, ?_⟩
          repeat (first | with_reducible exact hBB | (with_reducible refine Below.drew ?_) | (with_reducible refine Below.setCell ?_ (by first | exact Nat.le_refl _ | omega | simp) _) | (with_reducible refine Below.alloc ?_ (by first | exact Nat.le_refl _ | omega | simp | (simp; omega)) _))
        have hlt3' : ¬ (k : Int) + 1 < s.size := by omega
        have HRn : Hid (R = none) := HQ.out.none (by rw [hd, List.drop_of_length_le (by rw [size_list]; omega), quo_last _ h92])
        clear hd h34 HQ
        go_wp2_with fail
        refine bodyPost_ret (v := .agg #[.int .i64 6, .string ⟨#[]⟩, .int .i64 0, .int .i64 (p : Int), .bool ln, .int .i64 ((k : Nat) : Int)]) (by simp [results, Tryd.results24, go_sem, *]) rfl ⟨foundT_bad p ln (k) R HRn.out, ?_⟩
        repeat (first | with_reducible exact hBB | (with_reducible refine Below.drew ?_) | (with_reducible refine Below.setCell ?_ (by first | exact Nat.le_refl _ | omega | simp) _) | (with_reducible refine Below.alloc ?_ (by first | exact Nat.le_refl _ | omega | simp | (simp; omega)) _))
      have e92c : (((s[k]).toNat : Int) == 92) = false := by rw [beq_eq_false_iff_ne]; omega
      by_cases h32 : s[k].toNat < 32
      · have h32' : (s[k].toNat : Int) < 32 := by omega
        have HRn : Hid (R = none) := HQ.out.none (by rw [hd, quo_bad _ _ h34 h92 (.inl h32)])
        clear hd h34 h92 HQ
        go_wp2_with fail
        refine bodyPost_ret (v := .agg #[.int .i64 6, .string ⟨#[]⟩, .int .i64 0, .int .i64 (p : Int), .bool ln, .int .i64 ((k : Nat) : Int)]) (by simp [results, Tryd.results24, go_sem, *]) rfl ⟨foundT_bad p ln (k) R HRn.out, ?_⟩
        repeat (first | with_reducible exact hBB | (with_reducible refine Below.drew ?_) | (with_reducible refine Below.setCell ?_ (by first | exact Nat.le_refl _ | omega | simp) _) | (with_reducible refine Below.alloc ?_ (by first | exact Nat.le_refl _ | omega | simp | (simp; omega)) _))
      have h32' : ¬ (s[k].toNat : Int) < 32 := by omega
      by_cases h126 : 126 < s[k].toNat
      · have h126' : (126 : Int) < s[k].toNat := by omega
        have HRn : Hid (R = none) := HQ.out.none (by rw [hd, quo_bad _ _ h34 h92 (.inr h126)])
        clear hd h34 h92 HQ
        go_wp2_with fail
        refine bodyPost_ret (v := .agg #[.int .i64 6, .string ⟨#[]⟩, .int .i64 0, .int .i64 (p : Int), .bool ln, .int .i64 ((k : Nat) : Int)]) (by simp [results, Tryd.results24, go_sem, *]) rfl ⟨foundT_bad p ln (k) R HRn.out, ?_⟩
        repeat (first | with_reducible exact hBB | (with_reducible refine Below.drew ?_) | (with_reducible refine Below.setCell ?_ (by first | exact Nat.le_refl _ | omega | simp) _) | (with_reducible refine Below.alloc ?_ (by first | exact Nat.le_refl _ | omega | simp | (simp; omega)) _))
      have h126' : ¬ (126 : Int) < s[k].toNat := by omega
      obtain ⟨v', w3, hr, ho, _, hb3⟩ := byte_more (byLen HQ.out.own) hsz (by have := HQ.out.few; simp [Lib.byteCells]; omega) ((s[k]).toNat : Int) 34
      have HN : Hid (QS B w2 s p R (k + 1) (bs ++ [s[k]]) v' w3) := HQ.out.next (by rw [hd, quo_one _ _ h34 h92 (by omega) (by omega)]) ho hb3
      have HRn : Hid (_) := hr
      clear hd h34 h92 HQ hr ho hb3 hBB q0 q1 q2 q3 q4 f0 f1 f2 f3 f4 r0 r1 r2 r3 r4 r5 g0 g1 g2 g3 g4 g5
      go_wp2_with (at_builtin; refine wpList_append_run _ _ 34 rfl rfl _ _ _ _ rfl rfl HRn.out ?_)
      go_roundw
      case rel => exact ⟨k + 1, bs ++ [s[k]], by omega, by omega, by go_num, HN⟩
      case measure => simp [intOf]; omega
    · have hlt' : ¬ (k : Int) < s.size := by omega
      have HRn : Hid (R = none) := HQ.out.none (quo_end s k (by omega))
      clear HQ
      go_wp2_with fail
      refine bodyPost_ret (v := .agg #[.int .i64 6, .string ⟨#[]⟩, .int .i64 0, .int .i64 (p : Int), .bool ln, .int .i64 ((k : Nat) : Int)]) (by simp [results, Tryd.results24, go_sem, *]) rfl ⟨foundT_bad p ln (k) R HRn.out, ?_⟩
      repeat (first | with_reducible exact hBB | (with_reducible refine Below.drew ?_) | (with_reducible refine Below.setCell ?_ (by first | exact Nat.le_refl _ | omega | simp) _) | (with_reducible refine Below.alloc ?_ (by first | exact Nat.le_refl _ | omega | simp | (simp; omega)) _))
theorem rquoted_any (s : ByteArray) (p : Nat) (ln : Bool) (w : World) (hs : s.size ≤ 1000000) (hp : p < s.size) (h34 : s[p].toNat = 34) :
    Calls Tryd.prog 24 #[.string s, .int .i64 (p : Int), .agg #[.int .i64 0, .string ⟨#[]⟩, .int .i64 0, .int .i64 (p : Int), .bool ln]] w fun e w' => FoundT (Lx.tokOf p ln (Lx.piece (s.data.toList.drop p))) e ∧ Below w.heap.size w w' :=
  rquoted_core s p ln w hs hp _ (by rw [drop_at s p hp]; exact Lx.piece_text _ _ h34)
end Go.Proofs.YtbciecmikcloaaaDoor.L
