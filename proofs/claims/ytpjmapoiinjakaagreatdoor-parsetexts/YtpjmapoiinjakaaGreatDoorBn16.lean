/- Texts: LRQuoted LRToken. -/
import Derived.Test.YtpjmapoiinjakaaGreatDoorBn15
import Derived.Laws.BytesArg
import Derived.Laws.IdiomStrings
import Derived.Lib.MinMax
import Derived.Deep.QuietTactic
import Derived.BigQuiet
section
namespace Go.Proofs.YtpjmapoiinjakaaGreatDoor.L
open Go.RowKit
set_option linter.unusedVariables false
/-- Where one is within a text: what it says so far lies in memory of one's own. -/
structure QS (B : Nat) (w2 : World) (s : ByteArray) (p : Nat) (R : Option Lx.Pc) (k : Nat) (bs : List UInt8) (v : Value) (W : World) : Prop where
  own : W.ownsRow B 5 1 v bs.length (Lib.byteCells bs)
  bel : Below B w2 W
  few : bs.length ≤ k
  at_ : p ≤ k
  rest : R = (Lx.quo (s.data.toList.drop k)).map fun r => ⟨2, bs ++ r.1, 0, r.2 + (k - p)⟩
theorem byLen {W : World} {B n : Nat} {v : Value} {bs : List UInt8} (h : W.ownsRow B 5 1 v n (Lib.byteCells bs)) : W.ownsRow B 5 1 v (Lib.byteCells bs).length (Lib.byteCells bs) := by
  have e : (Lib.byteCells bs).length = n := by have := h.1; simpa using this
  rw [e]; exact h
theorem QS.none {B : Nat} {w2 : World} {s : ByteArray} {p : Nat} {R : Option Lx.Pc} {k : Nat} {bs : List UInt8} {v : Value} {W : World} (h : QS B w2 s p R k bs v W) (hq : Lx.quo (s.data.toList.drop k) = Option.none) : R = Option.none := by
  rw [h.rest, hq]; rfl
theorem QS.next {B : Nat} {w2 : World} {s : ByteArray} {p : Nat} {R : Option Lx.Pc} {k : Nat} {bs : List UInt8} {v v' : Value} {W w3 : World} {c : UInt8} {z : Nat} (h : QS B w2 s p R k bs v W)
    (hq : Lx.quo (s.data.toList.drop k) = (Lx.quo (s.data.toList.drop (k + z))).map fun r => (c :: r.1, r.2 + z)) (ho : w3.ownsRow B 5 1 v' (Lib.byteCells bs ++ [Value.int .u8 (c.toNat : Int)]).length (Lib.byteCells bs ++ [Value.int .u8 (c.toNat : Int)])) (hb : Below B W w3) (hz : 0 < z := by omega) : QS B w2 s p R (k + z) (bs ++ [c]) v' w3 := by
  have hp := h.at_
  refine ⟨?_, h.bel.trans hb, by have := h.few; simp; omega, by omega, ?_⟩
  · rw [byteCells_snoc] at ho
    have e : (Lib.byteCells (bs ++ [c])).length = (bs ++ [c]).length := by simp [Lib.byteCells]
    rw [e] at ho; exact ho
  · rw [h.rest, hq, Option.map_map]
    congr 1
    funext r
    simp only [Function.comp, List.append_assoc, List.singleton_append]
    congr 1
    omega
theorem quo_end (s : ByteArray) (k : Nat) (h : k = s.size) : Lx.quo (s.data.toList.drop k) = none := by
  rw [List.drop_of_length_le (by rw [size_list]; omega)]; rfl
theorem quo_one (c : UInt8) (l : List UInt8) (h : c.toNat ≠ 34) (h2 : c.toNat ≠ 92) (h3 : 32 ≤ c.toNat) (h4 : c.toNat ≤ 126) : Lx.quo (c :: l) = (Lx.quo l).map fun r => (c :: r.1, r.2 + 1) := by
  rw [Lx.quo_said c l h]
  have e : Lx.said (c :: l) = some (c, 1) := by
    cases l <;> simp [Lx.said, h2, h3, h4]
  rw [e]; rfl
theorem quo_bad (c : UInt8) (l : List UInt8) (h : c.toNat ≠ 34) (h2 : c.toNat ≠ 92) (h3 : c.toNat < 32 ∨ 126 < c.toNat) : Lx.quo (c :: l) = none := by
  rw [Lx.quo_said c l h]
  have e3 : ¬ (32 ≤ c.toNat ∧ c.toNat ≤ 126) := by omega
  have e : Lx.said (c :: l) = none := by
    cases l
    · simp only [Lx.said]; rw [if_neg h2, if_neg e3]
    · simp only [Lx.said]; rw [if_neg h2, if_neg e3]
  rw [e]
theorem quo_last (c : UInt8) (h2 : c.toNat = 92) : Lx.quo [c] = none := by
  rw [Lx.quo_said c [] (by omega)]; simp [Lx.said, h2]
theorem quo_same (c d : UInt8) (l : List UInt8) (h : c.toNat = 92) (h2 : d.toNat = 34 ∨ d.toNat = 92) : Lx.quo (c :: d :: l) = (Lx.quo l).map fun r => (d :: r.1, r.2 + 2) := by
  rw [Lx.quo_said c _ (by omega)]; simp [Lx.said, h, h2]
theorem quo_line (c d : UInt8) (l : List UInt8) (h : c.toNat = 92) (h2 : d.toNat = 110) : Lx.quo (c :: d :: l) = (Lx.quo l).map fun r => (10 :: r.1, r.2 + 2) := by
  rw [Lx.quo_said c _ (by omega)]; simp [Lx.said, h, h2]
theorem quo_other (c d : UInt8) (l : List UInt8) (h : c.toNat = 92) (h2 : d.toNat ≠ 34) (h3 : d.toNat ≠ 92) (h4 : d.toNat ≠ 110) : Lx.quo (c :: d :: l) = none := by
  rw [Lx.quo_said c _ (by omega)]; simp [Lx.said, h, h2, h3, h4]
theorem quo_close (c : UInt8) (l : List UInt8) (h : c.toNat = 34) : Lx.quo (c :: l) = some ([], 1) := by
  cases l <;> simp [Lx.quo, h]
theorem own_text {w : World} {base : Nat} {v : Value} {l : List UInt8} (h : w.ownsRow base 5 1 v l.length (Lib.byteCells l)) : ∃ a n c, v = .slice a n c ∧ ∀ W', (∀ j, j < l.length → ∀ g, a = some ⟨g, 0, none⟩ → W'.cell? ⟨g, j, none⟩ = w.cell? ⟨g, j, none⟩) → (convert 22 9 (.slice a n c)).run Tryz.prog W' = .ok (.string ⟨l.toArray⟩) W' := by
  rcases h.2 with ⟨e, e0⟩ | ⟨g, cap, cur, e, hb, _⟩
  · refine ⟨none, 0, 0, e, fun W' _ => ?_⟩
    have : l = [] := List.length_eq_zero_iff.1 e0
    subst this
    exact run_convert_bytes_nil W' 22 5 Tryz.underlying22 Tryz.underlying5 _ _ 9 Tryz.underlying9
  · subst e
    refine ⟨_, _, _, rfl, fun W' hW => ?_⟩
    have := run_convert_bytes_back (P := Tryz.prog) W' 22 9 5 ⟨g, 0, none⟩ cap l Tryz.underlying22 Tryz.underlying5 Tryz.underlying9 (fun j hj => by
      have hc := h.cellAt j (by rw [Nat.mul_one]; exact hj)
      rw [show (⟨g, 0, none⟩ : Addr).add j = ⟨g, j, none⟩ by unfold Addr.add; split <;> simp_all]
      rw [hW j hj g rfl, hc]; simp [Lib.byteCells, List.getElem?_eq_getElem hj])
    exact this
set_option maxRecDepth 100000 in
set_option maxHeartbeats 4000000 in
theorem rquoted_core (s : ByteArray) (p : Nat) (ln : Bool) (w : World) (hs : s.size ≤ 1000000) (hp : p < s.size) (R : Option Lx.Pc)
    (hR : R = (Lx.quo (s.data.toList.drop (p + 1))).map fun r => ⟨2, r.1, 0, r.2 + 1⟩) :
    Calls Tryz.prog 31 #[.string s, .int .i64 (p : Int), .agg #[.int .i64 0, .string ⟨#[]⟩, .int .i64 0, .int .i64 (p : Int), .bool ln]] w fun e w' => FoundT (Lx.tokOf p ln R) e ∧ Below w.heap.size w w' := by
  obtain ⟨B, hB⟩ : ∃ B, w.heap.size + 2 = B := ⟨_, rfl⟩
  obtain ⟨w2, hw2⟩ : ∃ w2, (w.alloc (.cells #[.int .i64 6, .string ⟨#[]⟩, .int .i64 0, .int .i64 (p : Int), .bool ln] 34)).alloc (.cells #[.int .i64 0, .string ⟨#[]⟩, .int .i64 0, .int .i64 0, .bool false, .int .i64 0] 50) = w2 := ⟨_, rfl⟩
  have hs2 : w2.heap.size = B := by rw [← hw2, alloc_size, alloc_size]; omega
  have H0 : Hid (QS B w2 s p R (p + 1) [] (.slice none 0 0) w2) := (show QS _ _ _ _ _ _ _ _ _ from ⟨World.ownsRow_nil _ _ _ _, Below.refl _ _, by simp, by omega, by rw [hR, show p + 1 - p = 1 by omega]; rfl⟩)
  have HW : Hid (∀ W, Below B w2 W → Below (w.heap.size + 1) (w.alloc (.cells #[.int .i64 6, .string ⟨#[]⟩, .int .i64 0, .int .i64 (p : Int), .bool ln] 34)) W ∧ Below (w.heap.size + 1 + 1) ((w.alloc (.cells #[.int .i64 6, .string ⟨#[]⟩, .int .i64 0, .int .i64 (p : Int), .bool ln] 34)).alloc (.cells #[.int .i64 0, .string ⟨#[]⟩, .int .i64 0, .int .i64 0, .bool false, .int .i64 0] 50)) W ∧ Below w.heap.size w W ∧ B ≤ W.heap.size) := (fun W hb => by
    subst hw2
    have h1 := hb.size
    rw [hs2] at h1
    refine ⟨((Below.refl _ _).alloc (by rw [alloc_size]; exact Nat.le_refl _) _).trans (hb.mono (by omega)), hb.mono (by omega), (((Below.refl _ _).alloc (Nat.le_refl _) _).alloc (by rw [alloc_size]; omega) _).trans (hb.mono (by omega)), h1⟩)
  clear hR
  have HB : Hid (_) := hB
  clear hB hs2
  go_enter Tryz.func31, Tryz.ntmps31
  go_wp2
  clear hw2
  go_loopw [7, 8] (fun v i W => ∃ (k : Nat) (bs : List UInt8), p + 1 ≤ k ∧ k ≤ s.size ∧ i = .int .i64 (k : Int) ∧ Hid (QS B w2 s p R k bs v W)) (fun _ i _ => s.size - (intOf i).toNat)
  case atStart => exact ⟨p + 1, [], by omega, by omega, by go_num, H0⟩
  case round =>
    obtain ⟨k, bs, hk1, hk, rfl, HQ⟩ := hrel
    clear H0
    obtain ⟨x1, x2, hBB, hsz⟩ := HW.out _ HQ.out.bel
    obtain ⟨q0, q1, q2, q3, q4, f0, f1, f2, f3, f4⟩ := cells5 rfl x1
    obtain ⟨r0, r1, r2, r3, r4, r5, g0, g1, g2, g3, g4, g5⟩ := cells6 (by rw [alloc_size]) x2
    have hlt1 : w.heap.size < wr.heap.size := by have := HB.out; omega
    have hlt2 : w.heap.size + 1 < wr.heap.size := by have := HB.out; omega
    clear x1 x2 HW
    by_cases hlt : k < s.size
    · have hlt' : (k : Int) < s.size := by omega
      have hd := drop_at s k hlt
      by_cases h34 : s[k].toNat = 34
      · have hc : ((s[k].toNat : Int) == 34) = true := by rw [beq_iff_eq]; omega
        have hc' : ((s[k].toNat : Int) != 34) = false := by rw [bne, hc]; rfl
        have HR' : Hid (R = some ⟨2, bs, 0, 1 + (k - p)⟩) := by
          show _ = _
          rw [HQ.out.rest, hd, quo_close _ _ h34]; simp
        obtain ⟨a, n, c, hv, hcv⟩ := own_text HQ.out.own
        subst hv
        have hcv2 := hcv (wr.setCell ⟨w.heap.size, 0, none⟩ (.int .i64 2)) (fun j _ g e => by
          have := (own_block HQ.out.own g (by subst e; rfl)).1
          have := HB.out
          unfold World.cell?
          show (match (wr.setCell ⟨w.heap.size, 0, none⟩ (.int .i64 2)).heap[g]? with | some (Obj.cells c elem frozen) => c[j]? | x => none) = _
          rw [Below.heap_setCell wr ⟨w.heap.size, 0, none⟩ (.int .i64 2) g (by show g ≠ w.heap.size; omega)]
          rfl)
        clear hd h34 HQ hcv
        go_wp2_with fail
        refine bodyPost_ret (v := .agg #[.int .i64 2, .string ⟨bs.toArray⟩, .int .i64 0, .int .i64 (p : Int), .bool ln, .int .i64 ((k : Int) + 1)]) (by simp [results, Tryz.results31, go_sem, *]) rfl ⟨by rw [show ((k : Int) + 1) = ((p + (1 + (k - p)) : Nat) : Int) by omega]; exact foundT_ok p ln 2 0 _ bs R HR'.out, ?_⟩
        repeat (first | with_reducible exact hBB | (with_reducible refine Below.drew ?_) | (with_reducible refine Below.setCell ?_ (by first | exact Nat.le_refl _ | omega | simp) _) | (with_reducible refine Below.alloc ?_ (by first | exact Nat.le_refl _ | omega | simp | (simp; omega)) _))
      have e34c : (((s[k]).toNat : Int) == 34) = false := by rw [beq_eq_false_iff_ne]; omega
      have e34c' : ((s[k].toNat : Int) != 34) = true := by rw [bne, e34c]; rfl
      by_cases h92 : s[k].toNat = 92
      · have e92c : (((s[k]).toNat : Int) == 92) = true := by rw [beq_iff_eq]; omega
        by_cases hlt3 : k + 1 < s.size
        · have hlt3' : (k : Int) + 1 < s.size := by omega
          have hd2 := drop_at s (k + 1) hlt3
          by_cases d34 : s[k + 1].toNat = 34
          · have e34d : (((s[k + 1]).toNat : Int) == 34) = true := by rw [beq_iff_eq]; omega
            obtain ⟨v', w3, hr, ho, _, hb3⟩ := byte_more (byLen HQ.out.own) hsz (by have := HQ.out.few; simp [Lib.byteCells]; omega) ((s[k + 1]).toNat : Int) 22
            have HN : Hid (QS B w2 s p R (k + 2) (bs ++ [s[k + 1]]) v' w3) := HQ.out.next (by rw [hd, hd2, quo_same _ _ _ h92 (.inl d34)]) ho hb3
            have HRn : Hid (_) := hr
            clear hd hd2 h34 h92 d34 HQ hr ho hb3 hBB q0 q1 q2 q3 q4 f0 f1 f2 f3 f4 r0 r1 r2 r3 r4 r5 g0 g1 g2 g3 g4 g5
            go_wp2_with (at_builtin; refine wpList_append_run _ _ 22 rfl rfl _ _ _ _ rfl rfl HRn.out ?_)
            go_roundw
            case rel => exact ⟨k + 2, bs ++ [s[k + 1]], by omega, by omega, by go_num, HN⟩
            case measure => simp [intOf]; omega
          have e34d : (((s[k + 1]).toNat : Int) == 34) = false := by rw [beq_eq_false_iff_ne]; omega
          by_cases d92 : s[k + 1].toNat = 92
          · have e92d : (((s[k + 1]).toNat : Int) == 92) = true := by rw [beq_iff_eq]; omega
            obtain ⟨v', w3, hr, ho, _, hb3⟩ := byte_more (byLen HQ.out.own) hsz (by have := HQ.out.few; simp [Lib.byteCells]; omega) ((s[k + 1]).toNat : Int) 22
            have HN : Hid (QS B w2 s p R (k + 2) (bs ++ [s[k + 1]]) v' w3) := HQ.out.next (by rw [hd, hd2, quo_same _ _ _ h92 (.inr d92)]) ho hb3
            have HRn : Hid (_) := hr
            clear hd hd2 h34 h92 d34 d92 HQ hr ho hb3 hBB q0 q1 q2 q3 q4 f0 f1 f2 f3 f4 r0 r1 r2 r3 r4 r5 g0 g1 g2 g3 g4 g5
            go_wp2_with (at_builtin; refine wpList_append_run _ _ 22 rfl rfl _ _ _ _ rfl rfl HRn.out ?_)
            go_roundw
            case rel => exact ⟨k + 2, bs ++ [s[k + 1]], by omega, by omega, by go_num, HN⟩
            case measure => simp [intOf]; omega
          have e92d : (((s[k + 1]).toNat : Int) == 92) = false := by rw [beq_eq_false_iff_ne]; omega
          by_cases d110 : s[k + 1].toNat = 110
          · have e110d : (((s[k + 1]).toNat : Int) == 110) = true := by rw [beq_iff_eq]; omega
            obtain ⟨v', w3, hr, ho, _, hb3⟩ := byte_more (byLen HQ.out.own) hsz (by have := HQ.out.few; simp [Lib.byteCells]; omega) ((10 : UInt8).toNat : Int) 22
            have HN : Hid (QS B w2 s p R (k + 2) (bs ++ [10]) v' w3) := HQ.out.next (c := 10) (by rw [hd, hd2, quo_line _ _ _ h92 d110]) ho hb3
            have HRn : Hid (_) := hr
            clear hd hd2 h34 h92 d34 d92 d110 HQ hr ho hb3 hBB q0 q1 q2 q3 q4 f0 f1 f2 f3 f4 r0 r1 r2 r3 r4 r5 g0 g1 g2 g3 g4 g5
            go_wp2_with (at_builtin; refine wpList_append_run _ _ 22 rfl rfl _ _ _ _ rfl rfl HRn.out ?_)
            go_roundw
            case rel => exact ⟨k + 2, bs ++ [10], by omega, by omega, by go_num, HN⟩
            case measure => simp [intOf]; omega
          have e110d : (((s[k + 1]).toNat : Int) == 110) = false := by rw [beq_eq_false_iff_ne]; omega
          have HRn : Hid (R = none) := HQ.out.none (by rw [hd, hd2, quo_other _ _ _ h92 d34 d92 d110])
          clear hd hd2 h34 h92 d34 d92 d110 HQ
          go_wp2_with fail
          refine bodyPost_ret (v := .agg #[.int .i64 6, .string ⟨#[]⟩, .int .i64 0, .int .i64 (p : Int), .bool ln, .int .i64 ((k + 1 : Nat) : Int)]) (by simp [results, Tryz.results31, go_sem, *]) rfl ⟨foundT_bad p ln (k + 1) R HRn.out, ?_⟩
          repeat (first | with_reducible exact hBB | (with_reducible refine Below.drew ?_) | (with_reducible refine Below.setCell ?_ (by first | exact Nat.le_refl _ | omega | simp) _) | (with_reducible refine Below.alloc ?_ (by first | exact Nat.le_refl _ | omega | simp | (simp; omega)) _))
        have hlt3' : ¬ (k : Int) + 1 < s.size := by omega
        have HRn : Hid (R = none) := HQ.out.none (by rw [hd, List.drop_of_length_le (by rw [size_list]; omega), quo_last _ h92])
        clear hd h34 HQ
        go_wp2_with fail
        refine bodyPost_ret (v := .agg #[.int .i64 6, .string ⟨#[]⟩, .int .i64 0, .int .i64 (p : Int), .bool ln, .int .i64 ((k : Nat) : Int)]) (by simp [results, Tryz.results31, go_sem, *]) rfl ⟨foundT_bad p ln (k) R HRn.out, ?_⟩
        repeat (first | with_reducible exact hBB | (with_reducible refine Below.drew ?_) | (with_reducible refine Below.setCell ?_ (by first | exact Nat.le_refl _ | omega | simp) _) | (with_reducible refine Below.alloc ?_ (by first | exact Nat.le_refl _ | omega | simp | (simp; omega)) _))
      have e92c : (((s[k]).toNat : Int) == 92) = false := by rw [beq_eq_false_iff_ne]; omega
      by_cases h32 : s[k].toNat < 32
      · have h32' : (s[k].toNat : Int) < 32 := by omega
        have HRn : Hid (R = none) := HQ.out.none (by rw [hd, quo_bad _ _ h34 h92 (.inl h32)])
        clear hd h34 h92 HQ
        go_wp2_with fail
        refine bodyPost_ret (v := .agg #[.int .i64 6, .string ⟨#[]⟩, .int .i64 0, .int .i64 (p : Int), .bool ln, .int .i64 ((k : Nat) : Int)]) (by simp [results, Tryz.results31, go_sem, *]) rfl ⟨foundT_bad p ln (k) R HRn.out, ?_⟩
        repeat (first | with_reducible exact hBB | (with_reducible refine Below.drew ?_) | (with_reducible refine Below.setCell ?_ (by first | exact Nat.le_refl _ | omega | simp) _) | (with_reducible refine Below.alloc ?_ (by first | exact Nat.le_refl _ | omega | simp | (simp; omega)) _))
      have h32' : ¬ (s[k].toNat : Int) < 32 := by omega
      by_cases h126 : 126 < s[k].toNat
      · have h126' : (126 : Int) < s[k].toNat := by omega
        have HRn : Hid (R = none) := HQ.out.none (by rw [hd, quo_bad _ _ h34 h92 (.inr h126)])
        clear hd h34 h92 HQ
        go_wp2_with fail
        refine bodyPost_ret (v := .agg #[.int .i64 6, .string ⟨#[]⟩, .int .i64 0, .int .i64 (p : Int), .bool ln, .int .i64 ((k : Nat) : Int)]) (by simp [results, Tryz.results31, go_sem, *]) rfl ⟨foundT_bad p ln (k) R HRn.out, ?_⟩
        repeat (first | with_reducible exact hBB | (with_reducible refine Below.drew ?_) | (with_reducible refine Below.setCell ?_ (by first | exact Nat.le_refl _ | omega | simp) _) | (with_reducible refine Below.alloc ?_ (by first | exact Nat.le_refl _ | omega | simp | (simp; omega)) _))
      have h126' : ¬ (126 : Int) < s[k].toNat := by omega
      obtain ⟨v', w3, hr, ho, _, hb3⟩ := byte_more (byLen HQ.out.own) hsz (by have := HQ.out.few; simp [Lib.byteCells]; omega) ((s[k]).toNat : Int) 22
      have HN : Hid (QS B w2 s p R (k + 1) (bs ++ [s[k]]) v' w3) := HQ.out.next (by rw [hd, quo_one _ _ h34 h92 (by omega) (by omega)]) ho hb3
      have HRn : Hid (_) := hr
      clear hd h34 h92 HQ hr ho hb3 hBB q0 q1 q2 q3 q4 f0 f1 f2 f3 f4 r0 r1 r2 r3 r4 r5 g0 g1 g2 g3 g4 g5
      go_wp2_with (at_builtin; refine wpList_append_run _ _ 22 rfl rfl _ _ _ _ rfl rfl HRn.out ?_)
      go_roundw
      case rel => exact ⟨k + 1, bs ++ [s[k]], by omega, by omega, by go_num, HN⟩
      case measure => simp [intOf]; omega
    · have hlt' : ¬ (k : Int) < s.size := by omega
      have HRn : Hid (R = none) := HQ.out.none (quo_end s k (by omega))
      clear HQ
      go_wp2_with fail
      refine bodyPost_ret (v := .agg #[.int .i64 6, .string ⟨#[]⟩, .int .i64 0, .int .i64 (p : Int), .bool ln, .int .i64 ((k : Nat) : Int)]) (by simp [results, Tryz.results31, go_sem, *]) rfl ⟨foundT_bad p ln (k) R HRn.out, ?_⟩
      repeat (first | with_reducible exact hBB | (with_reducible refine Below.drew ?_) | (with_reducible refine Below.setCell ?_ (by first | exact Nat.le_refl _ | omega | simp) _) | (with_reducible refine Below.alloc ?_ (by first | exact Nat.le_refl _ | omega | simp | (simp; omega)) _))
theorem rquoted_any (s : ByteArray) (p : Nat) (ln : Bool) (w : World) (hs : s.size ≤ 1000000) (hp : p < s.size) (h34 : s[p].toNat = 34) :
    Calls Tryz.prog 31 #[.string s, .int .i64 (p : Int), .agg #[.int .i64 0, .string ⟨#[]⟩, .int .i64 0, .int .i64 (p : Int), .bool ln]] w fun e w' => FoundT (Lx.tokOf p ln (Lx.piece (s.data.toList.drop p))) e ∧ Below w.heap.size w w' :=
  rquoted_core s p ln w hs hp _ (by rw [drop_at s p hp]; exact Lx.piece_text _ _ h34)
end Go.Proofs.YtpjmapoiinjakaaGreatDoor.L
end
section
namespace Go.Proofs.YtpjmapoiinjakaaGreatDoor.L
open Go.RowKit
set_option linter.unusedVariables false
theorem ofName_split (c : UInt8) : Lx.ofName c = (Lx.letter c || Lx.digit c) := rfl
theorem cut_pre (s : ByteArray) (q : Nat) (U : List UInt8) (h : q + U.length ≤ s.size) : ((s.extract q (q + U.length)).toList == U) = Lx.isPre U (s.data.toList.drop q) := by
  rw [extract_eq, ByteArray.toList_eq]
  unfold Lx.isPre
  rw [List.length_drop, size_list, decide_eq_true (by omega : U.length ≤ s.size - q), Bool.true_and]
  by_cases e : (s.data.toList.drop q).take U.length = U
  · simp [e]
  · simp [e]
theorem pre_short (s : ByteArray) (q : Nat) (U : List UInt8) (h : ¬ q + U.length ≤ s.size) (hq : q ≤ s.size) : Lx.isPre U (s.data.toList.drop q) = false := by
  unfold Lx.isPre
  rw [List.length_drop, size_list, decide_eq_false (by omega : ¬ U.length ≤ s.size - q), Bool.false_and]
theorem fst_at (l : List UInt8) (k : Nat) (h : k < 26) (h1 : ∀ j (hj : j < 26), j < k → Lx.isPre (Lx.osigns[j]'hj) l = false) (h2 : Lx.isPre (Lx.osigns[k]'h) l = true) : Lx.fst l = some (Lx.osigns[k]'h) := by
  unfold Lx.fst
  rw [List.find?_eq_some_iff_getElem]
  exact ⟨h2, k, h, rfl, fun j hj => by have := h1 j (by omega) hj; exact congrArg not this⟩
theorem fst_none (l : List UInt8) (h1 : ∀ j (hj : j < 26), Lx.isPre (Lx.osigns[j]'hj) l = false) : Lx.fst l = none := by
  unfold Lx.fst
  rw [List.find?_eq_none]
  intro x hx
  obtain ⟨j, hj, e⟩ := List.getElem_of_mem hx
  rw [← e, h1 j hj]; simp
theorem osig_small : ∀ s ∈ Lx.osigns, s.length ≤ 3 := by decide
/-- The cells of what is found, and of the token. -/
def FS (z : Nat) (q : Int) (ln : Bool) (W : World) : Prop :=
  W.cell? ⟨z, 0, none⟩ = some (.int .i64 0) ∧ W.cell? ⟨z, 1, none⟩ = some (.string ⟨#[]⟩) ∧ W.cell? ⟨z, 2, none⟩ = some (.int .i64 0) ∧ W.cell? ⟨z, 3, none⟩ = some (.int .i64 0) ∧ W.cell? ⟨z, 4, none⟩ = some (.bool false) ∧ W.cell? ⟨z, 5, none⟩ = some (.int .i64 0) ∧
  W.frozen? ⟨z, 0, none⟩ = false ∧ W.frozen? ⟨z, 1, none⟩ = false ∧ W.frozen? ⟨z, 2, none⟩ = false ∧ W.frozen? ⟨z, 3, none⟩ = false ∧ W.frozen? ⟨z, 4, none⟩ = false ∧ W.frozen? ⟨z, 5, none⟩ = false ∧
  W.cell? ⟨z + 1, 0, none⟩ = some (.int .i64 0) ∧ W.cell? ⟨z + 1, 1, none⟩ = some (.string ⟨#[]⟩) ∧ W.cell? ⟨z + 1, 2, none⟩ = some (.int .i64 0) ∧ W.cell? ⟨z + 1, 3, none⟩ = some (.int .i64 q) ∧ W.cell? ⟨z + 1, 4, none⟩ = some (.bool ln) ∧
  W.frozen? ⟨z + 1, 0, none⟩ = false ∧ W.frozen? ⟨z + 1, 1, none⟩ = false ∧ W.frozen? ⟨z + 1, 2, none⟩ = false ∧ W.frozen? ⟨z + 1, 3, none⟩ = false ∧ W.frozen? ⟨z + 1, 4, none⟩ = false
set_option maxRecDepth 100000 in
set_option maxHeartbeats 4000000 in
theorem rtoken_core (s : ByteArray) (a : Int) (P q : Nat) (ln : Bool) (w : World) (hs : s.size ≤ 1000000) (hP : (P : Int) = max 0 (min a s.size)) (hq : q ≤ s.size)
    (HB : Hid (∀ W, Calls Tryz.prog 28 #[.string s, .int .i64 (P : Int)] W fun e w' => e = .returned (.tuple #[.int .i64 (q : Int), .bool ln]) ∧ w' = W)) :
    Calls Tryz.prog 17 #[.string s, .int .i64 a] w fun e w' => FoundT (Lx.tokOf q ln (Lx.piece (s.data.toList.drop q))) e ∧ Below w.heap.size w w' := by
  obtain ⟨R, hR⟩ : ∃ R, Lx.piece (s.data.toList.drop q) = R := ⟨_, rfl⟩
  rw [hR]
  by_cases hlt : q < s.size
  · have hlt' : (q : Int) < s.size := by omega
    have hd := drop_at s q hlt
    have HDG : Hid (_) := fun W => rdigit_any s[q] W
    have HLT : Hid (_) := fun W => rletter_any s[q] W
    by_cases hdg : Lx.digit s[q] = true
    · rw [hdg] at HDG
      have HN : Hid (_) := fun W => rnumber_any s q ln W hs hlt hdg
      have e : Lx.pNum (s.data.toList.drop q) = R := by rw [← hR, hd]; exact (Lx.piece_digit _ _ hdg).symm
      rw [e] at HN
      clear hR hd HLT hdg e
      generalize Lx.tokOf q ln R = T at *
      go_enter Tryz.func17, Tryz.ntmps17
      go_wp2_with (first | (rw [← hP]; go_at_call 28; refine Calls.mono (HB.out _) ?_; rintro e w' ⟨rfl, rfl⟩) | (go_at_call 29; refine Calls.mono (HDG.out _) ?_; rintro e w' ⟨rfl, rfl⟩) | (go_at_call 32; refine Calls.mono (HLT.out _) ?_; rintro e w' ⟨rfl, rfl⟩))
      refine Calls.mono (HN.out _) ?_
      rintro e w1 ⟨⟨E, rfl, hE⟩, hb1⟩
      have HE : Hid (_) := hE
      have hsz := hb1.size
      simp only [alloc_size] at hsz
      obtain ⟨r0, r1, r2, r3, r4, r5, g0, g1, g2, g3, g4, g5⟩ := cells6 rfl (((Below.refl (w.heap.size + 1) _).alloc (by simp) _).trans (hb1.mono (by simp)))
      have hBB := (((Below.refl w.heap.size w).alloc (Nat.le_refl _) _).alloc (by simp) _).trans (hb1.mono (by simp; omega))
      have hlt1 : w.heap.size < w1.heap.size := by omega
      clear hb1 hE HN HB
      go_wp2_with fail
      refine bodyPost_ret (v := .agg #[.int .i64 (T.k : Int), .string ⟨T.t.toArray⟩, .int .i64 (T.n : Int), .int .i64 (T.a : Int), .bool T.ln, .int .i64 (E : Int)]) (by simp [results, Tryz.results17, go_sem, *]) rfl ⟨⟨E, rfl, HE.out⟩, ?_⟩
      repeat (first | with_reducible exact hBB | with_reducible exact Below.refl _ _ | (with_reducible refine Below.drew ?_) | (with_reducible refine Below.setCell ?_ (by first | exact Nat.le_refl _ | omega | simp) _) | (with_reducible refine Below.alloc ?_ (by first | exact Nat.le_refl _ | omega | simp | (simp; omega)) _))
    have hdg' : Lx.digit s[q] = false := by simpa using hdg
    rw [hdg'] at HDG
    by_cases h34 : s[q].toNat = 34
    · have e34 : ((s[q].toNat : Int) == 34) = true := by rw [beq_iff_eq]; omega
      have HN : Hid (_) := fun W => rquoted_any s q ln W hs hlt h34
      rw [hR] at HN
      clear hR hd HLT hdg hdg' h34
      generalize Lx.tokOf q ln R = T at *
      go_enter Tryz.func17, Tryz.ntmps17
      go_wp2_with (first | (rw [← hP]; go_at_call 28; refine Calls.mono (HB.out _) ?_; rintro e w' ⟨rfl, rfl⟩) | (go_at_call 29; refine Calls.mono (HDG.out _) ?_; rintro e w' ⟨rfl, rfl⟩) | (go_at_call 32; refine Calls.mono (HLT.out _) ?_; rintro e w' ⟨rfl, rfl⟩))
      refine Calls.mono (HN.out _) ?_
      rintro e w1 ⟨⟨E, rfl, hE⟩, hb1⟩
      have HE : Hid (_) := hE
      have hsz := hb1.size
      simp only [alloc_size] at hsz
      obtain ⟨r0, r1, r2, r3, r4, r5, g0, g1, g2, g3, g4, g5⟩ := cells6 rfl (((Below.refl (w.heap.size + 1) _).alloc (by simp) _).trans (hb1.mono (by simp)))
      have hBB := (((Below.refl w.heap.size w).alloc (Nat.le_refl _) _).alloc (by simp) _).trans (hb1.mono (by simp; omega))
      have hlt1 : w.heap.size < w1.heap.size := by omega
      clear hb1 hE HN HB
      go_wp2_with fail
      refine bodyPost_ret (v := .agg #[.int .i64 (T.k : Int), .string ⟨T.t.toArray⟩, .int .i64 (T.n : Int), .int .i64 (T.a : Int), .bool T.ln, .int .i64 (E : Int)]) (by simp [results, Tryz.results17, go_sem, *]) rfl ⟨⟨E, rfl, HE.out⟩, ?_⟩
      repeat (first | with_reducible exact hBB | with_reducible exact Below.refl _ _ | (with_reducible refine Below.drew ?_) | (with_reducible refine Below.setCell ?_ (by first | exact Nat.le_refl _ | omega | simp) _) | (with_reducible refine Below.alloc ?_ (by first | exact Nat.le_refl _ | omega | simp | (simp; omega)) _))
    have e34 : ((s[q].toNat : Int) == 34) = false := by rw [beq_eq_false_iff_ne]; omega
    by_cases hlet : Lx.letter s[q] = true
    · rw [hlet] at HLT
      have HH : Hid (∀ D, q + D ≤ s.size → (∀ j (h : q + j < s.size), j < D → Lx.ofName s[q + j] = true) → (∀ h : q + D < s.size, Lx.ofName s[q + D] = false) → R = some ⟨if Lx.isWord ((s.data.toList.drop q).take D) then 4 else 3, (s.data.toList.drop q).take D, 0, D⟩) := fun D h1 h2 h3 => by
        have hat : ∀ k (h : q + k < s.size), (s.data.toList.drop q)[k]'(by rw [List.length_drop, size_list]; omega) = s[q + k] := fun k h => by
          rw [List.getElem_drop]; rfl
        have e : Lx.hd Lx.ofName (s.data.toList.drop q) = D := Lx.hd_eq _ _ _ (by rw [List.length_drop, size_list]; omega) (fun j h h' => by
          rw [List.length_drop, size_list] at h
          rw [hat j (by omega)]; exact h2 j (by omega) h') (fun h => by
          rw [List.length_drop, size_list] at h
          rw [hat D (by omega)]; exact h3 (by omega))
        rw [← hR, ← e, hd]
        exact Lx.piece_name _ _ hlet
      clear hR hd hlet hdg hdg' h34
      go_enter Tryz.func17, Tryz.ntmps17
      go_wp2_with (first | (rw [← hP]; go_at_call 28; refine Calls.mono (HB.out _) ?_; rintro e w' ⟨rfl, rfl⟩) | (go_at_call 29; refine Calls.mono (HDG.out _) ?_; rintro e w' ⟨rfl, rfl⟩) | (go_at_call 32; refine Calls.mono (HLT.out _) ?_; rintro e w' ⟨rfl, rfl⟩))
      clear HDG HLT HB
      go_loop [8] (fun i => ∃ k : Nat, q + k ≤ s.size ∧ i = .int .i64 ((q + k : Nat) : Int) ∧ Hid (∀ j (h : q + j < s.size), j < k → Lx.ofName s[q + j] = true)) (fun i => s.size - (intOf i).toNat)
      case atStart => exact ⟨0, by omega, rfl, fun j h h' => absurd h' (by omega)⟩
      case round =>
        obtain ⟨k, hk, rfl, HA⟩ := hrel
        obtain ⟨m, hm⟩ : ∃ m, q + k = m := ⟨_, rfl⟩
        have HM : Hid (_) := hm
        rw [hm]
        by_cases hmt : m < s.size
        · have hmt' : (m : Int) < s.size := by omega
          have hk' : q + k < s.size := by omega
          have HDG : Hid (_) := fun W => rdigit_any s[m] W
          have HLT : Hid (_) := fun W => rletter_any s[m] W
          by_cases hn : Lx.ofName s[m] = true
          · have HA' : Hid (∀ j (h : q + j < s.size), j < k + 1 → Lx.ofName s[q + j] = true) := fun j h h' => by
              by_cases e : j = k
              · subst e; subst hm; exact hn
              · exact HA.out j h (by omega)
            have hn2 := ofName_split s[m]
            rw [hn] at hn2
            generalize Lx.letter s[m] = x at *
            generalize Lx.digit s[m] = y at *
            clear HA hn HH hm
            cases x
            · have : y = true := by simpa using hn2.symm
              subst this
              clear hn2
              go_wp2_with (first | (go_at_call 29; refine Calls.mono (HDG.out _) ?_; rintro e w' ⟨rfl, rfl⟩) | (go_at_call 32; refine Calls.mono (HLT.out _) ?_; rintro e w' ⟨rfl, rfl⟩))
              go_round
              case rel => exact ⟨k + 1, by have := HM.out; omega, by have := HM.out; rw [show q + (k + 1) = m + 1 by omega]; go_num, HA'⟩
              case measure => simp [intOf]; omega
            · clear hn2
              go_wp2_with (first | (go_at_call 29; refine Calls.mono (HDG.out _) ?_; rintro e w' ⟨rfl, rfl⟩) | (go_at_call 32; refine Calls.mono (HLT.out _) ?_; rintro e w' ⟨rfl, rfl⟩))
              go_round
              case rel => exact ⟨k + 1, by have := HM.out; omega, by have := HM.out; rw [show q + (k + 1) = m + 1 by omega]; go_num, HA'⟩
              case measure => simp [intOf]; omega
          · have hn' : Lx.ofName s[m] = false := by simpa using hn
            have HR' := HH.out k hk (fun j h h' => HA.out j h h') (fun h => by subst hm; exact hn')
            have hn2 := ofName_split s[m]
            rw [hn'] at hn2
            generalize Lx.letter s[m] = x at *
            generalize Lx.digit s[m] = y at *
            have hx0 : x = false := by cases x with | false => rfl | true => cases hn2
            subst hx0
            have hy0 : y = false := hn2.symm
            subst hy0
            have hx : s.extract q m = ⟨((s.data.toList.drop q).take k).toArray⟩ := by rw [← hm]; exact extract_eq s q k
            have hqm : (q : Int) ≤ m := by omega
            have hms : m ≤ s.size := by omega
            have HW : Hid (∀ W, Calls Tryz.prog 33 #[.string (s.extract q m)] W fun e w' => e = .returned (.bool (Lx.isWord ((s.data.toList.drop q).take k))) ∧ Below W.heap.size W w') := fun W => by
              rw [hx]; exact rword_any _ W
            have HX : Hid (_) := hx
            clear HA HH hn hn' hn2 hm hx
            cases hw : Lx.isWord ((s.data.toList.drop q).take k)
            · rw [hw] at HR' HW
              have HR2 : Hid (R = some ⟨3, (s.data.toList.drop q).take k, 0, k⟩) := HR'
              clear HR' hw
              go_wp2_with (first | (go_at_call 29; refine Calls.mono (HDG.out _) ?_; rintro e w' ⟨rfl, rfl⟩) | (go_at_call 32; refine Calls.mono (HLT.out _) ?_; rintro e w' ⟨rfl, rfl⟩))
              refine Calls.mono (HW.out _) ?_
              rintro e w1 ⟨rfl, hb1⟩
              have hsz := hb1.size
              simp only [alloc_size] at hsz
              obtain ⟨r0, r1, r2, r3, r4, r5, g0, g1, g2, g3, g4, g5⟩ := cells6 rfl (((Below.refl (w.heap.size + 1) _).alloc (by simp) _).trans (hb1.mono (by simp)))
              obtain ⟨q0, q1, q2, q3, q4, f0, f1, f2, f3, f4⟩ := cells5 (b := w.heap.size + 1) (by simp) (hb1.mono (by simp))
              have hBB := (((Below.refl w.heap.size w).alloc (Nat.le_refl _) _).alloc (by simp) _).trans (hb1.mono (by simp; omega))
              have hlt1 : w.heap.size + 1 < w1.heap.size := by omega
              clear hb1 HW
              go_wp2_with fail
              rw [HX.out]
              refine bodyPost_ret (v := .agg #[.int .i64 3, .string ⟨((s.data.toList.drop q).take k).toArray⟩, .int .i64 0, .int .i64 (q : Int), .bool ln, .int .i64 (m : Int)]) (by simp [results, Tryz.results17, go_sem, *]) rfl ⟨by rw [← HM.out]; exact foundT_ok q ln 3 0 k _ R HR2.out, ?_⟩
              repeat (first | with_reducible exact hBB | with_reducible exact Below.refl _ _ | (with_reducible refine Below.drew ?_) | (with_reducible refine Below.setCell ?_ (by first | exact Nat.le_refl _ | omega | simp) _) | (with_reducible refine Below.alloc ?_ (by first | exact Nat.le_refl _ | omega | simp | (simp; omega)) _))
            · rw [hw] at HR' HW
              have HR2 : Hid (R = some ⟨4, (s.data.toList.drop q).take k, 0, k⟩) := HR'
              clear HR' hw
              go_wp2_with (first | (go_at_call 29; refine Calls.mono (HDG.out _) ?_; rintro e w' ⟨rfl, rfl⟩) | (go_at_call 32; refine Calls.mono (HLT.out _) ?_; rintro e w' ⟨rfl, rfl⟩))
              refine Calls.mono (HW.out _) ?_
              rintro e w1 ⟨rfl, hb1⟩
              have hsz := hb1.size
              simp only [alloc_size] at hsz
              obtain ⟨r0, r1, r2, r3, r4, r5, g0, g1, g2, g3, g4, g5⟩ := cells6 rfl (((Below.refl (w.heap.size + 1) _).alloc (by simp) _).trans (hb1.mono (by simp)))
              obtain ⟨q0, q1, q2, q3, q4, f0, f1, f2, f3, f4⟩ := cells5 (b := w.heap.size + 1) (by simp) (hb1.mono (by simp))
              have hBB := (((Below.refl w.heap.size w).alloc (Nat.le_refl _) _).alloc (by simp) _).trans (hb1.mono (by simp; omega))
              have hlt1 : w.heap.size + 1 < w1.heap.size := by omega
              clear hb1 HW
              go_wp2_with fail
              rw [HX.out]
              refine bodyPost_ret (v := .agg #[.int .i64 4, .string ⟨((s.data.toList.drop q).take k).toArray⟩, .int .i64 0, .int .i64 (q : Int), .bool ln, .int .i64 (m : Int)]) (by simp [results, Tryz.results17, go_sem, *]) rfl ⟨by rw [← HM.out]; exact foundT_ok q ln 4 0 k _ R HR2.out, ?_⟩
              repeat (first | with_reducible exact hBB | with_reducible exact Below.refl _ _ | (with_reducible refine Below.drew ?_) | (with_reducible refine Below.setCell ?_ (by first | exact Nat.le_refl _ | omega | simp) _) | (with_reducible refine Below.alloc ?_ (by first | exact Nat.le_refl _ | omega | simp | (simp; omega)) _))
        · have hmt' : ¬ (m : Int) < s.size := by omega
          have HR' := HH.out k hk (fun j h h' => HA.out j h h') (fun h => absurd h (by omega))
          have hx : s.extract q m = ⟨((s.data.toList.drop q).take k).toArray⟩ := by rw [← hm]; exact extract_eq s q k
          have hqm : (q : Int) ≤ m := by omega
          have hms : m ≤ s.size := by omega
          have HW : Hid (∀ W, Calls Tryz.prog 33 #[.string (s.extract q m)] W fun e w' => e = .returned (.bool (Lx.isWord ((s.data.toList.drop q).take k))) ∧ Below W.heap.size W w') := fun W => by
            rw [hx]; exact rword_any _ W
          have HX : Hid (_) := hx
          clear HA HH hm hx
          cases hw : Lx.isWord ((s.data.toList.drop q).take k)
          · rw [hw] at HR' HW
            have HR2 : Hid (R = some ⟨3, (s.data.toList.drop q).take k, 0, k⟩) := HR'
            clear HR' hw
            go_wp2_with (first | (go_at_call 29; refine Calls.mono (HDG.out _) ?_; rintro e w' ⟨rfl, rfl⟩) | (go_at_call 32; refine Calls.mono (HLT.out _) ?_; rintro e w' ⟨rfl, rfl⟩))
            refine Calls.mono (HW.out _) ?_
            rintro e w1 ⟨rfl, hb1⟩
            have hsz := hb1.size
            simp only [alloc_size] at hsz
            obtain ⟨r0, r1, r2, r3, r4, r5, g0, g1, g2, g3, g4, g5⟩ := cells6 rfl (((Below.refl (w.heap.size + 1) _).alloc (by simp) _).trans (hb1.mono (by simp)))
            obtain ⟨q0, q1, q2, q3, q4, f0, f1, f2, f3, f4⟩ := cells5 (b := w.heap.size + 1) (by simp) (hb1.mono (by simp))
            have hBB := (((Below.refl w.heap.size w).alloc (Nat.le_refl _) _).alloc (by simp) _).trans (hb1.mono (by simp; omega))
            have hlt1 : w.heap.size + 1 < w1.heap.size := by omega
            clear hb1 HW
            go_wp2_with fail
            rw [HX.out]
            refine bodyPost_ret (v := .agg #[.int .i64 3, .string ⟨((s.data.toList.drop q).take k).toArray⟩, .int .i64 0, .int .i64 (q : Int), .bool ln, .int .i64 (m : Int)]) (by simp [results, Tryz.results17, go_sem, *]) rfl ⟨by rw [← HM.out]; exact foundT_ok q ln 3 0 k _ R HR2.out, ?_⟩
            repeat (first | with_reducible exact hBB | with_reducible exact Below.refl _ _ | (with_reducible refine Below.drew ?_) | (with_reducible refine Below.setCell ?_ (by first | exact Nat.le_refl _ | omega | simp) _) | (with_reducible refine Below.alloc ?_ (by first | exact Nat.le_refl _ | omega | simp | (simp; omega)) _))
          · rw [hw] at HR' HW
            have HR2 : Hid (R = some ⟨4, (s.data.toList.drop q).take k, 0, k⟩) := HR'
            clear HR' hw
            go_wp2_with (first | (go_at_call 29; refine Calls.mono (HDG.out _) ?_; rintro e w' ⟨rfl, rfl⟩) | (go_at_call 32; refine Calls.mono (HLT.out _) ?_; rintro e w' ⟨rfl, rfl⟩))
            refine Calls.mono (HW.out _) ?_
            rintro e w1 ⟨rfl, hb1⟩
            have hsz := hb1.size
            simp only [alloc_size] at hsz
            obtain ⟨r0, r1, r2, r3, r4, r5, g0, g1, g2, g3, g4, g5⟩ := cells6 rfl (((Below.refl (w.heap.size + 1) _).alloc (by simp) _).trans (hb1.mono (by simp)))
            obtain ⟨q0, q1, q2, q3, q4, f0, f1, f2, f3, f4⟩ := cells5 (b := w.heap.size + 1) (by simp) (hb1.mono (by simp))
            have hBB := (((Below.refl w.heap.size w).alloc (Nat.le_refl _) _).alloc (by simp) _).trans (hb1.mono (by simp; omega))
            have hlt1 : w.heap.size + 1 < w1.heap.size := by omega
            clear hb1 HW
            go_wp2_with fail
            rw [HX.out]
            refine bodyPost_ret (v := .agg #[.int .i64 4, .string ⟨((s.data.toList.drop q).take k).toArray⟩, .int .i64 0, .int .i64 (q : Int), .bool ln, .int .i64 (m : Int)]) (by simp [results, Tryz.results17, go_sem, *]) rfl ⟨by rw [← HM.out]; exact foundT_ok q ln 4 0 k _ R HR2.out, ?_⟩
            repeat (first | with_reducible exact hBB | with_reducible exact Below.refl _ _ | (with_reducible refine Below.drew ?_) | (with_reducible refine Below.setCell ?_ (by first | exact Nat.le_refl _ | omega | simp) _) | (with_reducible refine Below.alloc ?_ (by first | exact Nat.le_refl _ | omega | simp | (simp; omega)) _))
    have hlet' : Lx.letter s[q] = false := by simpa using hlet
    rw [hlet'] at HLT
    have HRS : Hid (R = (Lx.fst (s.data.toList.drop q)).map fun s => ⟨5, s, 0, s.length⟩) := hR.symm.trans (by rw [hd]; exact Lx.piece_sign _ _ hdg' h34 hlet')
    have HSG : Hid (∀ W, Calls Tryz.prog 34 #[] W fun e w' => ∃ b, e = .returned (.slice (some ⟨b, 0, none⟩) 26 26) ∧ b = W.heap.size ∧ Lies w' b Lx.osigns ∧ Below W.heap.size W w') := fun W => (osigns_any W).mono (by
      rintro e w' ⟨rfl, rfl⟩
      exact ⟨_, rfl, rfl, lies_alloc _ _ _, (Below.refl _ _).alloc (Nat.le_refl _) _⟩)
    clear hR hd hlet hlet' hdg hdg' h34
    go_enter Tryz.func17, Tryz.ntmps17
    go_wp2_with (first | (rw [← hP]; go_at_call 28; refine Calls.mono (HB.out _) ?_; rintro e w' ⟨rfl, rfl⟩) | (go_at_call 29; refine Calls.mono (HDG.out _) ?_; rintro e w' ⟨rfl, rfl⟩) | (go_at_call 32; refine Calls.mono (HLT.out _) ?_; rintro e w' ⟨rfl, rfl⟩))
    refine Calls.mono (HSG.out _) ?_
    rintro e w3 ⟨b, rfl, hbb, ⟨hbl, hl⟩, hb3⟩
    have HL : Hid (∀ k (h : k < 26), w3.cell? ⟨b, k, none⟩ = some (.string ⟨(Lx.osigns[k]'h).toArray⟩)) := hl
    rw [alloc_size, alloc_size] at hbb
    have hsz := hb3.size
    simp only [alloc_size] at hsz
    obtain ⟨r0, r1, r2, r3, r4, r5, g0, g1, g2, g3, g4, g5⟩ := cells6 rfl (((Below.refl (w.heap.size + 1) _).alloc (by simp) _).trans (hb3.mono (by simp)))
    obtain ⟨q0, q1, q2, q3, q4, f0, f1, f2, f3, f4⟩ := cells5 (b := w.heap.size + 1) (by simp) (hb3.mono (by simp))
    have hBB := (((Below.refl w.heap.size w).alloc (Nat.le_refl _) _).alloc (by simp) _).trans (hb3.mono (by simp; omega))
    have hlt1 : w.heap.size + 1 < w3.heap.size := by omega
    have hlt2 : w.heap.size < w3.heap.size := by omega
    have hn1 : b ≠ w.heap.size + 1 := by omega
    have hn2 : b ≠ w.heap.size := by omega
    have HFS : Hid (∀ W, Below w3.heap.size w3 W → FS w.heap.size (q : Int) ln W ∧ (∀ k (h : k < 26), W.cell? ⟨b, k, none⟩ = some (.string ⟨(Lx.osigns[k]'h).toArray⟩)) ∧ Below w.heap.size w W ∧ w.heap.size + 1 < W.heap.size ∧ w.heap.size < W.heap.size) := (fun W hW => by
      have hz := hW.size
      refine ⟨⟨?_, ?_, ?_, ?_, ?_, ?_, ?_, ?_, ?_, ?_, ?_, ?_, ?_, ?_, ?_, ?_, ?_, ?_, ?_, ?_, ?_, ?_⟩, fun k h => (hW.cell hbl).trans (hl k h), hBB.trans (hW.mono (by omega)), by omega, by omega⟩
      all_goals first | (refine (hW.cell (by show _ < _; omega)).trans ?_; assumption) | (refine (hW.frozen (by show _ < _; omega)).trans ?_; assumption))
    clear hb3 hl HB HDG HLT HSG hbb q0 q1 q2 q3 q4 f0 f1 f2 f3 f4 r0 r1 r2 r3 r4 r5 g0 g1 g2 g3 g4 g5 hlt1 hlt2 hBB hsz hbl
    go_wp2_with fail
    go_loopw [10] (fun i W => ∃ k : Nat, k ≤ 26 ∧ i = .int .i64 (k : Int) ∧ Hid (∀ j (hj : j < 26), j < k → Lx.isPre (Lx.osigns[j]'hj) (s.data.toList.drop q) = false) ∧ Hid (Below w3.heap.size w3 W)) (fun i _ => 26 - (intOf i).toNat)
    case atStart => exact ⟨0, by omega, rfl, fun j h h' => absurd h' (by omega), (show Below _ _ _ from Below.refl _ _)⟩
    case round =>
      obtain ⟨k, hk, rfl, HA, HW⟩ := hrel
      obtain ⟨⟨r0, r1, r2, r3, r4, r5, g0, g1, g2, g3, g4, g5, q0, q1, q2, q3, q4, f0, f1, f2, f3, f4⟩, hl, hBB, hlt1, hlt2⟩ := HFS.out _ HW.out
      by_cases hk26 : k < 26
      · have hk26' : (k : Int) < 26 := by omega
        have hc := hl k hk26
        have hU3 : (Lx.osigns[k]'hk26).length ≤ 3 := osig_small _ (List.getElem_mem (l := Lx.osigns) hk26)
        have HC : Hid (∀ W, Below w3.heap.size w3 W → W.cell? ⟨b, k, none⟩ = some (.string ⟨(Lx.osigns[k]'hk26).toArray⟩)) := fun W hW => (HFS.out W hW).2.1 k hk26
        have HF : Hid (Lx.isPre (Lx.osigns[k]'hk26) (s.data.toList.drop q) = true → R = some ⟨5, Lx.osigns[k]'hk26, 0, (Lx.osigns[k]'hk26).length⟩) := fun h => by
          rw [HRS.out, fst_at _ k hk26 HA.out h]; rfl
        have HA2 : Hid (Lx.isPre (Lx.osigns[k]'hk26) (s.data.toList.drop q) = false → Hid (∀ j (hj : j < 26), j < k + 1 → Lx.isPre (Lx.osigns[j]'hj) (s.data.toList.drop q) = false)) := fun h0 j hj h' => by
          by_cases e : j = k
          · subst e; exact h0
          · exact HA.out j hj (by omega)
        have hpc := cut_pre s q (Lx.osigns[k]'hk26)
        have hps := pre_short s q (Lx.osigns[k]'hk26)
        generalize (Lx.osigns[k]'hk26) = U at *
        have hz : (⟨U.toArray⟩ : ByteArray).size = U.length := rfl
        by_cases hfit : q + U.length ≤ s.size
        · have hfit' : (q : Int) + U.length ≤ s.size := by omega
          have hx := hpc hfit
          cases hpre : Lx.isPre U (s.data.toList.drop q)
          · have HA' := HA2.out hpre
            rw [hpre] at hx
            clear hl HRS HA HA2 HF hpc hps hpre HC
            go_wp2_with fail
            go_quiet (fail)
            have hW' : Hid (Below w3.heap.size w3 (wr.drewN nq)) := HW.out.trans (below_drewN _ _ _)
            clear hBB
            go_wp2_with fail
            go_roundw
            case rel => exact ⟨k + 1, by omega, by go_num, HA', hW'⟩
            case measure => simp [intOf]; omega
          · have HR2 : Hid (_) := HF.out hpre
            rw [hpre] at hx
            clear hl HRS HA HA2 HF hpc hps hpre
            go_wp2_with fail
            go_quiet (fail)
            have hW' := HW.out.trans (below_drewN w3.heap.size wr nq)
            generalize wr.drewN nq = w5 at *
            clear hBB q0 q1 q2 q3 q4 f0 f1 f2 f3 f4 r0 r1 r2 r3 r4 r5 g0 g1 g2 g3 g4 g5 hlt1 hlt2 hc HW
            obtain ⟨⟨r0, r1, r2, r3, r4, r5, g0, g1, g2, g3, g4, g5, q0, q1, q2, q3, q4, f0, f1, f2, f3, f4⟩, hl, hBB, hlt1, hlt2⟩ := HFS.out _ hW'
            have hc := HC.out _ hW'
            clear hW' HFS HC hl
            go_wp2_with fail
            go_region
            go_wp2_with fail
            refine bodyPost_ret (v := .agg #[.int .i64 5, .string ⟨U.toArray⟩, .int .i64 0, .int .i64 (q : Int), .bool ln, .int .i64 ((q : Int) + U.length)]) (by simp [results, Tryz.results17, go_sem, *]) rfl ⟨by rw [show ((q : Int) + U.length) = ((q + U.length : Nat) : Int) by omega]; exact foundT_ok q ln 5 0 U.length U R HR2.out, ?_⟩
            repeat (first | with_reducible exact hBB | with_reducible exact Below.refl _ _ | (with_reducible refine Below.drew ?_) | (with_reducible refine Below.setCell ?_ (by first | exact Nat.le_refl _ | omega | simp) _) | (with_reducible refine Below.alloc ?_ (by first | exact Nat.le_refl _ | omega | simp | (simp; omega)) _))
        · have hfit' : ¬ (q : Int) + U.length ≤ s.size := by omega
          have hfd : decide ((q : Int) + U.length ≤ s.size) = false := by simpa using hfit'
          have HA' := HA2.out (hps hfit hq)
          clear hl HRS HA HA2 HF hpc hps HC
          go_wp2_with fail
          go_quiet (fail)
          have hW' : Hid (Below w3.heap.size w3 (wr.drewN nq)) := HW.out.trans (below_drewN _ _ _)
          clear hBB
          go_wp2_with fail
          go_roundw
          case rel => exact ⟨k + 1, by omega, by go_num, HA', hW'⟩
          case measure => simp [intOf]; omega
      · have hk26' : ¬ (k : Int) < 26 := by omega
        have HR2 : Hid (R = none) := by
          show _ = _
          rw [HRS.out, fst_none _ (fun j hj => HA.out j hj (by omega))]; rfl
        clear hl HRS HA HFS HW
        go_wp2_with fail
        refine bodyPost_ret (v := .agg #[.int .i64 6, .string ⟨#[]⟩, .int .i64 0, .int .i64 (q : Int), .bool ln, .int .i64 (q : Int)]) (by simp [results, Tryz.results17, go_sem, *]) rfl ⟨foundT_bad q ln q R HR2.out, ?_⟩
        repeat (first | with_reducible exact hBB | with_reducible exact Below.refl _ _ | (with_reducible refine Below.drew ?_) | (with_reducible refine Below.setCell ?_ (by first | exact Nat.le_refl _ | omega | simp) _) | (with_reducible refine Below.alloc ?_ (by first | exact Nat.le_refl _ | omega | simp | (simp; omega)) _))
  · have hlt' : ¬ (q : Int) < s.size := by omega
    have HR2 : Hid (R = some ⟨0, [], 0, 0⟩) := by show _ = _; rw [← hR, List.drop_of_length_le (by rw [size_list]; omega)]; rfl
    clear hR
    go_enter Tryz.func17, Tryz.ntmps17
    go_wp2_with (rw [← hP]; go_at_call 28; refine Calls.mono (HB.out _) ?_; rintro e w' ⟨rfl, rfl⟩)
    refine bodyPost_ret (v := .agg #[.int .i64 0, .string ⟨#[]⟩, .int .i64 0, .int .i64 (q : Int), .bool ln, .int .i64 (q : Int)]) (by simp [results, Tryz.results17, go_sem, *]) rfl ⟨foundT_ok q ln 0 0 0 [] R HR2.out, ?_⟩
    repeat (first | with_reducible exact hBB | with_reducible exact Below.refl _ _ | (with_reducible refine Below.drew ?_) | (with_reducible refine Below.setCell ?_ (by first | exact Nat.le_refl _ | omega | simp) _) | (with_reducible refine Below.alloc ?_ (by first | exact Nat.le_refl _ | omega | simp | (simp; omega)) _))
theorem rtoken_any (s : ByteArray) (a : Int) (w : World) (hs : s.size ≤ 1000000) :
    Calls Tryz.prog 17 #[.string s, .int .i64 a] w fun e w' => FoundT (Lx.tok s.data.toList (plc a s.size)) e ∧ Below w.heap.size w w' := by
  have hb := Lx.blk_le false (s.data.toList.drop (plc a s.size))
  rw [List.length_drop, size_list] at hb
  have hp : plc a s.size ≤ s.size := by unfold plc; omega
  exact rtoken_core s a (plc a s.size) (plc a s.size + (Lx.blk false (s.data.toList.drop (plc a s.size))).1) _ w hs (by unfold plc; omega) (by omega) (fun W => rblanks_any s _ W hs hp)
end Go.Proofs.YtpjmapoiinjakaaGreatDoor.L
end
