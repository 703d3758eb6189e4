/- lex.said and lex.text by their contracts: a quoted text. -/
import Derived.Test.YtoeolonbkeldoaaDoorLPiece
import Derived.Test.YtoeolonbkeldoaaDoorLByte
import Derived.Deep.QuietTactic
import Derived.BigQuiet
namespace Go.Proofs.YtoeolonbkeldoaaDoor.Lx
/-- The byte that the head of a text says, and how many bytes say it. -/
def said (l : List UInt8) : Option (UInt8 × Nat) := match l with
  | [] => none
  | [c] => if c.toNat = 92 then none else if 32 ≤ c.toNat ∧ c.toNat ≤ 126 then some (c, 1) else none
  | c :: d :: _ => if c.toNat = 92 then (if d.toNat = 34 ∨ d.toNat = 92 then some (d, 2) else if d.toNat = 110 then some (10, 2) else none) else if 32 ≤ c.toNat ∧ c.toNat ≤ 126 then some (c, 1) else none
theorem quo_said (c : UInt8) (l : List UInt8) (h : c.toNat ≠ 34) : quo (c :: l) = match said (c :: l) with
    | none => none
    | some (b, z) => (quo ((c :: l).drop z)).map fun r => (b :: r.1, r.2 + z) := by
  cases l with
  | nil =>
    rw [quo, if_neg h]
    unfold said
    by_cases h1 : c.toNat = 92
    · simp [h1]
    · by_cases h2 : 32 ≤ c.toNat ∧ c.toNat ≤ 126
      · simp [h1, h2, quo]
      · simp [h1, h2]
  | cons d l =>
    rw [quo, if_neg h]
    unfold said
    by_cases h1 : c.toNat = 92
    · by_cases h2 : d.toNat = 34 ∨ d.toNat = 92
      · simp [h1, h2]
      · by_cases h3 : d.toNat = 110
        · simp [h1, h3]
        · simp [h1, h2, h3]
    · by_cases h2 : 32 ≤ c.toNat ∧ c.toNat ≤ 126
      · simp [h1, h2]
      · simp [h1, h2]
theorem said_le (l : List UInt8) (b : UInt8) (z : Nat) (h : said l = some (b, z)) : 0 < z ∧ z ≤ l.length := by
  unfold said at h
  split at h
  · cases h
  · split at h
    · cases h
    · split at h
      · simp at h; simp; omega
      · cases h
  · split at h
    · split at h
      · simp at h; simp; omega
      · split at h
        · simp at h; simp; omega
        · cases h
    · split at h
      · simp at h; simp; omega
      · cases h
end Go.Proofs.YtoeolonbkeldoaaDoor.Lx
namespace Go.Proofs.YtoeolonbkeldoaaDoor.L
open Go.RowKit
set_option linter.unusedVariables false
def saidV (r : Option (UInt8 × Nat)) (e : Ending) : Prop := match r with
  | some (c, z) => e = .returned (.tuple #[.int .u8 (c.toNat : Int), .int .i64 (z : Int), .bool true])
  | none => ∃ (c : Nat) (z : Nat), e = .returned (.tuple #[.int .u8 (c : Int), .int .i64 (z : Int), .bool false])
set_option maxRecDepth 100000 in
set_option maxHeartbeats 1000000 in
theorem said_any (s : ByteArray) (w : World) (hs : s.size ≤ 1000000) (hpos : 0 < s.size) :
    Calls Tryd.prog 43 #[.string s] w fun e w' => saidV (Lx.said s.data.toList) e ∧ ∃ n, w' = w.drewN n := by
  have hd := drop_at s 0 hpos
  rw [List.drop_zero] at hd
  by_cases h92 : s[0].toNat = 92
  · have hc : ((s[0].toNat : Int) == 92) = true := by rw [beq_iff_eq]; omega
    by_cases h1 : s.size = 1
    · have h1' : ((s.size : Int) == 1) = true := by rw [beq_iff_eq]; omega
      have HV : Hid (Lx.said s.data.toList = none) := by
        show _ = _
        rw [hd, List.drop_of_length_le (by rw [size_list]; omega)]
        simp [Lx.said, h92]
      rw [HV.out]
      clear h1 h92 hd
      go_enter Tryd.func43, Tryd.ntmps43
      go_wp2
      exact bodyPost_ret (v := .tuple #[.int .u8 0, .int .i64 0, .bool false]) (by simp [results, Tryd.results43, go_sem]) rfl ⟨⟨0, 0, rfl⟩, 0, rfl⟩
    · have h1' : ((s.size : Int) == 1) = false := by rw [beq_eq_false_iff_ne]; omega
      have hpos1 : 1 < s.size := by omega
      have hd1 := drop_at s 1 hpos1
      have hlt : (1 : Int) < s.size := by omega
      by_cases h34 : s[1].toNat = 34
      · have hc1 : ((s[1].toNat : Int) == 34) = true := by rw [beq_iff_eq]; omega
        have HV : Hid (Lx.said s.data.toList = some (s[1], 2)) := by
          show _ = _
          rw [hd, hd1]
          simp [Lx.said, h92, h34]
        rw [HV.out]
        clear h1 h92 hd hd1 h34
        go_enter Tryd.func43, Tryd.ntmps43
        go_wp2
        exact bodyPost_ret (v := .tuple #[.int .u8 (s[1].toNat : Int), .int .i64 2, .bool true]) (by simp [results, Tryd.results43, go_sem]) rfl ⟨rfl, 0, rfl⟩
      have hc1 : ((s[1].toNat : Int) == 34) = false := by rw [beq_eq_false_iff_ne]; omega
      by_cases h92' : s[1].toNat = 92
      · have hc2 : ((s[1].toNat : Int) == 92) = true := by rw [beq_iff_eq]; omega
        have HV : Hid (Lx.said s.data.toList = some (s[1], 2)) := by
          show _ = _
          rw [hd, hd1]
          simp [Lx.said, h92, h92']
        rw [HV.out]
        clear h1 h92 hd hd1 h34 h92'
        go_enter Tryd.func43, Tryd.ntmps43
        go_wp2
        exact bodyPost_ret (v := .tuple #[.int .u8 (s[1].toNat : Int), .int .i64 2, .bool true]) (by simp [results, Tryd.results43, go_sem]) rfl ⟨rfl, 0, rfl⟩
      have hc2 : ((s[1].toNat : Int) == 92) = false := by rw [beq_eq_false_iff_ne]; omega
      by_cases h110 : s[1].toNat = 110
      · have hc3 : ((s[1].toNat : Int) == 110) = true := by rw [beq_iff_eq]; omega
        have HV : Hid (Lx.said s.data.toList = some (10, 2)) := by
          show _ = _
          rw [hd, hd1]
          simp [Lx.said, h92, h110]
        rw [HV.out]
        clear h1 h92 hd hd1 h34 h92' h110
        go_enter Tryd.func43, Tryd.ntmps43
        go_wp2
        exact bodyPost_ret (v := .tuple #[.int .u8 10, .int .i64 2, .bool true]) (by simp [results, Tryd.results43, go_sem]) rfl ⟨rfl, 0, rfl⟩
      have hc3 : ((s[1].toNat : Int) == 110) = false := by rw [beq_eq_false_iff_ne]; omega
      have HV : Hid (Lx.said s.data.toList = none) := by
        show _ = _
        rw [hd, hd1]
        simp [Lx.said, h92, h34, h92', h110]
      rw [HV.out]
      clear h1 h92 hd hd1 h34 h92' h110
      go_enter Tryd.func43, Tryd.ntmps43
      go_wp2
      exact bodyPost_ret (v := .tuple #[.int .u8 0, .int .i64 0, .bool false]) (by simp [results, Tryd.results43, go_sem]) rfl ⟨⟨0, 0, rfl⟩, 0, rfl⟩
  · have hc : ((s[0].toNat : Int) == 92) = false := by rw [beq_eq_false_iff_ne]; omega
    have HV : Hid (Lx.said s.data.toList = if 32 ≤ s[0].toNat ∧ s[0].toNat ≤ 126 then some (s[0], 1) else none) := by
      show _ = _
      rw [hd]
      cases s.data.toList.drop (0 + 1) with
      | nil => simp [Lx.said, h92]
      | cons d l => simp [Lx.said, h92]
    rw [HV.out]
    clear hd HV
    by_cases h1 : 32 ≤ s[0].toNat
    · have h1' : (32 : Int) ≤ s[0].toNat := by omega
      by_cases h2 : s[0].toNat ≤ 126
      · have h2' : (s[0].toNat : Int) ≤ 126 := by omega
        rw [if_pos ⟨h1, h2⟩]
        clear h1 h2 h92
        go_enter Tryd.func43, Tryd.ntmps43
        go_wp2
        go_quiet (fail)
        go_wp2
        exact bodyPost_ret (v := .tuple #[.int .u8 (s[0].toNat : Int), .int .i64 1, .bool true]) (by simp [results, Tryd.results43, go_sem]) rfl ⟨rfl, _, rfl⟩
      · have h2' : ¬ (s[0].toNat : Int) ≤ 126 := by omega
        have h2d : decide ((s[0].toNat : Int) ≤ 126) = false := by simpa using h2'
        rw [if_neg (fun h => h2 h.2)]
        clear h1 h2 h92
        go_enter Tryd.func43, Tryd.ntmps43
        go_wp2
        go_quiet (fail)
        go_wp2
        exact bodyPost_ret (v := .tuple #[.int .u8 (s[0].toNat : Int), .int .i64 1, .bool false]) (by simp [results, Tryd.results43, go_sem]; try omega) rfl ⟨⟨_, 1, rfl⟩, _, rfl⟩
    · have h1' : ¬ (32 : Int) ≤ s[0].toNat := by omega
      have h1d : decide ((32 : Int) ≤ s[0].toNat) = false := by simpa using h1'
      rw [if_neg (fun h => h1 h.1)]
      clear h1 h92
      go_enter Tryd.func43, Tryd.ntmps43
      go_wp2
      go_quiet (fail)
      go_wp2
      exact bodyPost_ret (v := .tuple #[.int .u8 (s[0].toNat : Int), .int .i64 1, .bool false]) (by simp [results, Tryd.results43, go_sem]; try omega) rfl ⟨⟨_, 1, rfl⟩, _, rfl⟩
def zeroP : Value := .agg #[.int .i64 0, .string ⟨#[]⟩, .int .i64 0, .int .i64 0, .bool false, .int .i64 0]
theorem byteCells_snoc (l : List UInt8) (c : UInt8) : Lib.byteCells l ++ [.int .u8 (c.toNat : Int)] = Lib.byteCells (l ++ [c]) := by simp [Lib.byteCells]
theorem heap_drewN (w : World) : ∀ n, (w.drewN n).heap = w.heap
  | 0 => rfl
  | n + 1 => heap_drewN w n
theorem below_drewN (B : Nat) (w : World) (n : Nat) : Below B w (w.drewN n) := by
  induction n with
  | zero => exact Below.refl _ _
  | succ n ih => exact ih.drew
theorem isB_drewN {T e : TypeId} {B b : Nat} {bs : List Value} {w : World} (h : Lib.IsBuilder T e B b bs w) : ∀ n, Lib.IsBuilder T e B b bs (w.drewN n)
  | 0 => h
  | n + 1 => by
    have ih := isB_drewN h n
    rcases ih with ih | ih
    · exact .inl ih.drew
    · exact .inr ih.drew
set_option maxRecDepth 100000 in
set_option maxHeartbeats 2000000 in
theorem text_any (s : ByteArray) (w : World) (hs : s.size ≤ 1000000) :
    Calls Tryd.prog 27 #[.string s] w fun e w' => Told (Lx.pTxt s.data.toList) e ∧ Below w.heap.size w w' := by
  have HP : Hid (_) := fun W => pre_any s ⟨#[34]⟩ W (by omega) (by decide)
  rw [show (⟨#[34]⟩ : ByteArray).data.toList = [34] from rfl] at HP
  by_cases hq : Lx.isPre [34] s.data.toList = true
  · rw [hq] at HP
    have hpos : 0 < s.size := by
      unfold Lx.isPre at hq
      simp only [Bool.and_eq_true, decide_eq_true_eq, List.length_cons, List.length_nil] at hq
      rw [← size_list]; omega
    have hd := drop_at s 0 hpos
    rw [List.drop_zero] at hd
    have h34 : s[0].toNat = 34 := by
      unfold Lx.isPre at hq
      rw [hd] at hq
      simp at hq
      rw [hq]; rfl
    obtain ⟨R, HR⟩ : ∃ R, Hid (Lx.pTxt s.data.toList = R ∧ R = (Lx.quo (s.data.toList.drop 1)).map fun r => ⟨2, r.1, 0, r.2 + 1⟩) := ⟨_, rfl, by rw [hd]; simp only [Lx.pTxt, h34, if_true]; rfl⟩
    rw [HR.out.1]
    have HR2 : Hid (_) := HR.out.2
    clear HR hq hd h34
    go_enter Tryd.func27, Tryd.ntmps27
    go_wp2_with (go_at_call 34; refine Calls.mono (HP.out _) ?_; rintro e w' ⟨rfl, rfl⟩)
    have HB0 : Hid (Lib.IsBuilder 73 5 (w.heap.size + 1) (w.heap.size + 1) (Lib.byteCells []) ((w.alloc (.cells #[.int .i64 0, .string ⟨#[]⟩, .int .i64 0, .int .i64 0, .bool false, .int .i64 0] 58)).alloc (.cells #[.pointer none, .slice none 0 0] 73))) := by
      have := Lib.fresh_isBuilder 73 5 (w.alloc (.cells #[.int .i64 0, .string ⟨#[]⟩, .int .i64 0, .int .i64 0, .bool false, .int .i64 0] 58))
      rw [alloc_size] at this
      exact this
    have HW0 : Hid (Below (w.heap.size + 1) (w.alloc (.cells #[.int .i64 0, .string ⟨#[]⟩, .int .i64 0, .int .i64 0, .bool false, .int .i64 0] 58)) ((w.alloc (.cells #[.int .i64 0, .string ⟨#[]⟩, .int .i64 0, .int .i64 0, .bool false, .int .i64 0] 58)).alloc (.cells #[.pointer none, .slice none 0 0] 73))) := by
      exact (Below.refl _ _).alloc (by simp) _
    go_loopw [5] (fun i wr => ∃ (k : Nat) (bs : List UInt8), 1 ≤ k ∧ k ≤ s.size ∧ i = .int .i64 k ∧ Hid (Lib.IsBuilder 73 5 (w.heap.size + 1) (w.heap.size + 1) (Lib.byteCells bs) wr) ∧ bs.length ≤ k ∧ Hid (Below (w.heap.size + 1) (w.alloc (.cells #[.int .i64 0, .string ⟨#[]⟩, .int .i64 0, .int .i64 0, .bool false, .int .i64 0] 58)) wr) ∧ Hid (R = (Lx.quo (s.data.toList.drop k)).map fun r => ⟨2, bs ++ r.1, 0, r.2 + k⟩)) (fun i _ => s.size - (intOf i).toNat)
    case atStart => exact ⟨1, [], by omega, by omega, rfl, HB0, by simp, HW0, HR2⟩
    case round =>
      obtain ⟨k, bs, hk1, hk, rfl, HB, hbl, HW, HR⟩ := hrel
      clear HB0 HW0 HR2
      have hsz := HW.out.size
      rw [alloc_size] at hsz
      by_cases hlt : k < s.size
      · have hlt' : (k : Int) < s.size := by omega
        have hd := drop_at s k hlt
        by_cases h34 : s[k].toNat = 34
        · have hc : ((s[k].toNat : Int) == 34) = true := by rw [beq_iff_eq]; omega
          have HR' : Hid (R = some ⟨2, bs, 0, 1 + k⟩) := by
            show _ = _
            have := HR.out
            rw [hd] at this
            cases hx : s.data.toList.drop (k + 1) with
            | nil => rw [hx] at this; simpa [Lx.quo, h34] using this
            | cons d l => rw [hx] at this; simpa [Lx.quo, h34] using this
          have HS : Hid (_) := string_any _ _ bs _ HB.out hsz
          clear hd h34 HR HB
          go_wp2_with fail
          refine Calls.mono HS.out ?_
          rintro e w1 ⟨rfl, hb1⟩
          have hW1 := HW.out.trans hb1
          obtain ⟨q0, q1, q2, q3, q4, q5, f0, f1, f2, f3, f4, f5⟩ := cells6 rfl hW1
          have hlt1 : w.heap.size < w1.heap.size := by have := hW1.size; rw [alloc_size] at this; omega
          have hBB := ((Below.refl w.heap.size w).alloc (Nat.le_refl _) _).trans (hW1.mono (by omega))
          clear hb1 hW1 HW HS
          go_wp2_with fail
          refine bodyPost_ret (v := .tuple #[.agg #[.int .i64 2, .string ⟨bs.toArray⟩, .int .i64 0, .int .i64 0, .bool false, .int .i64 ((k : Int) + 1)], .bool true]) (by simp [results, Tryd.results27, go_sem, *]) rfl ⟨⟨2, 0, 1 + k, bs, true, by rw [show ((1 + k : Nat) : Int) = (k : Int) + 1 by omega]; rfl, HR'.out⟩, ?_⟩
          repeat (first | with_reducible exact hBB | (with_reducible refine Below.drew ?_) | (with_reducible refine Below.setCell ?_ (by exact Nat.le_refl _) _) | (with_reducible refine Below.alloc ?_ (by simp; omega) _))
        · have hc : ((s[k].toNat : Int) == 34) = false := by rw [beq_eq_false_iff_ne]; omega
          have ht := tail_list s k
          have hxs : (s.extract k s.size).size = s.size - k := by simp [ByteArray.size_extract]
          have HS : Hid (_) := fun W => said_any (s.extract k s.size) W (by rw [hxs]; omega) (by rw [hxs]; omega)
          rw [ht] at HS
          have hqs := Lx.quo_said s[k] (s.data.toList.drop (k + 1)) h34
          rw [← hd] at hqs
          have HR' := HR.out
          rw [hqs] at HR'
          cases hsd : Lx.said (s.data.toList.drop k) with
          | none =>
            rw [hsd] at HR' HS
            have HRn : Hid (R = none) := HR'
            simp only [saidV] at HS
            clear hd h34 HR HR' hqs hsd ht hxs
            go_wp2_with fail
            refine Calls.mono (HS.out _) ?_
            rintro e w1 ⟨⟨c, z, rfl⟩, n, rfl⟩
            have hW1 := HW.out.trans (below_drewN (w.heap.size + 1) wr n)
            generalize wr.drewN n = w1 at *
            obtain ⟨q0, q1, q2, q3, q4, q5, f0, f1, f2, f3, f4, f5⟩ := cells6 rfl hW1
            have hlt1 : w.heap.size < w1.heap.size := by have := hW1.size; rw [alloc_size] at this; omega
            have hBB := ((Below.refl w.heap.size w).alloc (Nat.le_refl _) _).trans (hW1.mono (by omega))
            clear hW1 HW HS HB
            go_wp2_with fail
            refine bodyPost_ret (v := .tuple #[zeroP, .bool false]) (by simp [results, Tryd.results27, go_sem, zeroP, *]) rfl ⟨⟨0, 0, 0, [], false, rfl, HRn.out⟩, ?_⟩
            repeat (first | with_reducible exact hBB | (with_reducible refine Below.drew ?_) | (with_reducible refine Below.setCell ?_ (by exact Nat.le_refl _) _) | (with_reducible refine Below.alloc ?_ (by simp; omega) _))
          | some cz =>
            obtain ⟨c, z⟩ := cz
            rw [hsd] at HR' HS
            obtain ⟨hz0, hz1⟩ := Lx.said_le _ _ _ hsd
            rw [List.length_drop, size_list] at hz1
            have HRn : Hid (R = (Lx.quo (s.data.toList.drop (k + z))).map fun r => ⟨2, (bs ++ [c]) ++ r.1, 0, r.2 + (k + z)⟩) := by
              show _ = _
              rw [HR']
              simp only [List.drop_drop, Option.map_map]
              congr 1
              funext r
              simp only [Function.comp, List.append_assoc, List.singleton_append]
              congr 1
              omega
            simp only [saidV] at HS
            have HWB : Hid (_) := fun n => wbyte_any (w.heap.size + 1) (w.heap.size + 1) (Lib.byteCells bs) (c.toNat : Int) (wr.drewN n) (isB_drewN HB.out n) (by simp [Lib.byteCells]; omega) (Nat.le_trans hsz (below_drewN 0 wr n).size)
            rw [byteCells_snoc] at HWB
            clear hd h34 HR HR' hqs hsd ht hxs
            go_wp2_with fail
            refine Calls.mono (HS.out _) ?_
            rintro e w1 ⟨rfl, n, rfl⟩
            go_wp2_with fail
            refine Calls.mono (HWB.out _) ?_
            rintro e w2 ⟨rfl, hb2, hb3⟩
            have hW2 := (HW.out.trans (below_drewN (w.heap.size + 1) wr n)).trans hb3
            go_wp2_with fail
            go_roundw
            case rel => exact ⟨k + z, bs ++ [c], by omega, by omega, by go_num, .inr hb2, by simp; omega, hW2, HRn⟩
            case measure => simp [intOf]; omega
      · have hlt' : ¬ (k : Int) < s.size := by omega
        have HRn : Hid (R = none) := by
          have := HR.out
          rw [List.drop_of_length_le (by rw [size_list]; omega)] at this
          exact this
        have hW1 := HW.out
        obtain ⟨q0, q1, q2, q3, q4, q5, f0, f1, f2, f3, f4, f5⟩ := cells6 rfl hW1
        have hlt1 : w.heap.size < wr.heap.size := by omega
        have hBB := ((Below.refl w.heap.size w).alloc (Nat.le_refl _) _).trans (hW1.mono (by omega))
        clear hW1 HW HR HB
        go_wp2_with fail
        refine bodyPost_ret (v := .tuple #[zeroP, .bool false]) (by simp [results, Tryd.results27, go_sem, zeroP, *]) rfl ⟨⟨0, 0, 0, [], false, rfl, HRn.out⟩, ?_⟩
        repeat (first | with_reducible exact hBB | (with_reducible refine Below.drew ?_) | (with_reducible refine Below.setCell ?_ (by exact Nat.le_refl _) _) | (with_reducible refine Below.alloc ?_ (by simp; omega) _))
  · have hq' : Lx.isPre [34] s.data.toList = false := by simpa using hq
    rw [hq'] at HP
    have HV : Hid (Lx.pTxt s.data.toList = none) := by
      show _ = _
      unfold Lx.pTxt
      split
      · rfl
      · rename_i c l e
        rw [e] at hq'
        rw [if_neg]
        intro h
        have h' : c = 34 := UInt8.toNat_inj.1 h
        subst h'
        simp [Lx.isPre] at hq'
    rw [HV.out]
    clear hq hq'
    go_enter Tryd.func27, Tryd.ntmps27
    go_wp2_with (go_at_call 34; refine Calls.mono (HP.out _) ?_; rintro e w' ⟨rfl, rfl⟩)
    exact bodyPost_ret (v := .tuple #[zeroP, .bool false]) (by simp [results, Tryd.results27, go_sem, zeroP]) rfl ⟨⟨0, 0, 0, [], false, rfl, rfl⟩, (Below.refl _ _).alloc (Nat.le_refl _) _⟩
end Go.Proofs.YtoeolonbkeldoaaDoor.L
