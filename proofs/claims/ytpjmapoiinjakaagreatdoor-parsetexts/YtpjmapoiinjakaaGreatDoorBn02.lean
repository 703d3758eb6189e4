/- Texts: LText LFirst LxM LNx. -/
import Derived.Test.YtpjmapoiinjakaaGreatDoorBn01
import Derived.Deep.QuietTactic
import Derived.BigQuiet
import Derived.Test.YtpjmapoiinjakaaGreatDoorBn00
import Derived.BigRegion
section
namespace Go.Proofs.YtpjmapoiinjakaaGreatDoor.Lx
/-- The byte that the head of a text says, and how many bytes say it. -/
def said (l : List UInt8) : Option (UInt8 × Nat) := match l with
  | [] => none
  | [c] => if c.toNat = 92 then none else if 32 ≤ c.toNat ∧ c.toNat ≤ 126 then some (c, 1) else none
  | c :: d :: _ => if c.toNat = 92 then (if d.toNat = 34 ∨ d.toNat = 92 then some (d, 2) else if d.toNat = 110 then some (10, 2) else none) else if 32 ≤ c.toNat ∧ c.toNat ≤ 126 then some (c, 1) else none
theorem quo_said (c : UInt8) (l : List UInt8) (h : c.toNat ≠ 34) : quo (c :: l) = match said (c :: l) with
    | none => none
    | some (b, z) => (quo ((c :: l).drop z)).map fun r => (b :: r.1, r.2 + z) := by
  cases l with
  | nil =>
    rw [quo, if_neg h]
    unfold said
    by_cases h1 : c.toNat = 92
    · simp [h1]
    · by_cases h2 : 32 ≤ c.toNat ∧ c.toNat ≤ 126
      · simp [h1, h2, quo]
      · simp [h1, h2]
  | cons d l =>
    rw [quo, if_neg h]
    unfold said
    by_cases h1 : c.toNat = 92
    · by_cases h2 : d.toNat = 34 ∨ d.toNat = 92
      · simp [h1, h2]
      · by_cases h3 : d.toNat = 110
        · simp [h1, h3]
        · simp [h1, h2, h3]
    · by_cases h2 : 32 ≤ c.toNat ∧ c.toNat ≤ 126
      · simp [h1, h2]
      · simp [h1, h2]
theorem said_le (l : List UInt8) (b : UInt8) (z : Nat) (h : said l = some (b, z)) : 0 < z ∧ z ≤ l.length := by
  unfold said at h
  split at h
  · cases h
  · split at h
    · cases h
    · split at h
      · simp at h; simp; omega
      · cases h
  · split at h
    · split at h
      · simp at h; simp; omega
      · split at h
        · simp at h; simp; omega
        · cases h
    · split at h
      · simp at h; simp; omega
      · cases h
end Go.Proofs.YtpjmapoiinjakaaGreatDoor.Lx
namespace Go.Proofs.YtpjmapoiinjakaaGreatDoor.L
open Go.RowKit
set_option linter.unusedVariables false
def saidV (r : Option (UInt8 × Nat)) (e : Ending) : Prop := match r with
  | some (c, z) => e = .returned (.tuple #[.int .u8 (c.toNat : Int), .int .i64 (z : Int), .bool true])
  | none => ∃ (c : Nat) (z : Nat), e = .returned (.tuple #[.int .u8 (c : Int), .int .i64 (z : Int), .bool false])
set_option maxRecDepth 100000 in
set_option maxHeartbeats 1000000 in
theorem said_any (s : ByteArray) (w : World) (hs : s.size ≤ 1000000) (hpos : 0 < s.size) :
    Calls Tryz.prog 74 #[.string s] w fun e w' => saidV (Lx.said s.data.toList) e ∧ ∃ n, w' = w.drewN n := by
  have hd := drop_at s 0 hpos
  rw [List.drop_zero] at hd
  by_cases h92 : s[0].toNat = 92
  · have hc : ((s[0].toNat : Int) == 92) = true := by rw [beq_iff_eq]; omega
    by_cases h1 : s.size = 1
    · have h1' : ((s.size : Int) == 1) = true := by rw [beq_iff_eq]; omega
      have HV : Hid (Lx.said s.data.toList = none) := by
        show _ = _
        rw [hd, List.drop_of_length_le (by rw [size_list]; omega)]
        simp [Lx.said, h92]
      rw [HV.out]
      clear h1 h92 hd
      go_enter Tryz.func74, Tryz.ntmps74
      go_wp2
      exact bodyPost_ret (v := .tuple #[.int .u8 0, .int .i64 0, .bool false]) (by simp [results, Tryz.results74, go_sem]) rfl ⟨⟨0, 0, rfl⟩, 0, rfl⟩
    · have h1' : ((s.size : Int) == 1) = false := by rw [beq_eq_false_iff_ne]; omega
      have hpos1 : 1 < s.size := by omega
      have hd1 := drop_at s 1 hpos1
      have hlt : (1 : Int) < s.size := by omega
      by_cases h34 : s[1].toNat = 34
      · have hc1 : ((s[1].toNat : Int) == 34) = true := by rw [beq_iff_eq]; omega
        have HV : Hid (Lx.said s.data.toList = some (s[1], 2)) := by
          show _ = _
          rw [hd, hd1]
          simp [Lx.said, h92, h34]
        rw [HV.out]
        clear h1 h92 hd hd1 h34
        go_enter Tryz.func74, Tryz.ntmps74
        go_wp2
        exact bodyPost_ret (v := .tuple #[.int .u8 (s[1].toNat : Int), .int .i64 2, .bool true]) (by simp [results, Tryz.results74, go_sem]) rfl ⟨rfl, 0, rfl⟩
      have hc1 : ((s[1].toNat : Int) == 34) = false := by rw [beq_eq_false_iff_ne]; omega
      by_cases h92' : s[1].toNat = 92
      · have hc2 : ((s[1].toNat : Int) == 92) = true := by rw [beq_iff_eq]; omega
        have HV : Hid (Lx.said s.data.toList = some (s[1], 2)) := by
          show _ = _
          rw [hd, hd1]
          simp [Lx.said, h92, h92']
        rw [HV.out]
        clear h1 h92 hd hd1 h34 h92'
        go_enter Tryz.func74, Tryz.ntmps74
        go_wp2
        exact bodyPost_ret (v := .tuple #[.int .u8 (s[1].toNat : Int), .int .i64 2, .bool true]) (by simp [results, Tryz.results74, go_sem]) rfl ⟨rfl, 0, rfl⟩
      have hc2 : ((s[1].toNat : Int) == 92) = false := by rw [beq_eq_false_iff_ne]; omega
      by_cases h110 : s[1].toNat = 110
      · have hc3 : ((s[1].toNat : Int) == 110) = true := by rw [beq_iff_eq]; omega
        have HV : Hid (Lx.said s.data.toList = some (10, 2)) := by
          show _ = _
          rw [hd, hd1]
          simp [Lx.said, h92, h110]
        rw [HV.out]
        clear h1 h92 hd hd1 h34 h92' h110
        go_enter Tryz.func74, Tryz.ntmps74
        go_wp2
        exact bodyPost_ret (v := .tuple #[.int .u8 10, .int .i64 2, .bool true]) (by simp [results, Tryz.results74, go_sem]) rfl ⟨rfl, 0, rfl⟩
      have hc3 : ((s[1].toNat : Int) == 110) = false := by rw [beq_eq_false_iff_ne]; omega
      have HV : Hid (Lx.said s.data.toList = none) := by
        show _ = _
        rw [hd, hd1]
        simp [Lx.said, h92, h34, h92', h110]
      rw [HV.out]
      clear h1 h92 hd hd1 h34 h92' h110
      go_enter Tryz.func74, Tryz.ntmps74
      go_wp2
      exact bodyPost_ret (v := .tuple #[.int .u8 0, .int .i64 0, .bool false]) (by simp [results, Tryz.results74, go_sem]) rfl ⟨⟨0, 0, rfl⟩, 0, rfl⟩
  · have hc : ((s[0].toNat : Int) == 92) = false := by rw [beq_eq_false_iff_ne]; omega
    have HV : Hid (Lx.said s.data.toList = if 32 ≤ s[0].toNat ∧ s[0].toNat ≤ 126 then some (s[0], 1) else none) := by
      show _ = _
      rw [hd]
      cases s.data.toList.drop (0 + 1) with
      | nil => simp [Lx.said, h92]
      | cons d l => simp [Lx.said, h92]
    rw [HV.out]
    clear hd HV
    by_cases h1 : 32 ≤ s[0].toNat
    · have h1' : (32 : Int) ≤ s[0].toNat := by omega
      by_cases h2 : s[0].toNat ≤ 126
      · have h2' : (s[0].toNat : Int) ≤ 126 := by omega
        rw [if_pos ⟨h1, h2⟩]
        clear h1 h2 h92
        go_enter Tryz.func74, Tryz.ntmps74
        go_wp2
        go_quiet (fail)
        go_wp2
        exact bodyPost_ret (v := .tuple #[.int .u8 (s[0].toNat : Int), .int .i64 1, .bool true]) (by simp [results, Tryz.results74, go_sem]) rfl ⟨rfl, _, rfl⟩
      · have h2' : ¬ (s[0].toNat : Int) ≤ 126 := by omega
        have h2d : decide ((s[0].toNat : Int) ≤ 126) = false := by simpa using h2'
        rw [if_neg (fun h => h2 h.2)]
        clear h1 h2 h92
        go_enter Tryz.func74, Tryz.ntmps74
        go_wp2
        go_quiet (fail)
        go_wp2
        exact bodyPost_ret (v := .tuple #[.int .u8 (s[0].toNat : Int), .int .i64 1, .bool false]) (by simp [results, Tryz.results74, go_sem]; try omega) rfl ⟨⟨_, 1, rfl⟩, _, rfl⟩
    · have h1' : ¬ (32 : Int) ≤ s[0].toNat := by omega
      have h1d : decide ((32 : Int) ≤ s[0].toNat) = false := by simpa using h1'
      rw [if_neg (fun h => h1 h.1)]
      clear h1 h92
      go_enter Tryz.func74, Tryz.ntmps74
      go_wp2
      go_quiet (fail)
      go_wp2
      exact bodyPost_ret (v := .tuple #[.int .u8 (s[0].toNat : Int), .int .i64 1, .bool false]) (by simp [results, Tryz.results74, go_sem]; try omega) rfl ⟨⟨_, 1, rfl⟩, _, rfl⟩
def zeroP : Value := .agg #[.int .i64 0, .string ⟨#[]⟩, .int .i64 0, .int .i64 0, .bool false, .int .i64 0]
theorem byteCells_snoc (l : List UInt8) (c : UInt8) : Lib.byteCells l ++ [.int .u8 (c.toNat : Int)] = Lib.byteCells (l ++ [c]) := by simp [Lib.byteCells]
theorem heap_drewN (w : World) : ∀ n, (w.drewN n).heap = w.heap
  | 0 => rfl
  | n + 1 => heap_drewN w n
theorem below_drewN (B : Nat) (w : World) (n : Nat) : Below B w (w.drewN n) := by
  induction n with
  | zero => exact Below.refl _ _
  | succ n ih => exact ih.drew
theorem isB_drewN {T e : TypeId} {B b : Nat} {bs : List Value} {w : World} (h : Lib.IsBuilder T e B b bs w) : ∀ n, Lib.IsBuilder T e B b bs (w.drewN n)
  | 0 => h
  | n + 1 => by
    have ih := isB_drewN h n
    rcases ih with ih | ih
    · exact .inl ih.drew
    · exact .inr ih.drew
set_option maxRecDepth 100000 in
set_option maxHeartbeats 2000000 in
theorem text_any (s : ByteArray) (w : World) (hs : s.size ≤ 1000000) :
    Calls Tryz.prog 49 #[.string s] w fun e w' => Told (Lx.pTxt s.data.toList) e ∧ Below w.heap.size w w' := by
  have HP : Hid (_) := fun W => pre_any s ⟨#[34]⟩ W (by omega) (by decide)
  rw [show (⟨#[34]⟩ : ByteArray).data.toList = [34] from rfl] at HP
  by_cases hq : Lx.isPre [34] s.data.toList = true
  · rw [hq] at HP
    have hpos : 0 < s.size := by
      unfold Lx.isPre at hq
      simp only [Bool.and_eq_true, decide_eq_true_eq, List.length_cons, List.length_nil] at hq
      rw [← size_list]; omega
    have hd := drop_at s 0 hpos
    rw [List.drop_zero] at hd
    have h34 : s[0].toNat = 34 := by
      unfold Lx.isPre at hq
      rw [hd] at hq
      simp at hq
      rw [hq]; rfl
    obtain ⟨R, HR⟩ : ∃ R, Hid (Lx.pTxt s.data.toList = R ∧ R = (Lx.quo (s.data.toList.drop 1)).map fun r => ⟨2, r.1, 0, r.2 + 1⟩) := ⟨_, rfl, by rw [hd]; simp only [Lx.pTxt, h34, if_true]; rfl⟩
    rw [HR.out.1]
    have HR2 : Hid (_) := HR.out.2
    clear HR hq hd h34
    go_enter Tryz.func49, Tryz.ntmps49
    go_wp2_with (go_at_call 65; refine Calls.mono (HP.out _) ?_; rintro e w' ⟨rfl, rfl⟩)
    have HB0 : Hid (Lib.IsBuilder 89 5 (w.heap.size + 1) (w.heap.size + 1) (Lib.byteCells []) ((w.alloc (.cells #[.int .i64 0, .string ⟨#[]⟩, .int .i64 0, .int .i64 0, .bool false, .int .i64 0] 72)).alloc (.cells #[.pointer none, .slice none 0 0] 89))) := by
      have := Lib.fresh_isBuilder 89 5 (w.alloc (.cells #[.int .i64 0, .string ⟨#[]⟩, .int .i64 0, .int .i64 0, .bool false, .int .i64 0] 72))
      rw [alloc_size] at this
      exact this
    have HW0 : Hid (Below (w.heap.size + 1) (w.alloc (.cells #[.int .i64 0, .string ⟨#[]⟩, .int .i64 0, .int .i64 0, .bool false, .int .i64 0] 72)) ((w.alloc (.cells #[.int .i64 0, .string ⟨#[]⟩, .int .i64 0, .int .i64 0, .bool false, .int .i64 0] 72)).alloc (.cells #[.pointer none, .slice none 0 0] 89))) := by
      exact (Below.refl _ _).alloc (by simp) _
    go_loopw [5] (fun i wr => ∃ (k : Nat) (bs : List UInt8), 1 ≤ k ∧ k ≤ s.size ∧ i = .int .i64 k ∧ Hid (Lib.IsBuilder 89 5 (w.heap.size + 1) (w.heap.size + 1) (Lib.byteCells bs) wr) ∧ bs.length ≤ k ∧ Hid (Below (w.heap.size + 1) (w.alloc (.cells #[.int .i64 0, .string ⟨#[]⟩, .int .i64 0, .int .i64 0, .bool false, .int .i64 0] 72)) wr) ∧ Hid (R = (Lx.quo (s.data.toList.drop k)).map fun r => ⟨2, bs ++ r.1, 0, r.2 + k⟩)) (fun i _ => s.size - (intOf i).toNat)
    case atStart => exact ⟨1, [], by omega, by omega, rfl, HB0, by simp, HW0, HR2⟩
    case round =>
      obtain ⟨k, bs, hk1, hk, rfl, HB, hbl, HW, HR⟩ := hrel
      clear HB0 HW0 HR2
      have hsz := HW.out.size
      rw [alloc_size] at hsz
      by_cases hlt : k < s.size
      · have hlt' : (k : Int) < s.size := by omega
        have hd := drop_at s k hlt
        by_cases h34 : s[k].toNat = 34
        · have hc : ((s[k].toNat : Int) == 34) = true := by rw [beq_iff_eq]; omega
          have HR' : Hid (R = some ⟨2, bs, 0, 1 + k⟩) := by
            show _ = _
            have := HR.out
            rw [hd] at this
            cases hx : s.data.toList.drop (k + 1) with
            | nil => rw [hx] at this; simpa [Lx.quo, h34] using this
            | cons d l => rw [hx] at this; simpa [Lx.quo, h34] using this
          have HS : Hid (_) := string_any _ _ bs _ HB.out hsz
          clear hd h34 HR HB
          go_wp2_with fail
          refine Calls.mono HS.out ?_
          rintro e w1 ⟨rfl, hb1⟩
          have hW1 := HW.out.trans hb1
          obtain ⟨q0, q1, q2, q3, q4, q5, f0, f1, f2, f3, f4, f5⟩ := cells6 rfl hW1
          have hlt1 : w.heap.size < w1.heap.size := by have := hW1.size; rw [alloc_size] at this; omega
          have hBB := ((Below.refl w.heap.size w).alloc (Nat.le_refl _) _).trans (hW1.mono (by omega))
          clear hb1 hW1 HW HS
          go_wp2_with fail
          refine bodyPost_ret (v := .tuple #[.agg #[.int .i64 2, .string ⟨bs.toArray⟩, .int .i64 0, .int .i64 0, .bool false, .int .i64 ((k : Int) + 1)], .bool true]) (by simp [results, Tryz.results49, go_sem, *]) rfl ⟨⟨2, 0, 1 + k, bs, true, by rw [show ((1 + k : Nat) : Int) = (k : Int) + 1 by omega]; rfl, HR'.out⟩, ?_⟩
          repeat (first | with_reducible exact hBB | (with_reducible refine Below.drew ?_) | (with_reducible refine Below.setCell ?_ (by exact Nat.le_refl _) _) | (with_reducible refine Below.alloc ?_ (by simp; omega) _))
        · have hc : ((s[k].toNat : Int) == 34) = false := by rw [beq_eq_false_iff_ne]; omega
          have ht := tail_list s k
          have hxs : (s.extract k s.size).size = s.size - k := by simp [ByteArray.size_extract]
          have HS : Hid (_) := fun W => said_any (s.extract k s.size) W (by rw [hxs]; omega) (by rw [hxs]; omega)
          rw [ht] at HS
          have hqs := Lx.quo_said s[k] (s.data.toList.drop (k + 1)) h34
          rw [← hd] at hqs
          have HR' := HR.out
          rw [hqs] at HR'
          cases hsd : Lx.said (s.data.toList.drop k) with
          | none =>
            rw [hsd] at HR' HS
            have HRn : Hid (R = none) := HR'
            simp only [saidV] at HS
            clear hd h34 HR HR' hqs hsd ht hxs
            go_wp2_with fail
            refine Calls.mono (HS.out _) ?_
            rintro e w1 ⟨⟨c, z, rfl⟩, n, rfl⟩
            have hW1 := HW.out.trans (below_drewN (w.heap.size + 1) wr n)
            generalize wr.drewN n = w1 at *
            obtain ⟨q0, q1, q2, q3, q4, q5, f0, f1, f2, f3, f4, f5⟩ := cells6 rfl hW1
            have hlt1 : w.heap.size < w1.heap.size := by have := hW1.size; rw [alloc_size] at this; omega
            have hBB := ((Below.refl w.heap.size w).alloc (Nat.le_refl _) _).trans (hW1.mono (by omega))
            clear hW1 HW HS HB
            go_wp2_with fail
            refine bodyPost_ret (v := .tuple #[zeroP, .bool false]) (by simp [results, Tryz.results49, go_sem, zeroP, *]) rfl ⟨⟨0, 0, 0, [], false, rfl, HRn.out⟩, ?_⟩
            repeat (first | with_reducible exact hBB | (with_reducible refine Below.drew ?_) | (with_reducible refine Below.setCell ?_ (by exact Nat.le_refl _) _) | (with_reducible refine Below.alloc ?_ (by simp; omega) _))
          | some cz =>
            obtain ⟨c, z⟩ := cz
            rw [hsd] at HR' HS
            obtain ⟨hz0, hz1⟩ := Lx.said_le _ _ _ hsd
            rw [List.length_drop, size_list] at hz1
            have HRn : Hid (R = (Lx.quo (s.data.toList.drop (k + z))).map fun r => ⟨2, (bs ++ [c]) ++ r.1, 0, r.2 + (k + z)⟩) := by
              show _ = _
              rw [HR']
              simp only [List.drop_drop, Option.map_map]
              congr 1
              funext r
              simp only [Function.comp, List.append_assoc, List.singleton_append]
              congr 1
              omega
            simp only [saidV] at HS
            have HWB : Hid (_) := fun n => wbyte_any (w.heap.size + 1) (w.heap.size + 1) (Lib.byteCells bs) (c.toNat : Int) (wr.drewN n) (isB_drewN HB.out n) (by simp [Lib.byteCells]; omega) (Nat.le_trans hsz (below_drewN 0 wr n).size)
            rw [byteCells_snoc] at HWB
            clear hd h34 HR HR' hqs hsd ht hxs
            go_wp2_with fail
            refine Calls.mono (HS.out _) ?_
            rintro e w1 ⟨rfl, n, rfl⟩
            go_wp2_with fail
            refine Calls.mono (HWB.out _) ?_
            rintro e w2 ⟨rfl, hb2, hb3⟩
            have hW2 := (HW.out.trans (below_drewN (w.heap.size + 1) wr n)).trans hb3
            go_wp2_with fail
            go_roundw
            case rel => exact ⟨k + z, bs ++ [c], by omega, by omega, by go_num, .inr hb2, by simp; omega, hW2, HRn⟩
            case measure => simp [intOf]; omega
      · have hlt' : ¬ (k : Int) < s.size := by omega
        have HRn : Hid (R = none) := by
          have := HR.out
          rw [List.drop_of_length_le (by rw [size_list]; omega)] at this
          exact this
        have hW1 := HW.out
        obtain ⟨q0, q1, q2, q3, q4, q5, f0, f1, f2, f3, f4, f5⟩ := cells6 rfl hW1
        have hlt1 : w.heap.size < wr.heap.size := by omega
        have hBB := ((Below.refl w.heap.size w).alloc (Nat.le_refl _) _).trans (hW1.mono (by omega))
        clear hW1 HW HR HB
        go_wp2_with fail
        refine bodyPost_ret (v := .tuple #[zeroP, .bool false]) (by simp [results, Tryz.results49, go_sem, zeroP, *]) rfl ⟨⟨0, 0, 0, [], false, rfl, HRn.out⟩, ?_⟩
        repeat (first | with_reducible exact hBB | (with_reducible refine Below.drew ?_) | (with_reducible refine Below.setCell ?_ (by exact Nat.le_refl _) _) | (with_reducible refine Below.alloc ?_ (by simp; omega) _))
  · have hq' : Lx.isPre [34] s.data.toList = false := by simpa using hq
    rw [hq'] at HP
    have HV : Hid (Lx.pTxt s.data.toList = none) := by
      show _ = _
      unfold Lx.pTxt
      split
      · rfl
      · rename_i c l e
        rw [e] at hq'
        rw [if_neg]
        intro h
        have h' : c = 34 := UInt8.toNat_inj.1 h
        subst h'
        simp [Lx.isPre] at hq'
    rw [HV.out]
    clear hq hq'
    go_enter Tryz.func49, Tryz.ntmps49
    go_wp2_with (go_at_call 65; refine Calls.mono (HP.out _) ?_; rintro e w' ⟨rfl, rfl⟩)
    exact bodyPost_ret (v := .tuple #[zeroP, .bool false]) (by simp [results, Tryz.results49, go_sem, zeroP]) rfl ⟨⟨0, 0, 0, [], false, rfl, rfl⟩, (Below.refl _ _).alloc (Nat.le_refl _) _⟩
end Go.Proofs.YtpjmapoiinjakaaGreatDoor.L
end
section
namespace Go.Proofs.YtpjmapoiinjakaaGreatDoor.L
open Go.RowKit
set_option linter.unusedVariables false
/-- What is still to be asked, from a kind on. -/
def rem (l : List UInt8) : Nat → Option Lx.Pc
  | 0 => Lx.piece l
  | 1 => (Lx.pNum l).or ((Lx.pTxt l).or ((Lx.pNam l).or (Lx.pSgn l)))
  | 2 => (Lx.pTxt l).or ((Lx.pNam l).or (Lx.pSgn l))
  | 3 => (Lx.pNam l).or (Lx.pSgn l)
  | 4 => Lx.pSgn l
  | _ => none
/-- What is told: the piece, or the zero one. -/
def pcOf : Option Lx.Pc → Lx.Pc
  | some p => p
  | none => ⟨0, [], 0, 0⟩
def ToldZ (r : Option Lx.Pc) (e : Ending) : Prop := e = .returned (.tuple #[.agg #[.int .i64 ((pcOf r).k : Int), .string ⟨(pcOf r).t.toArray⟩, .int .i64 ((pcOf r).n : Int), .int .i64 0, .bool false, .int .i64 ((pcOf r).z : Int)], .bool r.isSome])
abbrev zeroO : Obj := .cells #[.int .i64 0, .string ⟨#[]⟩, .int .i64 0, .int .i64 0, .bool false, .int .i64 0] 72
/-- The five kinds, as they lie. -/
def Kinds (g : Nat) (w : World) : Prop := g < w.heap.size ∧ w.cell? ⟨g, 0, none⟩ = some (.func (.func 47) #[] #[]) ∧ w.cell? ⟨g, 1, none⟩ = some (.func (.func 48) #[] #[]) ∧ w.cell? ⟨g, 2, none⟩ = some (.func (.func 49) #[] #[]) ∧ w.cell? ⟨g, 3, none⟩ = some (.func (.func 50) #[] #[]) ∧ w.cell? ⟨g, 4, none⟩ = some (.func (.func 51) #[] #[])
theorem Kinds.below {g : Nat} {w w' : World} (h : Kinds g w) (hb : Below w.heap.size w w') : Kinds g w' :=
  ⟨Nat.lt_of_lt_of_le h.1 hb.size, by rw [hb.cell h.1]; exact h.2.1, by rw [hb.cell h.1]; exact h.2.2.1, by rw [hb.cell h.1]; exact h.2.2.2.1, by rw [hb.cell h.1]; exact h.2.2.2.2.1, by rw [hb.cell h.1]; exact h.2.2.2.2.2⟩
set_option maxRecDepth 100000 in
set_option maxHeartbeats 4000000 in
theorem first_core (s : ByteArray) (w : World) (g : Nat) (r : Nat → Option Lx.Pc) (Q : Nat → Option Lx.Pc) (h0 : g < w.heap.size)
    (HS : Hid (∀ W, Below (w.heap.size + 1) (w.alloc zeroO) W → Sig W ∧ Kinds g W ∧ w.heap.size < W.heap.size ∧ Below w.heap.size w W))
    (HQ : Hid (∀ k : Nat, k < 5 → Q k = (r k).or (Q (k + 1)))) (HQ5 : Hid (Q 5 = none))
    (H0 : Hid (∀ W, Sig W → Calls Tryz.prog 47 #[.string s] W fun e w' => Told (r 0) e ∧ Below W.heap.size W w'))
    (H1 : Hid (∀ W, Sig W → Calls Tryz.prog 48 #[.string s] W fun e w' => Told (r 1) e ∧ Below W.heap.size W w'))
    (H2 : Hid (∀ W, Sig W → Calls Tryz.prog 49 #[.string s] W fun e w' => Told (r 2) e ∧ Below W.heap.size W w'))
    (H3 : Hid (∀ W, Sig W → Calls Tryz.prog 50 #[.string s] W fun e w' => Told (r 3) e ∧ Below W.heap.size W w'))
    (H4 : Hid (∀ W, Sig W → Calls Tryz.prog 51 #[.string s] W fun e w' => Told (r 4) e ∧ Below W.heap.size W w')) :
    Calls Tryz.prog 46 #[.string s, .slice (some ⟨g, 0, none⟩) 5 5] w fun e w' => ToldZ (Q 0) e ∧ Below w.heap.size w w' := by
  go_enter Tryz.func46, Tryz.ntmps46
  go_wp2_with fail
  go_loopw [12] (fun i W => ∃ (k : Nat), k ≤ 5 ∧ i = .int .i64 k ∧ Hid (Q k = Q 0) ∧ Hid (Below (w.heap.size + 1) (w.alloc zeroO) W)) (fun i _ => 5 - (intOf i).toNat)
  case atStart => exact ⟨0, by omega, rfl, rfl, (show Below _ _ _ from Below.refl _ _)⟩
  case round =>
    obtain ⟨k, hk, rfl, HR, HW⟩ := hrel
    obtain ⟨hG, ⟨hgl, c0, c1, c2, c3, c4⟩, hlt, hWW⟩ := HS.out _ HW.out
    obtain hk5 | hk5 : k < 5 ∨ k = 5 := by omega
    · have HN := HQ.out k hk5
      clear HQ HQ5 HS hWW
      obtain rfl | rfl | rfl | rfl | rfl : k = 0 ∨ k = 1 ∨ k = 2 ∨ k = 3 ∨ k = 4 := by omega
      · have HK : Hid (_) := H0.out _ hG
        clear hG H0 H1 H2 H3 H4
        go_wp2_with fail
        refine Calls.mono HK.out ?_
        rintro e w1 ⟨⟨kk, n, z, t, ok, rfl, hr⟩, hb1⟩
        have hW1 := HW.out.trans (hb1.mono (by omega))
        clear HK hb1 c0 c1 c2 c3 c4
        rw [hr] at HN
        have hlt1 : w.heap.size < w1.heap.size := by have := hW1.size; rw [alloc_size] at this; omega
        cases ok
        · have HR' : Hid (Q 1 = Q 0) := HN.symm
          have HB1 : Hid (Below _ _ _) := hW1
          clear hW1 hr HR HW HN
          go_wp2_with fail
          go_roundw
          case rel =>
            refine ⟨1, by omega, by go_num, HR', ?_⟩
            show Below _ _ _
            repeat (first | with_reducible exact HB1.out | (with_reducible refine Below.drew ?_) | (with_reducible refine Below.setCell ?_ (by first | exact Nat.le_refl _ | omega) _) | (with_reducible refine Below.alloc ?_ (by first | omega | (simp; omega)) _))
          case measure => simp [intOf]
        · have HR' : Hid (Q 0 = some ⟨kk, t, n, z⟩) := HN
          obtain ⟨q0, q1, q2, q3, q4, q5, f0, f1, f2, f3, f4, f5⟩ := cells6 rfl hW1
          have hBB := ((Below.refl w.heap.size w).alloc (Nat.le_refl _) zeroO).trans (hW1.mono (by omega))
          clear hW1 hr HR HW HN
          go_wp2_with fail
          refine bodyPost_ret (v := .tuple #[.agg #[.int .i64 (kk : Int), .string ⟨t.toArray⟩, .int .i64 (n : Int), .int .i64 0, .bool false, .int .i64 (z : Int)], .bool true]) (by simp [results, Tryz.results46, go_sem, *]) rfl ⟨by unfold ToldZ; rw [HR'.out]; rfl, ?_⟩
          repeat (first | with_reducible exact hBB | (with_reducible refine Below.drew ?_) | (with_reducible refine Below.setCell ?_ (by first | exact Nat.le_refl _ | omega) _) | (with_reducible refine Below.alloc ?_ (by first | omega | (simp; omega)) _))
      · have HK : Hid (_) := H1.out _ hG
        clear hG H0 H1 H2 H3 H4
        go_wp2_with fail
        refine Calls.mono HK.out ?_
        rintro e w1 ⟨⟨kk, n, z, t, ok, rfl, hr⟩, hb1⟩
        have hW1 := HW.out.trans (hb1.mono (by omega))
        clear HK hb1 c0 c1 c2 c3 c4
        rw [hr] at HN
        have hlt1 : w.heap.size < w1.heap.size := by have := hW1.size; rw [alloc_size] at this; omega
        cases ok
        · have HR' : Hid (Q 2 = Q 0) := HN.symm.trans HR.out
          have HB1 : Hid (Below _ _ _) := hW1
          clear hW1 hr HR HW HN
          go_wp2_with fail
          go_roundw
          case rel =>
            refine ⟨2, by omega, by go_num, HR', ?_⟩
            show Below _ _ _
            repeat (first | with_reducible exact HB1.out | (with_reducible refine Below.drew ?_) | (with_reducible refine Below.setCell ?_ (by first | exact Nat.le_refl _ | omega) _) | (with_reducible refine Below.alloc ?_ (by first | omega | (simp; omega)) _))
          case measure => simp [intOf]
        · have HR' : Hid (Q 0 = some ⟨kk, t, n, z⟩) := HR.out.symm.trans HN
          obtain ⟨q0, q1, q2, q3, q4, q5, f0, f1, f2, f3, f4, f5⟩ := cells6 rfl hW1
          have hBB := ((Below.refl w.heap.size w).alloc (Nat.le_refl _) zeroO).trans (hW1.mono (by omega))
          clear hW1 hr HR HW HN
          go_wp2_with fail
          refine bodyPost_ret (v := .tuple #[.agg #[.int .i64 (kk : Int), .string ⟨t.toArray⟩, .int .i64 (n : Int), .int .i64 0, .bool false, .int .i64 (z : Int)], .bool true]) (by simp [results, Tryz.results46, go_sem, *]) rfl ⟨by unfold ToldZ; rw [HR'.out]; rfl, ?_⟩
          repeat (first | with_reducible exact hBB | (with_reducible refine Below.drew ?_) | (with_reducible refine Below.setCell ?_ (by first | exact Nat.le_refl _ | omega) _) | (with_reducible refine Below.alloc ?_ (by first | omega | (simp; omega)) _))
      · have HK : Hid (_) := H2.out _ hG
        clear hG H0 H1 H2 H3 H4
        go_wp2_with fail
        refine Calls.mono HK.out ?_
        rintro e w1 ⟨⟨kk, n, z, t, ok, rfl, hr⟩, hb1⟩
        have hW1 := HW.out.trans (hb1.mono (by omega))
        clear HK hb1 c0 c1 c2 c3 c4
        rw [hr] at HN
        have hlt1 : w.heap.size < w1.heap.size := by have := hW1.size; rw [alloc_size] at this; omega
        cases ok
        · have HR' : Hid (Q 3 = Q 0) := HN.symm.trans HR.out
          have HB1 : Hid (Below _ _ _) := hW1
          clear hW1 hr HR HW HN
          go_wp2_with fail
          go_roundw
          case rel =>
            refine ⟨3, by omega, by go_num, HR', ?_⟩
            show Below _ _ _
            repeat (first | with_reducible exact HB1.out | (with_reducible refine Below.drew ?_) | (with_reducible refine Below.setCell ?_ (by first | exact Nat.le_refl _ | omega) _) | (with_reducible refine Below.alloc ?_ (by first | omega | (simp; omega)) _))
          case measure => simp [intOf]
        · have HR' : Hid (Q 0 = some ⟨kk, t, n, z⟩) := HR.out.symm.trans HN
          obtain ⟨q0, q1, q2, q3, q4, q5, f0, f1, f2, f3, f4, f5⟩ := cells6 rfl hW1
          have hBB := ((Below.refl w.heap.size w).alloc (Nat.le_refl _) zeroO).trans (hW1.mono (by omega))
          clear hW1 hr HR HW HN
          go_wp2_with fail
          refine bodyPost_ret (v := .tuple #[.agg #[.int .i64 (kk : Int), .string ⟨t.toArray⟩, .int .i64 (n : Int), .int .i64 0, .bool false, .int .i64 (z : Int)], .bool true]) (by simp [results, Tryz.results46, go_sem, *]) rfl ⟨by unfold ToldZ; rw [HR'.out]; rfl, ?_⟩
          repeat (first | with_reducible exact hBB | (with_reducible refine Below.drew ?_) | (with_reducible refine Below.setCell ?_ (by first | exact Nat.le_refl _ | omega) _) | (with_reducible refine Below.alloc ?_ (by first | omega | (simp; omega)) _))
      · have HK : Hid (_) := H3.out _ hG
        clear hG H0 H1 H2 H3 H4
        go_wp2_with fail
        refine Calls.mono HK.out ?_
        rintro e w1 ⟨⟨kk, n, z, t, ok, rfl, hr⟩, hb1⟩
        have hW1 := HW.out.trans (hb1.mono (by omega))
        clear HK hb1 c0 c1 c2 c3 c4
        rw [hr] at HN
        have hlt1 : w.heap.size < w1.heap.size := by have := hW1.size; rw [alloc_size] at this; omega
        cases ok
        · have HR' : Hid (Q 4 = Q 0) := HN.symm.trans HR.out
          have HB1 : Hid (Below _ _ _) := hW1
          clear hW1 hr HR HW HN
          go_wp2_with fail
          go_roundw
          case rel =>
            refine ⟨4, by omega, by go_num, HR', ?_⟩
            show Below _ _ _
            repeat (first | with_reducible exact HB1.out | (with_reducible refine Below.drew ?_) | (with_reducible refine Below.setCell ?_ (by first | exact Nat.le_refl _ | omega) _) | (with_reducible refine Below.alloc ?_ (by first | omega | (simp; omega)) _))
          case measure => simp [intOf]
        · have HR' : Hid (Q 0 = some ⟨kk, t, n, z⟩) := HR.out.symm.trans HN
          obtain ⟨q0, q1, q2, q3, q4, q5, f0, f1, f2, f3, f4, f5⟩ := cells6 rfl hW1
          have hBB := ((Below.refl w.heap.size w).alloc (Nat.le_refl _) zeroO).trans (hW1.mono (by omega))
          clear hW1 hr HR HW HN
          go_wp2_with fail
          refine bodyPost_ret (v := .tuple #[.agg #[.int .i64 (kk : Int), .string ⟨t.toArray⟩, .int .i64 (n : Int), .int .i64 0, .bool false, .int .i64 (z : Int)], .bool true]) (by simp [results, Tryz.results46, go_sem, *]) rfl ⟨by unfold ToldZ; rw [HR'.out]; rfl, ?_⟩
          repeat (first | with_reducible exact hBB | (with_reducible refine Below.drew ?_) | (with_reducible refine Below.setCell ?_ (by first | exact Nat.le_refl _ | omega) _) | (with_reducible refine Below.alloc ?_ (by first | omega | (simp; omega)) _))
      · have HK : Hid (_) := H4.out _ hG
        clear hG H0 H1 H2 H3 H4
        go_wp2_with fail
        refine Calls.mono HK.out ?_
        rintro e w1 ⟨⟨kk, n, z, t, ok, rfl, hr⟩, hb1⟩
        have hW1 := HW.out.trans (hb1.mono (by omega))
        clear HK hb1 c0 c1 c2 c3 c4
        rw [hr] at HN
        have hlt1 : w.heap.size < w1.heap.size := by have := hW1.size; rw [alloc_size] at this; omega
        cases ok
        · have HR' : Hid (Q 5 = Q 0) := HN.symm.trans HR.out
          have HB1 : Hid (Below _ _ _) := hW1
          clear hW1 hr HR HW HN
          go_wp2_with fail
          go_roundw
          case rel =>
            refine ⟨5, by omega, by go_num, HR', ?_⟩
            show Below _ _ _
            repeat (first | with_reducible exact HB1.out | (with_reducible refine Below.drew ?_) | (with_reducible refine Below.setCell ?_ (by first | exact Nat.le_refl _ | omega) _) | (with_reducible refine Below.alloc ?_ (by first | omega | (simp; omega)) _))
          case measure => simp [intOf]
        · have HR' : Hid (Q 0 = some ⟨kk, t, n, z⟩) := HR.out.symm.trans HN
          obtain ⟨q0, q1, q2, q3, q4, q5, f0, f1, f2, f3, f4, f5⟩ := cells6 rfl hW1
          have hBB := ((Below.refl w.heap.size w).alloc (Nat.le_refl _) zeroO).trans (hW1.mono (by omega))
          clear hW1 hr HR HW HN
          go_wp2_with fail
          refine bodyPost_ret (v := .tuple #[.agg #[.int .i64 (kk : Int), .string ⟨t.toArray⟩, .int .i64 (n : Int), .int .i64 0, .bool false, .int .i64 (z : Int)], .bool true]) (by simp [results, Tryz.results46, go_sem, *]) rfl ⟨by unfold ToldZ; rw [HR'.out]; rfl, ?_⟩
          repeat (first | with_reducible exact hBB | (with_reducible refine Below.drew ?_) | (with_reducible refine Below.setCell ?_ (by first | exact Nat.le_refl _ | omega) _) | (with_reducible refine Below.alloc ?_ (by first | omega | (simp; omega)) _))
    · subst hk5
      have HR' : Hid (Q 0 = none) := HR.out.symm.trans HQ5.out
      obtain ⟨q0, q1, q2, q3, q4, q5, f0, f1, f2, f3, f4, f5⟩ := cells6 rfl HW.out
      clear hG HR c0 c1 c2 c3 c4 HQ HQ5 HS H0 H1 H2 H3 H4 HW
      go_wp2_with fail
      refine bodyPost_ret (v := .tuple #[zeroP, .bool false]) (by simp [results, Tryz.results46, go_sem, zeroP, *]) rfl ⟨by unfold ToldZ; rw [HR'.out]; rfl, ?_⟩
      repeat (first | with_reducible exact hWW | (with_reducible refine Below.drew ?_) | (with_reducible refine Below.setCell ?_ (by exact Nat.le_refl _) _) | (with_reducible refine Below.alloc ?_ (by first | omega | (simp; omega)) _))
theorem first_any (s : ByteArray) (w : World) (g : Nat) (hs : s.size ≤ 1000000) (hg : Sig w) (hk : Kinds g w) :
    Calls Tryz.prog 46 #[.string s, .slice (some ⟨g, 0, none⟩) 5 5] w fun e w' => ToldZ (Lx.piece s.data.toList) e ∧ Below w.heap.size w w' := by
  have HS : ∀ W, Below (w.heap.size + 1) (w.alloc zeroO) W → Sig W ∧ Kinds g W ∧ w.heap.size < W.heap.size ∧ Below w.heap.size w W := fun W hb => by
    have h1 : Below w.heap.size w W := ((Below.refl _ _).alloc (Nat.le_refl _) zeroO).trans (hb.mono (by omega))
    have h2 := hb.size
    rw [alloc_size] at h2
    exact ⟨hg.below h1, hk.below h1, by omega, h1⟩
  refine first_core s w g (fun | 0 => Lx.pEnd s.data.toList | 1 => Lx.pNum s.data.toList | 2 => Lx.pTxt s.data.toList | 3 => Lx.pNam s.data.toList | _ => Lx.pSgn s.data.toList) (rem s.data.toList) hk.1 HS (fun k h => ?_) rfl (fun W _ => end_any s W) (fun W _ => number_any s W hs) (fun W _ => text_any s W hs) (fun W _ => name_any s W hs) (fun W h => sign_any s W hs h)
  obtain rfl | rfl | rfl | rfl | rfl : k = 0 ∨ k = 1 ∨ k = 2 ∨ k = 3 ∨ k = 4 := by omega
  · rfl
  · rfl
  · rfl
  · rfl
  · show Lx.pSgn _ = (Lx.pSgn _).or none
    cases Lx.pSgn s.data.toList <;> rfl
end Go.Proofs.YtpjmapoiinjakaaGreatDoor.L
end
section
namespace Go.Proofs.YtpjmapoiinjakaaGreatDoor.Lx
set_option linter.unusedVariables false
theorem hd_pos {p : UInt8 → Bool} {l : List UInt8} (h : beg p l = true) : 1 ≤ hd p l := by
  cases l with
  | nil => simp [beg] at h
  | cons c l =>
    have hc : p c = true := h
    unfold hd
    rw [if_pos hc]; omega
theorem beg_or {p q : UInt8 → Bool} {l : List UInt8} (h : beg p l = true) (hpq : ∀ c, p c = true → q c = true) : beg q l = true := by
  cases l with
  | nil => simp [beg] at h
  | cons c l => exact hpq c h
theorem quo_le : ∀ (n : Nat) (l : List UInt8) (r : List UInt8 × Nat), l.length ≤ n → quo l = some r → 1 ≤ r.2 ∧ r.2 ≤ l.length
  | _, [], r, _, h => by simp [quo] at h
  | _, [c], r, _, h => by
    unfold quo at h
    split at h
    · cases h; simp
    · cases h
  | 0, c :: d :: l, r, hn, h => by simp at hn
  | n + 1, c :: d :: l, r, hn, h => by
    simp only [List.length_cons] at hn
    unfold quo at h
    split at h
    · cases h; simp
    · split at h
      · split at h
        · obtain ⟨r', h1, rfl⟩ := Option.map_eq_some_iff.1 h
          have := quo_le n l r' (by omega) h1
          simp; omega
        · split at h
          · obtain ⟨r', h1, rfl⟩ := Option.map_eq_some_iff.1 h
            have := quo_le n l r' (by omega) h1
            simp; omega
          · cases h
      · split at h
        · obtain ⟨r', h1, rfl⟩ := Option.map_eq_some_iff.1 h
          have := quo_le n (d :: l) r' (by simp; omega) h1
          simp at this ⊢; omega
        · cases h
theorem sgn_fold (l : List UInt8) : ∀ (L : List (List UInt8)) (a : List UInt8), (a = [] ∨ isPre a l = true) → (L.foldl (longer l) a = [] ∨ isPre (L.foldl (longer l) a) l = true)
  | [], a, h => h
  | s :: L, a, h => by
    refine sgn_fold l L (longer l a s) ?_
    unfold longer
    split
    · rename_i h1; exact .inr h1.2
    · exact h
theorem sgn_pre (l : List UInt8) : sgn l = [] ∨ isPre (sgn l) l = true := sgn_fold l signs [] (.inl rfl)
theorem isPre_le {s l : List UInt8} (h : isPre s l = true) : s.length ≤ l.length ∧ l.take s.length = s := by
  unfold isPre at h; simpa using h
/-- What a piece is: it lies within; all but the end take a byte at least. -/
theorem piece_ok {l : List UInt8} {q : Pc} (h : piece l = some q) : q.z ≤ l.length ∧ q.k ≤ 5 ∧ (q.k = 0 → l = []) ∧ (q.k ≠ 0 → 1 ≤ q.z) := by
  unfold piece at h
  rw [Option.or_eq_some_iff] at h
  rcases h with h | ⟨_, h⟩
  · unfold pEnd at h
    split at h
    · cases h; rename_i e; simp [e]
    · cases h
  rw [Option.or_eq_some_iff] at h
  rcases h with h | ⟨_, h⟩
  · unfold pNum at h
    split at h
    · cases h
      rename_i e
      have hl := hd_le digit l
      refine ⟨hl, by show 1 ≤ 5; omega, (fun e => by cases e), fun _ => ?_⟩
      rcases Nat.eq_zero_or_pos (hd digit l) with e0 | e0
      · rw [e0] at e; simp [valB] at e
      · exact e0
    · cases h
  rw [Option.or_eq_some_iff] at h
  rcases h with h | ⟨_, h⟩
  · unfold pTxt at h
    split at h
    · cases h
    · split at h
      · obtain ⟨r, h1, rfl⟩ := Option.map_eq_some_iff.1 h
        have := quo_le _ _ _ (Nat.le_refl _) h1
        simp; omega
      · cases h
  rw [Option.or_eq_some_iff] at h
  rcases h with h | ⟨_, h⟩
  · unfold pNam at h
    split at h
    · rename_i e
      have e2 : beg ofName l = true := beg_or e (fun c hc => by unfold ofName; rw [hc]; rfl)
      have := hd_pos e2
      have hl := hd_le ofName l
      cases h
      refine ⟨hl, by show (if _ then 4 else 3) ≤ 5; split <;> omega, (fun e => by revert e; show (if _ then 4 else 3) = 0 → _; split <;> (intro e; cases e)), fun _ => this⟩
    · cases h
  · unfold pSgn at h
    have hp := sgn_pre l
    generalize sgn l = S at *
    split at h
    · cases h
    · rename_i e
      have := (isPre_le (hp.resolve_left e)).1
      have hl : 1 ≤ S.length := List.length_pos_iff.2 e
      obtain rfl := Option.some.inj h
      exact ⟨this, Nat.le_refl _, fun e => absurd (show (5 : Nat) = 0 from e) (by decide), fun _ => hl⟩
theorem tok_ok (l : List UInt8) (p : Nat) (hp : p ≤ l.length) : p ≤ (tok l p).a ∧ (tok l p).a ≤ (tok l p).e ∧ (tok l p).e ≤ l.length ∧ (tok l p).k ≤ 6 ∧ ((tok l p).k ≠ 0 → (tok l p).k ≠ 6 → (tok l p).a < (tok l p).e) ∧ ((tok l p).k = 0 → (tok l p).a = l.length) := by
  have h := blk_le false (l.drop p)
  rw [List.length_drop] at h
  unfold tok
  generalize (blk false (l.drop p)).1 = b at *
  generalize (blk false (l.drop p)).2 = ln at *
  cases hq : piece (l.drop (p + b)) with
  | none =>
    simp only [tokOf]
    refine ⟨by omega, by omega, by omega, by omega, fun _ e => absurd rfl e, fun e => by cases e⟩
  | some q =>
    obtain ⟨h1, h2, h3, h4⟩ := piece_ok hq
    rw [List.length_drop] at h1
    simp only [tokOf]
    refine ⟨by omega, by omega, by omega, by omega, fun e _ => by have := h4 e; omega, fun e => ?_⟩
    have := h3 e
    have := congrArg List.length this
    rw [List.length_drop] at this
    simp at this; omega
/-- More than enough is enough. -/
theorem run_more (l : List UInt8) : ∀ (f g p : Nat), p ≤ l.length → l.length < p + f → l.length < p + g → run l f p = run l g p
  | 0, g, p, hp, hf, hg => by omega
  | f + 1, 0, p, hp, hf, hg => by omega
  | f + 1, g + 1, p, hp, hf, hg => by
    unfold run
    split
    · rfl
    · rename_i h
      have := tok_ok l p hp
      have h5 := this.2.2.2.2.1 (fun e => h (.inl e)) (fun e => h (.inr e))
      rw [run_more l f g _ (by omega) (by omega) (by omega)]
theorem all_step (l : List UInt8) (p : Nat) (hp : p ≤ l.length) : run l (l.length + 1) p = if (tok l p).k = 0 ∨ (tok l p).k = 6 then [tok l p] else tok l p :: run l (l.length + 1) (tok l p).e := by
  show (if _ then _ else _) = _
  split
  · rfl
  · rename_i h
    have := tok_ok l p hp
    have h5 := this.2.2.2.2.1 (fun e => h (.inl e)) (fun e => h (.inr e))
    rw [run_more l l.length (l.length + 1) _ (by omega) (by omega) (by omega)]
end Go.Proofs.YtpjmapoiinjakaaGreatDoor.Lx
end
section
namespace Go.Proofs.YtpjmapoiinjakaaGreatDoor.L
open Go.RowKit
set_option linter.unusedVariables false
/-- A token's five cells. -/
abbrev tkA (t : Lx.Tk) : Array Value := #[.int .i64 (t.k : Int), .string ⟨t.t.toArray⟩, .int .i64 (t.n : Int), .int .i64 (t.a : Int), .bool t.ln]
set_option maxRecDepth 100000 in
set_option maxHeartbeats 4000000 in
theorem next_core (s : ByteArray) (w : World) (p b : Nat) (ln : Bool) (r : Option Lx.Pc) (hb : (b : Int) ≤ s.size) (hs : s.size ≤ 1000000) (hz : Hid (∀ q, r = some q → q.z ≤ 1000000)) (h0 : w.heap.size ≠ 0)
    (H1 : Hid (∀ W, Calls Tryz.prog 45 #[.string s, .int .i64 (p : Int)] W fun e w' => e = .returned (.tuple #[.int .i64 (b : Int), .bool ln]) ∧ w' = W))
    (H2 : Hid (∀ W g, Below w.heap.size w W → Kinds g W → Calls Tryz.prog 46 #[.string (s.extract b s.size), .slice (some ⟨g, 0, none⟩) 5 5] W fun e w' => ToldZ r e ∧ Below W.heap.size W w')) :
    Calls Tryz.prog 37 #[.string s, .int .i64 (p : Int)] w fun e w' => e = .returned (.tuple #[.agg (tkA (Lx.tokOf b ln r)), .int .i64 ((Lx.tokOf b ln r).e : Int)]) ∧ Below w.heap.size w w' := by
  cases r with
  | none =>
    go_enter Tryz.func37, Tryz.ntmps37
    go_wp2_with (go_at_call 45; refine Calls.mono (H1.out _) ?_; rintro e w' ⟨rfl, rfl⟩)
    refine Calls.mono (H2.out _ _ (((Below.refl _ _).alloc (Nat.le_refl _) _).alloc (by simp) _) (by simp [Kinds])) ?_
    rintro e w1 ⟨hr, hb1⟩
    have hr' : e = .returned (.tuple #[.agg #[.int .i64 0, .string ⟨#[]⟩, .int .i64 0, .int .i64 0, .bool false, .int .i64 0], .bool false]) := hr
    subst hr'
    obtain ⟨q0, q1, q2, q3, q4, f0, f1, f2, f3, f4⟩ := cells5 rfl (((Below.refl (w.heap.size + 1) _).alloc (by simp) _).trans (hb1.mono (by simp)))
    have hlt1 : w.heap.size < w1.heap.size := by have := hb1.size; simp at this; omega
    have hBB := (((Below.refl w.heap.size w).alloc (Nat.le_refl _) _).alloc (by simp) _).trans (hb1.mono (by simp; omega))
    clear hb1 H1 H2 hr
    go_wp2_with fail
    go_region
    go_wp2_with fail
    refine bodyPost_ret (v := .tuple #[.agg #[.int .i64 6, .string ⟨#[]⟩, .int .i64 0, .int .i64 (b : Int), .bool ln], .int .i64 (b : Int)]) (by simp [results, Tryz.results37, go_sem, *]) rfl ⟨rfl, ?_⟩
    repeat (first | with_reducible exact hBB | (with_reducible refine Below.drew ?_) | (with_reducible refine Below.setCell ?_ (by first | exact Nat.le_refl _ | omega) _) | (with_reducible refine Below.alloc ?_ (by first | omega | (simp; omega)) _))
  | some q =>
    have hq := hz.out q rfl
    clear hz
    obtain ⟨k, t, n, z⟩ := q
    simp only at hq
    go_enter Tryz.func37, Tryz.ntmps37
    go_wp2_with (go_at_call 45; refine Calls.mono (H1.out _) ?_; rintro e w' ⟨rfl, rfl⟩)
    refine Calls.mono (H2.out _ _ (((Below.refl _ _).alloc (Nat.le_refl _) _).alloc (by simp) _) (by simp [Kinds])) ?_
    rintro e w1 ⟨hr, hb1⟩
    have hr' : e = .returned (.tuple #[.agg #[.int .i64 (k : Int), .string ⟨t.toArray⟩, .int .i64 (n : Int), .int .i64 0, .bool false, .int .i64 (z : Int)], .bool true]) := hr
    subst hr'
    obtain ⟨q0, q1, q2, q3, q4, f0, f1, f2, f3, f4⟩ := cells5 rfl (((Below.refl (w.heap.size + 1) _).alloc (by simp) _).trans (hb1.mono (by simp)))
    have hlt1 : w.heap.size < w1.heap.size := by have := hb1.size; simp at this; omega
    have hBB := (((Below.refl w.heap.size w).alloc (Nat.le_refl _) _).alloc (by simp) _).trans (hb1.mono (by simp; omega))
    clear hb1 H1 H2 hr
    go_wp2_with fail
    go_region
    go_wp2_with fail
    refine bodyPost_ret (v := .tuple #[.agg #[.int .i64 (k : Int), .string ⟨t.toArray⟩, .int .i64 (n : Int), .int .i64 (b : Int), .bool ln], .int .i64 ((b + z : Nat) : Int)]) (by simp [results, Tryz.results37, go_sem, *]) rfl ⟨rfl, ?_⟩
    repeat (first | with_reducible exact hBB | (with_reducible refine Below.drew ?_) | (with_reducible refine Below.setCell ?_ (by first | exact Nat.le_refl _ | omega) _) | (with_reducible refine Below.alloc ?_ (by first | omega | (simp; omega)) _))
theorem next_any (s : ByteArray) (p : Nat) (w : World) (hs : s.size ≤ 1000000) (hp : p ≤ s.size) (hg : Sig w) :
    Calls Tryz.prog 37 #[.string s, .int .i64 (p : Int)] w fun e w' => e = .returned (.tuple #[.agg (tkA (Lx.tok s.data.toList p)), .int .i64 ((Lx.tok s.data.toList p).e : Int)]) ∧ Below w.heap.size w w' := by
  have hb := Lx.blk_le false (s.data.toList.drop p)
  rw [List.length_drop, size_list] at hb
  refine next_core s w p (p + (Lx.blk false (s.data.toList.drop p)).1) _ (Lx.piece (s.data.toList.drop (p + (Lx.blk false (s.data.toList.drop p)).1))) (by omega) hs (fun q hq => ?_) (Nat.ne_of_gt hg.1) (fun W => skip_any s p W hs hp) (fun W g hW hk => ?_)
  · have := (Lx.piece_ok hq).1
    rw [List.length_drop, size_list] at this
    omega
  · have := first_any (s.extract (p + (Lx.blk false (s.data.toList.drop p)).1) s.size) W g (by simp [ByteArray.size_extract]; omega) (hg.below hW) hk
    rw [tail_list] at this
    exact this
end Go.Proofs.YtpjmapoiinjakaaGreatDoor.L
end
