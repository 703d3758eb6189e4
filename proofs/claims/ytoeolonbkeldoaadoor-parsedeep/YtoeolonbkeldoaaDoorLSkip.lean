/- lex.commentSize and lex.skip by their contracts: behind blanks and comments. -/
import Derived.Test.YtoeolonbkeldoaaDoorLHead
import Derived.Deep.DeepCutAuto
import Derived.Deep.CutBlock
namespace Go.Proofs.YtoeolonbkeldoaaDoor.Lx
def ne10 (c : UInt8) : Bool := decide (c.toNat ≠ 10)
theorem idx_hd : ∀ l : List UInt8, Lib.indexByte l 10 = if hd ne10 l < l.length then (hd ne10 l : Int) else -1
  | [] => rfl
  | c :: l => by
    have ih := idx_hd l
    have hl := hd_le ne10 l
    by_cases h : c = 10
    · subst h
      simp [Lib.indexByte, hd, ne10]
    · have h10 : ne10 c = true := by
        unfold ne10
        have : c.toNat ≠ 10 := fun e => h (UInt8.toNat_inj.1 e)
        simpa using this
      have e1 : hd ne10 (c :: l) = hd ne10 l + 1 := by rw [hd, if_pos h10]
      have e2 : (c == 10) = false := by simpa using h
      have e3 : Lib.indexByte (c :: l) 10 = if Lib.indexByte l 10 == -1 then -1 else Lib.indexByte l 10 + 1 := by rw [Lib.indexByte, e2]; rfl
      rw [e1, e3, ih]
      by_cases h2 : hd ne10 l < l.length
      · have h3 : ((hd ne10 l : Int) == -1) = false := by rw [beq_eq_false_iff_ne]; omega
        have h4 : hd ne10 l + 1 < (c :: l).length := by rw [List.length_cons]; omega
        rw [if_pos h2, if_pos h4, h3]
        simp
      · have h4 : ¬ hd ne10 l + 1 < (c :: l).length := by rw [List.length_cons]; omega
        rw [if_neg h2, if_neg h4]
        rfl
/-- Within a comment: as many bytes as are no line's end, then blanks. -/
theorem blk_true : ∀ l : List UInt8, blk true l = (hd ne10 l + (blk false (l.drop (hd ne10 l))).1, (blk false (l.drop (hd ne10 l))).2)
  | [] => rfl
  | c :: l => by
    have ih := blk_true l
    by_cases h : c.toNat = 10
    · have e1 : hd ne10 (c :: l) = 0 := by rw [hd, if_neg (by unfold ne10; simpa using h)]
      rw [e1]
      simp only [List.drop_zero, blk, h, if_true, Nat.zero_add]
    · have e1 : hd ne10 (c :: l) = hd ne10 l + 1 := by rw [hd, if_pos (by unfold ne10; simpa using h)]
      rw [e1, List.drop_succ_cons, blk, if_neg h, ih]
      simp only [Prod.mk.injEq, and_true]
      omega
theorem blk_line (c : UInt8) (l : List UInt8) (h : c.toNat = 10) : blk false (c :: l) = ((blk false l).1 + 1, true) := by rw [blk, if_pos h]
theorem blk_blank (c : UInt8) (l : List UInt8) (h : blank c = true) (h10 : c.toNat ≠ 10) : blk false (c :: l) = ((blk false l).1 + 1, (blk false l).2) := by
  unfold blank at h
  rw [blk, if_neg h10, if_pos (by simp at h; omega)]
theorem pre2 (c : UInt8) (l : List UInt8) : isPre [47, 47] (c :: l) = true ↔ c.toNat = 47 ∧ (l.head?.map (·.toNat)) = some 47 := by
  cases l with
  | nil => simp [isPre]
  | cons d l =>
    simp only [isPre, List.length_cons, List.length_nil, Bool.and_eq_true, decide_eq_true_eq, List.head?_cons, Option.map_some, Option.some.injEq]
    constructor
    · rintro ⟨_, h⟩
      simp at h
      obtain ⟨rfl, rfl⟩ := h
      exact ⟨rfl, rfl⟩
    · rintro ⟨h1, h2⟩
      have e1 : c = 47 := UInt8.toNat_inj.1 h1
      have e2 : d = 47 := UInt8.toNat_inj.1 h2
      subst e1; subst e2
      simp
theorem blk_note (c : UInt8) (l : List UInt8) (_hb : blank c = false) (h : isPre [47, 47] (c :: l) = true) : blk false (c :: l) = (hd ne10 (c :: l) + (blk false ((c :: l).drop (hd ne10 (c :: l)))).1, (blk false ((c :: l).drop (hd ne10 (c :: l)))).2) := by
  obtain ⟨h1, h2⟩ := (pre2 c l).1 h
  have e1 : hd ne10 (c :: l) = hd ne10 l + 1 := by rw [hd, if_pos (by unfold ne10; simp [h1])]
  rw [e1, List.drop_succ_cons, blk, if_neg (by omega), if_neg (by omega), if_pos ⟨h1, h2⟩, blk_true]
  simp only [Prod.mk.injEq, and_true]
  omega
theorem blk_none (c : UInt8) (l : List UInt8) (hb : blank c = false) (h : isPre [47, 47] (c :: l) = false) : blk false (c :: l) = (0, false) := by
  unfold blank at hb
  simp at hb
  rw [blk, if_neg (by omega), if_neg (by omega), if_neg (fun h' => by rw [(pre2 c l).2 h'] at h; cases h)]
end Go.Proofs.YtoeolonbkeldoaaDoor.Lx
namespace Go.Proofs.YtoeolonbkeldoaaDoor.L
open Go.RowKit
set_option linter.unusedVariables false
set_option maxRecDepth 100000 in
set_option maxHeartbeats 400000 in
theorem comment_any (s : ByteArray) (w : World) (hs : s.size ≤ 281474976710656) :
    Calls Tryd.prog 35 #[.string s] w fun e w' => e = .returned (.int .i64 (Lx.hd Lx.ne10 s.data.toList : Int)) ∧ w' = w := by
  have h0 : ∀ W, Calls Tryd.prog 72 #[.string s, .int .u8 10] W fun e w' => e = .returned (.int .i64 (Lib.indexByte s.data.toList 10)) ∧ w' = W := by
    intro W
    go_enter Tryd.func72, Tryd.ntmps72
    go_wp2
    rw [run_callFunc_extern Tryd.func77 (by kernel_rfl) (by kernel_rfl) (by kernel_rfl) (e := Extern.BytealgIndexByte.indexByte) (by kernel_rfl)]
    rw [Lib.run_indexByteString]
    simp only [Result.andThen]
    rw [Oper.upon_value]
    go_wp2
    go_ret
    exact ⟨rfl, rfl⟩
  have H0 : Hid (_) := h0
  have h1 : ∀ W, Calls Tryd.prog 58 #[.string s, .int .u8 10] W fun e w' => e = .returned (.int .i64 (Lib.indexByte s.data.toList 10)) ∧ w' = W := by
    intro W
    go_enter Tryd.func58, Tryd.ntmps58
    go_wp2_with (go_at_call 72; refine Calls.mono (H0.out _) ?_; rintro e w' ⟨rfl, rfl⟩)
    go_ret
    exact ⟨rfl, rfl⟩
  have hl := Lx.hd_le Lx.ne10 s.data.toList
  rw [size_list] at hl
  rw [Lx.idx_hd, size_list] at h1
  have H1 : Hid (_) := h1
  clear h0 h1 H0
  generalize Lx.hd Lx.ne10 s.data.toList = k at *
  by_cases h : k < s.size
  · rw [if_pos h] at H1
    have hk : (0 : Int) ≤ k := by omega
    go_enter Tryd.func35, Tryd.ntmps35
    go_wp2_with (go_at_call 58; refine Calls.mono (H1.out _) ?_; rintro e w' ⟨rfl, rfl⟩)
    go_ret
    exact ⟨rfl, rfl⟩
  · rw [if_neg h] at H1
    have hk : k = s.size := by omega
    subst hk
    go_enter Tryd.func35, Tryd.ntmps35
    go_wp2_with (go_at_call 58; refine Calls.mono (H1.out _) ?_; rintro e w' ⟨rfl, rfl⟩)
    go_ret
    exact ⟨rfl, rfl⟩
theorem drop_at (s : ByteArray) (k : Nat) (h : k < s.size) : s.data.toList.drop k = s[k] :: s.data.toList.drop (k + 1) := by
  rw [List.drop_eq_getElem_cons (by rw [size_list]; exact h)]; rfl
theorem tail_list (s : ByteArray) (k : Nat) : (s.extract k s.size).data.toList = s.data.toList.drop k := by
  rw [ByteArray.data_extract, Array.toList_extract]
  have := size_list s
  exact List.take_of_length_le (by rw [List.length_drop, this]; exact Nat.le_refl _)
theorem ret2 {k : IntKind} {a b : Int} {x y : Bool} (h : a = b) (h2 : x = y) : Ending.returned (.tuple #[.int k a, .bool x]) = .returned (.tuple #[.int k b, .bool y]) := by rw [h, h2]
set_option maxRecDepth 100000 in
set_option maxHeartbeats 1000000 in
theorem skip_any (s : ByteArray) (p : Nat) (w : World) (hs : s.size ≤ 1000000) (hp : p ≤ s.size) :
    Calls Tryd.prog 23 #[.string s, .int .i64 (p : Int)] w fun e w' => e = .returned (.tuple #[.int .i64 ((p + (Lx.blk false (s.data.toList.drop p)).1 : Nat) : Int), .bool (Lx.blk false (s.data.toList.drop p)).2]) ∧ w' = w := by
  obtain ⟨G1, hG1⟩ : ∃ G1, p + (Lx.blk false (s.data.toList.drop p)).1 = G1 := ⟨_, rfl⟩
  obtain ⟨G2, hG2⟩ : ∃ G2, (Lx.blk false (s.data.toList.drop p)).2 = G2 := ⟨_, rfl⟩
  have HG : Hid (p + (Lx.blk false (s.data.toList.drop p)).1 = G1 ∧ (false || (Lx.blk false (s.data.toList.drop p)).2) = G2) := ⟨hG1, hG2⟩
  rw [hG1, hG2]
  clear hG1 hG2
  go_enter Tryd.func23, Tryd.ntmps23
  go_wp2
  go_loop [1, 5] (fun i b => ∃ (k : Nat) (x : Bool), k ≤ s.size ∧ i = .int .i64 k ∧ b = .bool x ∧ Hid (k + (Lx.blk false (s.data.toList.drop k)).1 = G1 ∧ (x || (Lx.blk false (s.data.toList.drop k)).2) = G2)) (fun i _ => s.size - (intOf i).toNat)
  case atStart => exact ⟨p, false, hp, rfl, rfl, HG⟩
  case round =>
    obtain ⟨k, x, hk, rfl, rfl, HR⟩ := hrel
    clear HG
    by_cases hlt : k < s.size
    · have hlt' : (k : Int) < s.size := by omega
      have hd := drop_at s k hlt
      have H : Hid (_) := fun W => blank_any s[k] W
      by_cases hb : Lx.blank s[k] = true
      · rw [hb] at H
        by_cases h10 : s[k].toNat = 10
        · have HN : Hid (k + 1 + (Lx.blk false (s.data.toList.drop (k + 1))).1 = G1 ∧ true = G2) := by
            have := HR.out
            rw [hd, Lx.blk_line _ _ h10] at this
            exact ⟨by have := this.1; simp only [] at this; omega, by have := this.2; simpa using this⟩
          have hc : ((s[k].toNat : Int) == 10) = true := by rw [beq_iff_eq]; omega
          clear hd HR hb h10
          cases x
          all_goals
            go_wp2_with (go_at_call 33; refine Calls.mono (H.out _) ?_; rintro e w' ⟨rfl, rfl⟩)
            go_round
            case rel => exact ⟨k + 1, true, by omega, by go_num, by first | rfl | simp, HN.out.1, by have := HN.out.2; simpa using this⟩
            case measure => simp [intOf]; omega
        · have HN : Hid (k + 1 + (Lx.blk false (s.data.toList.drop (k + 1))).1 = G1 ∧ (x || (Lx.blk false (s.data.toList.drop (k + 1))).2) = G2) := by
            have := HR.out
            rw [hd, Lx.blk_blank _ _ hb h10] at this
            exact ⟨by have := this.1; simp only [] at this; omega, this.2⟩
          have hc : ((s[k].toNat : Int) == 10) = false := by rw [beq_eq_false_iff_ne]; omega
          clear hd HR hb h10
          cases x
          all_goals
            go_wp2_with (go_at_call 33; refine Calls.mono (H.out _) ?_; rintro e w' ⟨rfl, rfl⟩)
            go_round
            case rel => first | exact ⟨k + 1, false, by omega, by go_num, by first | rfl | simp, HN.out.1, HN.out.2⟩ | exact ⟨k + 1, true, by omega, by go_num, by first | rfl | simp, HN.out.1, HN.out.2⟩
            case measure => simp [intOf]; omega
      · have hb' : Lx.blank s[k] = false := by simpa using hb
        rw [hb'] at H
        have ht := tail_list s k
        have HP : Hid (_) := fun W => pre_any (s.extract k s.size) ⟨#[47, 47]⟩ W (by simp [ByteArray.size_extract]; omega) (by decide)
        rw [ht, hd, show (⟨#[47, 47]⟩ : ByteArray).data.toList = [47, 47] from rfl] at HP
        by_cases hq : Lx.isPre [47, 47] (s[k] :: s.data.toList.drop (k + 1)) = true
        · rw [hq] at HP
          have HN : Hid (k + Lx.hd Lx.ne10 (s.data.toList.drop k) + (Lx.blk false (s.data.toList.drop (k + Lx.hd Lx.ne10 (s.data.toList.drop k)))).1 = G1 ∧ (x || (Lx.blk false (s.data.toList.drop (k + Lx.hd Lx.ne10 (s.data.toList.drop k)))).2) = G2) := by
            have := HR.out
            rw [hd, Lx.blk_note _ _ hb' hq, ← hd, List.drop_drop] at this
            exact ⟨by have := this.1; simp only [] at this; omega, this.2⟩
          have HC : Hid (_) := fun W => comment_any (s.extract k s.size) W (by simp [ByteArray.size_extract]; omega)
          rw [ht] at HC
          have hm := Lx.hd_le Lx.ne10 (s.data.toList.drop k)
          rw [List.length_drop, size_list] at hm
          have hpos : 0 < Lx.hd Lx.ne10 (s.data.toList.drop k) := by
            obtain ⟨h1, _⟩ := (Lx.pre2 _ _).1 hq
            rw [hd, Lx.hd, if_pos (by unfold Lx.ne10; simp [h1])]
            omega
          clear hd HR hb hb' ht hq
          generalize Lx.hd Lx.ne10 (s.data.toList.drop k) = m at *
          go_wp2_with (first | (go_at_call 33; refine Calls.mono (H.out _) ?_; rintro e w' ⟨rfl, rfl⟩) | (go_at_call 34; refine Calls.mono (HP.out _) ?_; rintro e w' ⟨rfl, rfl⟩) | (go_at_call 35; refine Calls.mono (HC.out _) ?_; rintro e w' ⟨rfl, rfl⟩))
          go_round
          case rel => exact ⟨k + m, x, by omega, by go_num, rfl, HN.out.1, HN.out.2⟩
          case measure => simp [intOf]; omega
        · have hq' : Lx.isPre [47, 47] (s[k] :: s.data.toList.drop (k + 1)) = false := by simpa using hq
          rw [hq'] at HP
          have HN : Hid (k = G1 ∧ x = G2) := by
            have := HR.out
            rw [hd, Lx.blk_none _ _ hb' hq'] at this
            exact ⟨by have := this.1; simpa using this, by have := this.2; simpa using this⟩
          clear hd HR hb hb' ht hq hq'
          go_wp2_with (first | (go_at_call 33; refine Calls.mono (H.out _) ?_; rintro e w' ⟨rfl, rfl⟩) | (go_at_call 34; refine Calls.mono (HP.out _) ?_; rintro e w' ⟨rfl, rfl⟩))
          go_ret2
          exact ⟨ret2 (by rw [HN.out.1]) HN.out.2, rfl⟩
    · have hlt' : ¬ (k : Int) < s.size := by omega
      have HN : Hid (k = G1 ∧ x = G2) := by
        have := HR.out
        rw [List.drop_of_length_le (by rw [size_list]; omega)] at this
        exact ⟨by have := this.1; simpa [Lx.blk] using this, by have := this.2; simpa [Lx.blk] using this⟩
      clear HR
      go_wp2
      go_ret2
      exact ⟨ret2 (by rw [HN.out.1]) HN.out.2, rfl⟩
end Go.Proofs.YtoeolonbkeldoaaDoor.L
