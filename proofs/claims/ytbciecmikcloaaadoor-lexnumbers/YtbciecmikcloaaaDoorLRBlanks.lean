/- The reference's blanks by its contract: behind blanks and comments. -/
import Derived.Test.YtbciecmikcloaaaDoorLRSmall
namespace Go.Proofs.YtbciecmikcloaaaDoor.L
open Go.RowKit
set_option linter.unusedVariables false
theorem blkT_end (k : Nat) (s : ByteArray) (h : k = s.size) : Lx.blk true (s.data.toList.drop k) = Lx.blk false (s.data.toList.drop k) := by
  rw [List.drop_of_length_le (by rw [size_list]; omega)]; rfl
theorem blkT_line (c : UInt8) (l : List UInt8) (h : c.toNat = 10) : Lx.blk true (c :: l) = Lx.blk false (c :: l) := by
  rw [Lx.blk, if_pos h, Lx.blk_line _ _ h]
theorem blkT_on (c : UInt8) (l : List UInt8) (h : c.toNat ≠ 10) : Lx.blk true (c :: l) = ((Lx.blk true l).1 + 1, (Lx.blk true l).2) := by
  rw [Lx.blk, if_neg h]
theorem blk_note (c d : UInt8) (l : List UInt8) (h : c.toNat = 47) (h2 : d.toNat = 47) : Lx.blk false (c :: d :: l) = Lx.blk true (c :: d :: l) := by
  rw [blkT_on c _ (by omega)]
  simp [Lx.blk, h, h2]
theorem blk_stop (c : UInt8) (l : List UInt8) (h1 : c.toNat ≠ 10) (h2 : c.toNat ≠ 9) (h3 : c.toNat ≠ 13) (h4 : c.toNat ≠ 32) (h5 : ¬ (c.toNat = 47 ∧ (l.head?.map (·.toNat)) = some 47)) : Lx.blk false (c :: l) = (0, false) := by
  rw [Lx.blk, if_neg h1, if_neg (by omega), if_neg h5]
/-- Where one is, behind what. -/
def BlkS (s : ByteArray) (G1 : Nat) (G2 : Bool) (c : Bool) (k : Nat) (x : Bool) : Prop := k + (Lx.blk c (s.data.toList.drop k)).1 = G1 ∧ (x || (Lx.blk c (s.data.toList.drop k)).2) = G2
set_option maxRecDepth 100000 in
set_option maxHeartbeats 1000000 in
theorem rblanks_any (s : ByteArray) (p : Nat) (w : World) (hs : s.size ≤ 1000000) (hp : p ≤ s.size) :
    Calls Tryd.prog 21 #[.string s, .int .i64 (p : Int)] w fun e w' => e = .returned (.tuple #[.int .i64 ((p + (Lx.blk false (s.data.toList.drop p)).1 : Nat) : Int), .bool (Lx.blk false (s.data.toList.drop p)).2]) ∧ w' = w := by
  obtain ⟨G1, hG1⟩ : ∃ G1, p + (Lx.blk false (s.data.toList.drop p)).1 = G1 := ⟨_, rfl⟩
  obtain ⟨G2, hG2⟩ : ∃ G2, (Lx.blk false (s.data.toList.drop p)).2 = G2 := ⟨_, rfl⟩
  have HG : Hid (BlkS s G1 G2 false p false) := ⟨hG1, hG2⟩
  rw [hG1, hG2]
  clear hG1 hG2
  go_enter Tryd.func21, Tryd.ntmps21
  go_wp2
  go_loop [1, 6] (fun i b => ∃ (k : Nat) (x : Bool), k ≤ s.size ∧ i = .int .i64 k ∧ b = .bool x ∧ Hid (BlkS s G1 G2 false k x)) (fun i _ => s.size - (intOf i).toNat)
  case atStart => exact ⟨p, false, hp, rfl, rfl, HG⟩
  case round =>
    obtain ⟨k, x, hk, rfl, rfl, HR⟩ := hrel
    clear HG
    by_cases hlt : k < s.size
    · have hlt' : (k : Int) < s.size := by omega
      have hd := drop_at s k hlt
      by_cases h10 : s[k].toNat = 10
      · have HN : Hid (BlkS s G1 G2 false (k + 1) true) := by
          have := HR.out
          unfold BlkS at this
          rw [hd, Lx.blk_line _ _ h10] at this
          exact ⟨by have := this.1; simp only [] at this; omega, by have := this.2; simpa using this⟩
        have hc : ((s[k].toNat : Int) == 10) = true := by rw [beq_iff_eq]; omega
        clear hd HR h10
        go_wp2
        go_round
        case rel => exact ⟨k + 1, true, by omega, by go_num, rfl, HN⟩
        case measure => simp [intOf]; omega
      have hc10 : ((s[k].toNat : Int) == 10) = false := by rw [beq_eq_false_iff_ne]; omega
      by_cases hb : Lx.blank s[k] = true
      · have HN : Hid (BlkS s G1 G2 false (k + 1) x) := by
          have := HR.out
          unfold BlkS at this
          rw [hd, Lx.blk_blank _ _ hb h10] at this
          exact ⟨by have := this.1; simp only [] at this; omega, this.2⟩
        have hb3 : s[k].toNat = 9 ∨ s[k].toNat = 13 ∨ s[k].toNat = 32 := by unfold Lx.blank at hb; simp at hb; omega
        clear hd HR hb
        rcases hb3 with h | h | h
        · have hc : ((s[k].toNat : Int) == 9) = true := by rw [beq_iff_eq]; omega
          clear h h10
          go_wp2
          go_round
          case rel => exact ⟨k + 1, x, by omega, by go_num, rfl, HN⟩
          case measure => simp [intOf]; omega
        · have hc : ((s[k].toNat : Int) == 13) = true := by rw [beq_iff_eq]; omega
          have hc2 : ((s[k].toNat : Int) == 9) = false := by rw [beq_eq_false_iff_ne]; omega
          clear h h10
          go_wp2
          go_round
          case rel => exact ⟨k + 1, x, by omega, by go_num, rfl, HN⟩
          case measure => simp [intOf]; omega
        · have hc : ((s[k].toNat : Int) == 32) = true := by rw [beq_iff_eq]; omega
          have hc2 : ((s[k].toNat : Int) == 9) = false := by rw [beq_eq_false_iff_ne]; omega
          have hc3 : ((s[k].toNat : Int) == 13) = false := by rw [beq_eq_false_iff_ne]; omega
          clear h h10
          go_wp2
          go_round
          case rel => exact ⟨k + 1, x, by omega, by go_num, rfl, HN⟩
          case measure => simp [intOf]; omega
      have hb3 : s[k].toNat ≠ 9 ∧ s[k].toNat ≠ 13 ∧ s[k].toNat ≠ 32 := by unfold Lx.blank at hb; simp at hb; omega
      have hc9 : ((s[k].toNat : Int) == 9) = false := by rw [beq_eq_false_iff_ne]; omega
      have hc13 : ((s[k].toNat : Int) == 13) = false := by rw [beq_eq_false_iff_ne]; omega
      have hc32 : ((s[k].toNat : Int) == 32) = false := by rw [beq_eq_false_iff_ne]; omega
      by_cases hq : s[k].toNat = 47 ∧ ((s.data.toList.drop (k + 1)).head?.map (·.toNat)) = some 47
      · have hlt2 : k + 1 < s.size := by
          rcases Nat.lt_or_ge (k + 1) s.size with h | h
          · exact h
          · rw [List.drop_of_length_le (by rw [size_list]; exact h)] at hq; simp at hq
        have hlt2' : (k : Int) + 1 < s.size := by omega
        have hd2 := drop_at s (k + 1) hlt2
        have hn : s[k + 1].toNat = 47 := by rw [hd2] at hq; simpa using hq.2
        have hc47 : ((s[k].toNat : Int) == 47) = true := by rw [beq_iff_eq]; omega
        have hn47 : ((s[k + 1].toNat : Int) == 47) = true := by rw [beq_iff_eq]; omega
        have HT : Hid (BlkS s G1 G2 true k x) := by
          have := HR.out
          unfold BlkS at this
          rw [hd, hd2, blk_note _ _ _ hq.1 hn, ← hd2, ← hd] at this
          exact this
        have HK : Hid (s[k].toNat ≠ 10) := h10
        clear hd hd2 HR hb hb3 h10 hq hn
        go_wp2
        go_loop [1] (fun i => ∃ (m : Nat), k ≤ m ∧ m ≤ s.size ∧ i = .int .i64 m ∧ Hid (BlkS s G1 G2 true m x)) (fun i => s.size - (intOf i).toNat)
        case atStart => exact ⟨k, by omega, hk, rfl, HT⟩
        case round =>
          obtain ⟨m, hkm, hm, rfl, HM⟩ := hrel
          clear HT
          by_cases hmt : m < s.size
          · have hmt' : (m : Int) < s.size := by omega
            have hdm := drop_at s m hmt
            by_cases hm10 : s[m].toNat = 10
            · have HN : Hid (k < m ∧ BlkS s G1 G2 false m x) := by
                refine ⟨Nat.lt_of_le_of_ne hkm (fun e => HK.out (by subst e; exact hm10)), ?_⟩
                have := HM.out
                unfold BlkS at this ⊢
                rw [hdm, blkT_line _ _ hm10, ← hdm] at this
                exact this
              have hcm : ((s[m].toNat : Int) == 10) = true := by rw [beq_iff_eq]; omega
              clear hdm HM hm10
              go_wp2
              go_round
              case rel => exact ⟨m, x, hm, rfl, rfl, HN.out.2⟩
              case measure => have := HN.out.1; simp [intOf]; omega
            · have HN : Hid (BlkS s G1 G2 true (m + 1) x) := by
                have := HM.out
                unfold BlkS at this ⊢
                rw [hdm, blkT_on _ _ hm10] at this
                exact ⟨by have := this.1; simp only [] at this; omega, this.2⟩
              have hcm : ((s[m].toNat : Int) == 10) = false := by rw [beq_eq_false_iff_ne]; omega
              clear hdm HM hm10
              go_wp2
              go_round
              case rel => exact ⟨m + 1, by omega, by omega, by go_num, HN⟩
              case measure => simp [intOf]; omega
          · have hmt' : ¬ (m : Int) < s.size := by omega
            have HN : Hid (k < m ∧ BlkS s G1 G2 false m x) := by
              refine ⟨by omega, ?_⟩
              have := HM.out
              unfold BlkS at this ⊢
              rw [blkT_end m s (by omega)] at this
              exact this
            clear HM
            go_wp2
            go_round
            case rel => exact ⟨m, x, hm, rfl, rfl, HN.out.2⟩
            case measure => have := HN.out.1; simp [intOf]; omega
      · have HN : Hid (k = G1 ∧ x = G2) := by
          have := HR.out
          unfold BlkS at this
          rw [hd, blk_stop _ _ h10 hb3.1 hb3.2.1 hb3.2.2 hq] at this
          exact ⟨by have := this.1; simpa using this, by have := this.2; simpa using this⟩
        by_cases h47 : s[k].toNat = 47
        · have hc47 : ((s[k].toNat : Int) == 47) = true := by rw [beq_iff_eq]; omega
          by_cases hlt2 : k + 1 < s.size
          · have hlt2' : (k : Int) + 1 < s.size := by omega
            have hd2 := drop_at s (k + 1) hlt2
            have hn47 : ((s[k + 1].toNat : Int) == 47) = false := by
              rw [beq_eq_false_iff_ne]; intro e
              exact hq ⟨h47, by rw [hd2]; simp; omega⟩
            clear hd hd2 HR hb hb3 h10 hq h47
            go_wp2
            go_ret2
            exact ⟨ret2 (by rw [HN.out.1]) HN.out.2, rfl⟩
          · have hlt2' : ¬ (k : Int) + 1 < s.size := by omega
            clear hd HR hb hb3 h10 hq h47
            go_wp2
            go_ret2
            exact ⟨ret2 (by rw [HN.out.1]) HN.out.2, rfl⟩
        · have hc47 : ((s[k].toNat : Int) == 47) = false := by rw [beq_eq_false_iff_ne]; omega
          clear hd HR hb hb3 h10 hq h47
          go_wp2
          go_ret2
          exact ⟨ret2 (by rw [HN.out.1]) HN.out.2, rfl⟩
    · have hlt' : ¬ (k : Int) < s.size := by omega
      have HN : Hid (k = G1 ∧ x = G2) := by
        have := HR.out
        unfold BlkS at this
        rw [List.drop_of_length_le (by rw [size_list]; omega)] at this
        exact ⟨by have := this.1; simpa [Lx.blk] using this, by have := this.2; simpa [Lx.blk] using this⟩
      clear HR
      go_wp2
      go_ret2
      exact ⟨ret2 (by rw [HN.out.1]) HN.out.2, rfl⟩
end Go.Proofs.YtbciecmikcloaaaDoor.L
