/- The law LexBlanks: its walk. -/
import Derived.Test.YtbciecmikcloaaaDoorLAllWalk
import Derived.Test.YtbciecmikcloaaaDoorLBits
import Derived.Test.YtbciecmikcloaaaDoorLxBl
namespace Go.Proofs.YtbciecmikcloaaaDoor.L
open Go.RowKit
set_option linter.unusedVariables false
theorem cat_list (a b : ByteArray) : (a ++ b).data.toList = a.data.toList ++ b.data.toList := by simp
/-- What stands ahead so far. -/
def AhS (S : ByteArray) (x : Bool) : Prop := Lx.Ahead S.data.toList x
theorem AhS.more {S P : ByteArray} {x y : Bool} (h : AhS S x) (hp : Lx.Ahead P.data.toList y) : AhS (S ++ P) (x || y) := by
  unfold AhS; rw [cat_list]; exact Lx.ahead_more h hp
set_option maxRecDepth 100000 in
set_option maxHeartbeats 4000000 in
theorem lexBlanks_core (ad0 : Option Addr) (len0 cap0 : Nat) (ad1 : Option Addr) (cap1 : Nat) (Z : List Nat) (w : World) (hl : Z.length ≤ 9223372036854775807)
    (HNS : Hid (∀ W, Below w.heap.size w W → ∀ k, k < Z.length → ∃ (g o z : Nat), ad1 = some ⟨g, o, none⟩ ∧ W.cell? ⟨g, o + k, none⟩ = some (.int .u8 (z : Int)) ∧ z < 256))
    (HM : Hid (Calls Tryd.prog 17 #[.slice ad0 len0 cap0] w fun e w' => ∃ s : ByteArray, e = .returned (.string s) ∧ s.size ≤ 720 ∧ Below w.heap.size w w'))
    (HN : Hid (∀ s : ByteArray, s.size ≤ 2000 → ∀ W, Below w.heap.size w W → Calls Tryd.prog 10 #[.string s, .int .i64 0] W fun e w' => e = .returned (.agg (tkA (Lx.tok s.data.toList 0))) ∧ Below w.heap.size w w'))
    (HK : Hid (∀ W, Below w.heap.size w W → Calls Tryd.prog 9 #[] W fun e w' => e = .returned (.bool true) ∧ Below w.heap.size w w')) :
    Calls Tryd.prog 8 #[.slice ad0 len0 cap0, .slice ad1 Z.length cap1] w fun e w' => e = .returned (.bool true) ∧ Below w.heap.size w w' := by
  go_enter Tryd.func8, Tryd.ntmps8
  go_wp2_with fail
  refine Calls.mono HM.out ?_
  rintro e w0 ⟨s, rfl, hs, hb0⟩
  have HB0 : Hid (_) := hb0
  have hz0 := hb0.size
  clear HM hb0
  go_wp2_with fail
  go_loopw [6, 7, 8] (fun v l i W => ∃ (k : Nat) (S : ByteArray) (x : Bool), k ≤ 12 ∧ i = .int .i64 (k : Int) ∧ v = .string S ∧ l = .bool x ∧ S.size ≤ 12 * k ∧ Hid (AhS S x) ∧ Hid (Below w.heap.size w W)) (fun _ _ i _ => 12 - (intOf i).toNat)
  case atStart => exact ⟨0, ⟨#[]⟩, false, by omega, rfl, rfl, rfl, by decide, (show AhS _ _ from Lx.ahead_nil), HB0⟩
  case round =>
    obtain ⟨k, S, x, hk, rfl, rfl, rfl, hS, HA, HW⟩ := hrel
    clear HB0
    have hzW := HW.out.size
    by_cases hgo : k < Z.length ∧ k < 12
    · obtain ⟨hlt, h12⟩ := hgo
      have hlt' : (k : Int) < Z.length := by omega
      have h12' : (k : Int) < 12 := by omega
      obtain ⟨g, o, z, ha, hc, hz⟩ := HNS.out _ HW.out k hlt
      subst ha
      have hz' : (z : Int) < 256 := by omega
      have hs1 : ¬ 9223372036854775807 < S.size + 1 := by omega
      have hs3 : ¬ 9223372036854775807 < S.size + 3 := by omega
      have hs9 : ¬ 9223372036854775807 < S.size + 9 := by omega
      clear HNS HN HK
      obtain h | h | h | h | h | h : z % 6 = 0 ∨ z % 6 = 1 ∨ z % 6 = 2 ∨ z % 6 = 3 ∨ z % 6 = 4 ∨ z % 6 = 5 := by omega
      · have hm : (z : Int) % 6 = 0 := by omega
        have HN2 : Hid (AhS (S ++ ⟨#[32]⟩) (x || false)) := HA.out.more (P := ⟨#[32]⟩) (Lx.ahead_blank 32 (by decide))
        clear h HA
        cases x
        all_goals
          go_wp2_with fail
          go_roundw
          case rel => exact ⟨k + 1, _, _, by omega, by go_num, rfl, rfl, by rw [ByteArray.size_append]; show _ + 1 ≤ _; omega, HN2, (show Below _ _ _ from by repeat (first | with_reducible exact HW.out | (with_reducible refine Below.drew ?_) | (with_reducible refine Below.alloc ?_ hzW _)))⟩
          case measure => simp [intOf]; omega
      · have hm : (z : Int) % 6 = 1 := by omega
        have HN2 : Hid (AhS (S ++ ⟨#[9]⟩) (x || false)) := HA.out.more (P := ⟨#[9]⟩) (Lx.ahead_blank 9 (by decide))
        clear h HA
        cases x
        all_goals
          go_wp2_with fail
          go_roundw
          case rel => exact ⟨k + 1, _, _, by omega, by go_num, rfl, rfl, by rw [ByteArray.size_append]; show _ + 1 ≤ _; omega, HN2, (show Below _ _ _ from by repeat (first | with_reducible exact HW.out | (with_reducible refine Below.drew ?_) | (with_reducible refine Below.alloc ?_ hzW _)))⟩
          case measure => simp [intOf]; omega
      · have hm : (z : Int) % 6 = 2 := by omega
        have HN2 : Hid (AhS (S ++ ⟨#[13]⟩) (x || false)) := HA.out.more (P := ⟨#[13]⟩) (Lx.ahead_blank 13 (by decide))
        clear h HA
        cases x
        all_goals
          go_wp2_with fail
          go_roundw
          case rel => exact ⟨k + 1, _, _, by omega, by go_num, rfl, rfl, by rw [ByteArray.size_append]; show _ + 1 ≤ _; omega, HN2, (show Below _ _ _ from by repeat (first | with_reducible exact HW.out | (with_reducible refine Below.drew ?_) | (with_reducible refine Below.alloc ?_ hzW _)))⟩
          case measure => simp [intOf]; omega
      · have hm : (z : Int) % 6 = 3 := by omega
        have HN2 : Hid (AhS (S ++ ⟨#[10]⟩) (x || true)) := HA.out.more (P := ⟨#[10]⟩) Lx.ahead_line
        clear h HA
        cases x
        all_goals
          go_wp2_with fail
          go_roundw
          case rel => exact ⟨k + 1, _, _, by omega, by go_num, rfl, rfl, by rw [ByteArray.size_append]; show _ + 1 ≤ _; omega, HN2, (show Below _ _ _ from by repeat (first | with_reducible exact HW.out | (with_reducible refine Below.drew ?_) | (with_reducible refine Below.alloc ?_ hzW _)))⟩
          case measure => simp [intOf]; omega
      · have hm : (z : Int) % 6 = 4 := by omega
        have HN2 : Hid (AhS (S ++ ⟨#[47, 47, 32, 120, 32, 123, 32, 34, 10]⟩) (x || true)) := HA.out.more (P := ⟨#[47, 47, 32, 120, 32, 123, 32, 34, 10]⟩) Lx.ahead_note2
        clear h HA
        cases x
        all_goals
          go_wp2_with fail
          go_roundw
          case rel => exact ⟨k + 1, _, _, by omega, by go_num, rfl, rfl, by rw [ByteArray.size_append]; show _ + 9 ≤ _; omega, HN2, (show Below _ _ _ from by repeat (first | with_reducible exact HW.out | (with_reducible refine Below.drew ?_) | (with_reducible refine Below.alloc ?_ hzW _)))⟩
          case measure => simp [intOf]; omega
      · have hm : (z : Int) % 6 = 5 := by omega
        have HN2 : Hid (AhS (S ++ ⟨#[47, 47, 10]⟩) (x || true)) := HA.out.more (P := ⟨#[47, 47, 10]⟩) Lx.ahead_note
        clear h HA
        cases x
        all_goals
          go_wp2_with fail
          go_roundw
          case rel => exact ⟨k + 1, _, _, by omega, by go_num, rfl, rfl, by rw [ByteArray.size_append]; show _ + 3 ≤ _; omega, HN2, (show Below _ _ _ from by repeat (first | with_reducible exact HW.out | (with_reducible refine Below.drew ?_) | (with_reducible refine Below.alloc ?_ hzW _)))⟩
          case measure => simp [intOf]; omega
    · have HNX : Hid (_) := HN.out s (by omega)
      have HNY : Hid (_) := HN.out (S ++ s) (by rw [ByteArray.size_append]; omega)
      rw [cat_list, Lx.tok_ahead HA.out] at HNY
      have hsl : S.data.toList.length = S.size := size_list S
      have hs1 : ¬ 9223372036854775807 < S.size + s.size := by omega
      have hok := Lx.tok_ok s.data.toList 0 (by omega)
      rw [size_list] at hok
      have hta : (Lx.tok s.data.toList 0).a ≤ 720 := by omega
      clear hok
      generalize Lx.tok s.data.toList 0 = T at *
      obtain ⟨tk, tt, tn, ta, tl, te⟩ := T
      simp only [tkA, hsl, Int.natCast_add] at HNX HNY
      simp only at hta
      have hta' : (ta : Int) ≤ 720 := by omega
      have hS' : (S.size : Int) ≤ 144 := by omega
      clear hsl HNS HN HA
      have hor : ¬ (k : Int) < Z.length ∨ ((k : Int) < Z.length ∧ ¬ (k : Int) < 12) := by omega
      rcases hor with h | ⟨h, h2⟩
      all_goals
        cases tl
        all_goals
          go_wp2_with fail
          refine Calls.mono (HNX.out _ HW.out) ?_
          rintro e w1 ⟨rfl, hb1⟩
          go_wp2_with fail
          refine Calls.mono (HNY.out _ hb1) ?_
          rintro e w2 ⟨rfl, hb2⟩
          have hz2 := hb2.size
          clear hb1
          go_wp2_with fail
          refine Calls.mono (HK.out _ (by repeat (first | with_reducible exact hb2 | (with_reducible refine Below.drew ?_) | (with_reducible refine Below.setCell ?_ (by first | exact hz2 | omega | (simp; omega)) _) | (with_reducible refine Below.alloc ?_ (by first | exact hz2 | (simp; omega)) _)))) ?_
          rintro e w3 ⟨rfl, hb3⟩
          go_wp2_with fail
          go_ret
          exact ⟨rfl, hb3⟩
theorem lexBlanks_walk (ad0 : Option Addr) (len0 cap0 : Nat) (z0 : List Int) (ad1 : Option Addr) (len1 cap1 : Nat) (z1 : List Int) (w : World) (h0 : IsB w ad0 len0 cap0 z0) (h1 : IsB w ad1 len1 cap1 z1) (hg : Sig w) :
    Calls Tryd.prog 8 #[.slice ad0 len0 cap0, .slice ad1 len1 cap1] w fun e w' => e = .returned (.bool true) ∧ Below w.heap.size w w' := by
  obtain ⟨Z, rfl, hlc, hcm, hns, hz⟩ := h1.ns
  unfold maxLen at hcm
  refine lexBlanks_core ad0 len0 cap0 ad1 cap1 Z w (by omega) (fun W hW k hk => ?_) (made_any _ _ _ _ w h0) (fun s hs W hW => ?_) (kit_awake hg)
  · obtain ⟨g, o, z, h1, h2, h3, h4, h5⟩ := (hns.below hW).at_ hz hk
    exact ⟨g, o, z, h1, h3, h4⟩
  · have := kit_next hg s 0 (by omega) W hW
    rw [show plc 0 s.size = 0 by simp [plc]] at this
    exact this
end Go.Proofs.YtbciecmikcloaaaDoor.L
