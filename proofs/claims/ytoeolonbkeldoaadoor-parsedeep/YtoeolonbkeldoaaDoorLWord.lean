/- lex.IsWord by its contract. -/
import Derived.Test.YtoeolonbkeldoaaDoorLSkip
namespace Go.Proofs.YtoeolonbkeldoaaDoor.L
open Go.RowKit
set_option linter.unusedVariables false
set_option maxRecDepth 100000 in
set_option maxHeartbeats 1000000 in
theorem word_any (s : ByteArray) (w : World) :
    Calls Tryd.prog 46 #[.string s] w fun e w' => e = .returned (.bool (Lx.isWord s.data.toList)) ∧ w' = w := by
  by_cases h0 : s.data.toList = [108, 101, 116]
  · obtain rfl : s = ⟨#[108, 101, 116]⟩ := by rw [← mk_list s, h0]
    go_enter Tryd.func46, Tryd.ntmps46
    go_wp2
    go_ret
    exact ⟨rfl, rfl⟩
  have g0 : (s.toList == [108, 101, 116]) = false := by rw [ByteArray.toList_eq]; simpa using h0
  by_cases h1 : s.data.toList = [99, 111, 110, 115, 116]
  · obtain rfl : s = ⟨#[99, 111, 110, 115, 116]⟩ := by rw [← mk_list s, h1]
    go_enter Tryd.func46, Tryd.ntmps46
    go_wp2
    go_ret
    exact ⟨rfl, rfl⟩
  have g1 : (s.toList == [99, 111, 110, 115, 116]) = false := by rw [ByteArray.toList_eq]; simpa using h1
  by_cases h2 : s.data.toList = [102, 117, 110, 99, 116, 105, 111, 110]
  · obtain rfl : s = ⟨#[102, 117, 110, 99, 116, 105, 111, 110]⟩ := by rw [← mk_list s, h2]
    go_enter Tryd.func46, Tryd.ntmps46
    go_wp2
    go_ret
    exact ⟨rfl, rfl⟩
  have g2 : (s.toList == [102, 117, 110, 99, 116, 105, 111, 110]) = false := by rw [ByteArray.toList_eq]; simpa using h2
  by_cases h3 : s.data.toList = [114, 101, 116, 117, 114, 110]
  · obtain rfl : s = ⟨#[114, 101, 116, 117, 114, 110]⟩ := by rw [← mk_list s, h3]
    go_enter Tryd.func46, Tryd.ntmps46
    go_wp2
    go_ret
    exact ⟨rfl, rfl⟩
  have g3 : (s.toList == [114, 101, 116, 117, 114, 110]) = false := by rw [ByteArray.toList_eq]; simpa using h3
  by_cases h4 : s.data.toList = [105, 102]
  · obtain rfl : s = ⟨#[105, 102]⟩ := by rw [← mk_list s, h4]
    go_enter Tryd.func46, Tryd.ntmps46
    go_wp2
    go_ret
    exact ⟨rfl, rfl⟩
  have g4 : (s.toList == [105, 102]) = false := by rw [ByteArray.toList_eq]; simpa using h4
  by_cases h5 : s.data.toList = [101, 108, 115, 101]
  · obtain rfl : s = ⟨#[101, 108, 115, 101]⟩ := by rw [← mk_list s, h5]
    go_enter Tryd.func46, Tryd.ntmps46
    go_wp2
    go_ret
    exact ⟨rfl, rfl⟩
  have g5 : (s.toList == [101, 108, 115, 101]) = false := by rw [ByteArray.toList_eq]; simpa using h5
  by_cases h6 : s.data.toList = [119, 104, 105, 108, 101]
  · obtain rfl : s = ⟨#[119, 104, 105, 108, 101]⟩ := by rw [← mk_list s, h6]
    go_enter Tryd.func46, Tryd.ntmps46
    go_wp2
    go_ret
    exact ⟨rfl, rfl⟩
  have g6 : (s.toList == [119, 104, 105, 108, 101]) = false := by rw [ByteArray.toList_eq]; simpa using h6
  by_cases h7 : s.data.toList = [98, 114, 101, 97, 107]
  · obtain rfl : s = ⟨#[98, 114, 101, 97, 107]⟩ := by rw [← mk_list s, h7]
    go_enter Tryd.func46, Tryd.ntmps46
    go_wp2
    go_ret
    exact ⟨rfl, rfl⟩
  have g7 : (s.toList == [98, 114, 101, 97, 107]) = false := by rw [ByteArray.toList_eq]; simpa using h7
  by_cases h8 : s.data.toList = [99, 111, 110, 116, 105, 110, 117, 101]
  · obtain rfl : s = ⟨#[99, 111, 110, 116, 105, 110, 117, 101]⟩ := by rw [← mk_list s, h8]
    go_enter Tryd.func46, Tryd.ntmps46
    go_wp2
    go_ret
    exact ⟨rfl, rfl⟩
  have g8 : (s.toList == [99, 111, 110, 116, 105, 110, 117, 101]) = false := by rw [ByteArray.toList_eq]; simpa using h8
  by_cases h9 : s.data.toList = [116, 104, 114, 111, 119]
  · obtain rfl : s = ⟨#[116, 104, 114, 111, 119]⟩ := by rw [← mk_list s, h9]
    go_enter Tryd.func46, Tryd.ntmps46
    go_wp2
    go_ret
    exact ⟨rfl, rfl⟩
  have g9 : (s.toList == [116, 104, 114, 111, 119]) = false := by rw [ByteArray.toList_eq]; simpa using h9
  by_cases h10 : s.data.toList = [116, 114, 121]
  · obtain rfl : s = ⟨#[116, 114, 121]⟩ := by rw [← mk_list s, h10]
    go_enter Tryd.func46, Tryd.ntmps46
    go_wp2
    go_ret
    exact ⟨rfl, rfl⟩
  have g10 : (s.toList == [116, 114, 121]) = false := by rw [ByteArray.toList_eq]; simpa using h10
  by_cases h11 : s.data.toList = [99, 97, 116, 99, 104]
  · obtain rfl : s = ⟨#[99, 97, 116, 99, 104]⟩ := by rw [← mk_list s, h11]
    go_enter Tryd.func46, Tryd.ntmps46
    go_wp2
    go_ret
    exact ⟨rfl, rfl⟩
  have g11 : (s.toList == [99, 97, 116, 99, 104]) = false := by rw [ByteArray.toList_eq]; simpa using h11
  by_cases h12 : s.data.toList = [116, 114, 117, 101]
  · obtain rfl : s = ⟨#[116, 114, 117, 101]⟩ := by rw [← mk_list s, h12]
    go_enter Tryd.func46, Tryd.ntmps46
    go_wp2
    go_ret
    exact ⟨rfl, rfl⟩
  have g12 : (s.toList == [116, 114, 117, 101]) = false := by rw [ByteArray.toList_eq]; simpa using h12
  by_cases h13 : s.data.toList = [102, 97, 108, 115, 101]
  · obtain rfl : s = ⟨#[102, 97, 108, 115, 101]⟩ := by rw [← mk_list s, h13]
    go_enter Tryd.func46, Tryd.ntmps46
    go_wp2
    go_ret
    exact ⟨rfl, rfl⟩
  have g13 : (s.toList == [102, 97, 108, 115, 101]) = false := by rw [ByteArray.toList_eq]; simpa using h13
  by_cases h14 : s.data.toList = [110, 117, 108, 108]
  · obtain rfl : s = ⟨#[110, 117, 108, 108]⟩ := by rw [← mk_list s, h14]
    go_enter Tryd.func46, Tryd.ntmps46
    go_wp2
    go_ret
    exact ⟨rfl, rfl⟩
  have g14 : (s.toList == [110, 117, 108, 108]) = false := by rw [ByteArray.toList_eq]; simpa using h14
  by_cases h15 : s.data.toList = [117, 110, 100, 101, 102, 105, 110, 101, 100]
  · obtain rfl : s = ⟨#[117, 110, 100, 101, 102, 105, 110, 101, 100]⟩ := by rw [← mk_list s, h15]
    go_enter Tryd.func46, Tryd.ntmps46
    go_wp2
    go_ret
    exact ⟨rfl, rfl⟩
  have g15 : (s.toList == [117, 110, 100, 101, 102, 105, 110, 101, 100]) = false := by rw [ByteArray.toList_eq]; simpa using h15
  by_cases h16 : s.data.toList = [116, 104, 105, 115]
  · obtain rfl : s = ⟨#[116, 104, 105, 115]⟩ := by rw [← mk_list s, h16]
    go_enter Tryd.func46, Tryd.ntmps46
    go_wp2
    go_ret
    exact ⟨rfl, rfl⟩
  have g16 : (s.toList == [116, 104, 105, 115]) = false := by rw [ByteArray.toList_eq]; simpa using h16
  by_cases h17 : s.data.toList = [116, 121, 112, 101, 111, 102]
  · obtain rfl : s = ⟨#[116, 121, 112, 101, 111, 102]⟩ := by rw [← mk_list s, h17]
    go_enter Tryd.func46, Tryd.ntmps46
    go_wp2
    go_ret
    exact ⟨rfl, rfl⟩
  have g17 : (s.toList == [116, 121, 112, 101, 111, 102]) = false := by rw [ByteArray.toList_eq]; simpa using h17
  by_cases h18 : s.data.toList = [121, 105, 101, 108, 100]
  · obtain rfl : s = ⟨#[121, 105, 101, 108, 100]⟩ := by rw [← mk_list s, h18]
    go_enter Tryd.func46, Tryd.ntmps46
    go_wp2
    go_ret
    exact ⟨rfl, rfl⟩
  have g18 : (s.toList == [121, 105, 101, 108, 100]) = false := by rw [ByteArray.toList_eq]; simpa using h18
  have HV : Hid (Lx.isWord s.data.toList = false) := by
    show _ = _
    unfold Lx.isWord Lx.words
    simp only [List.contains_cons, List.contains_nil, Bool.or_false, Bool.or_eq_false_iff, beq_eq_false_iff_ne, ne_eq]
    exact ⟨h0, h1, h2, h3, h4, h5, h6, h7, h8, h9, h10, h11, h12, h13, h14, h15, h16, h17, h18⟩
  rw [HV.out]
  clear h0 h1 h2 h3 h4 h5 h6 h7 h8 h9 h10 h11 h12 h13 h14 h15 h16 h17 h18
  go_enter Tryd.func46, Tryd.ntmps46
  go_wp2
  go_ret
  exact ⟨rfl, rfl⟩
end Go.Proofs.YtoeolonbkeldoaaDoor.L
