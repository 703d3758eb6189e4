/- crc.tail, crc.Put: the bytes of a sum, alone and behind its text. -/
import Derived.Test.YtmjmlccdgdakdaaCSum
namespace Go.Proofs.Ytmjmlccdgdakdaa.C
open Go.RowKit
theorem ret_str {a b : ByteArray} (h : a = b) : Ending.returned (.string a) = .returned (.string b) := by rw [h]
theorem conv4 (n : Nat) (hn : n < 4294967296) (w1 : World) : (convert 50 9 (.slice (some ⟨w1.heap.size, 0, none⟩) 4 4)).run Try.prog
    (w1.alloc (.cells #[.int .u8 ((n : Int) % 256), .int .u8 ((n : Int) / 256 % 256), .int .u8 ((n : Int) / 65536 % 256), .int .u8 ((n : Int) / 16777216)] 5)) =
    .ok (.string ⟨(Cm.bytes4 n).toArray⟩) (w1.alloc (.cells #[.int .u8 ((n : Int) % 256), .int .u8 ((n : Int) / 256 % 256), .int .u8 ((n : Int) / 65536 % 256), .int .u8 ((n : Int) / 16777216)] 5)) := by
  have e : (n : Int) / 16777216 = (n : Int) / 16777216 % 256 := by omega
  rw [e]
  refine run_convert_bytes_back (P := Try.prog) _ 50 9 5 ⟨w1.heap.size, 0, none⟩ 4 (Cm.bytes4 n) Try.underlying50 Try.underlying5 Try.underlying9 ?_
  intro j hj
  have hj' : j < 4 := hj
  rw [show (⟨w1.heap.size, 0, none⟩ : Addr).add j = ⟨w1.heap.size, j, none⟩ by unfold Addr.add; split <;> simp_all]
  rw [World.cell?_alloc_at _ _ _ _ rfl]
  match j, hj' with
  | 0, _ => exact congrArg (fun x => some (Value.int .u8 x)) (by show (n : Int) % 256 = ((UInt8.ofNat (n % 256)).toNat : Int); rw [Cm.toNat_ofNat (by omega)]; omega)
  | 1, _ => exact congrArg (fun x => some (Value.int .u8 x)) (by show (n : Int) / 256 % 256 = ((UInt8.ofNat (n / 256 % 256)).toNat : Int); rw [Cm.toNat_ofNat (by omega)]; omega)
  | 2, _ => exact congrArg (fun x => some (Value.int .u8 x)) (by show (n : Int) / 65536 % 256 = ((UInt8.ofNat (n / 65536 % 256)).toNat : Int); rw [Cm.toNat_ofNat (by omega)]; omega)
  | 3, _ => exact congrArg (fun x => some (Value.int .u8 x)) (by show (n : Int) / 16777216 % 256 = ((UInt8.ofNat (n / 16777216 % 256)).toNat : Int); rw [Cm.toNat_ofNat (by omega)]; omega)

set_option maxRecDepth 100000 in
set_option maxHeartbeats 1000000 in
theorem tail_any (s : ByteArray) (w : World) (hs : s.size ≤ maxLen) :
    Calls Try.prog 63 #[.string s] w fun e w' => e = .returned (.string ⟨(Cm.tail s.data.toList).toArray⟩) ∧ Below w.heap.size w w' := by
  have hn := Cm.sum_lt s.data.toList
  have HS : Hid (_) := sum_any s w hs
  have HT : Hid (Cm.tail s.data.toList = Cm.bytes4 (Cm.sum s.data.toList)) := (show Cm.tail s.data.toList = Cm.bytes4 (Cm.sum s.data.toList) from rfl)
  generalize Cm.sum s.data.toList = n at hn HS HT
  have hn' : (n : Int) < 4294967296 := by omega
  have hcv := conv4 n hn
  go_enter Try.func63, Try.ntmps63
  go_wp2_with (go_at_call 68; refine Calls.mono HS.out ?_; rintro e w1 ⟨rfl, hb⟩)
  go_ret
  exact ⟨ret_str (by rw [HT.out]), hb.alloc hb.size _⟩

set_option maxRecDepth 100000 in
set_option maxHeartbeats 1000000 in
theorem put_any (s : ByteArray) (w : World) (hs : s.size ≤ 9223372036854775803) :
    Calls Try.prog 53 #[.string s] w fun e w' => e = .returned (.string ⟨(Cm.put s.data.toList).toArray⟩) ∧ Below w.heap.size w w' := by
  have HS : Hid (_) := tail_any s w (by simp only [maxLen]; omega)
  have hl : (ByteArray.mk (Cm.tail s.data.toList).toArray).size = 4 := rfl
  have hE : s ++ (ByteArray.mk (Cm.tail s.data.toList).toArray) = ⟨(Cm.put s.data.toList).toArray⟩ := by
    apply ByteArray.ext
    simp [Cm.put]
  generalize ByteArray.mk (Cm.tail s.data.toList).toArray = t at HS hl hE
  have hsum : s.size + t.size ≤ maxLen := by simp only [maxLen]; omega
  go_enter Try.func53, Try.ntmps53
  go_wp2_with (go_at_call 63; refine Calls.mono HS.out ?_; rintro e w1 ⟨rfl, hb⟩)
  go_ret
  exact ⟨rfl, hb⟩
end Go.Proofs.Ytmjmlccdgdakdaa.C
