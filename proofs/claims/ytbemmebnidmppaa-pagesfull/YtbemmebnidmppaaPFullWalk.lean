-- PROVED: PagesFull, walked.
import Derived.Test.YtbemmebnidmppaaPKit
namespace Go.Proofs.Ytbemmebnidmppaa.P
open Go.RowKit
set_option linter.unusedVariables false
/-- A book with n cells, all of them its own. -/
structure Row (f : Nat → Cl) (A F n : Nat) (b : Bk) : Prop where
  at_ : b.at_ = A
  opn : b.opn = true
  fam : b.fam = F
  len : b.len = n
  cell : ∀ j, j < n → b.slots[j]? = some (f j)
theorem Row.new {f : Nat → Cl} {b : Bk} {A F : Nat} (h : Fresh b A F) : Row f A F 0 b := ⟨h.at_, h.opn, h.fam, h.len, fun j hj => by omega⟩
theorem Row.add {f : Nat → Cl} {b b' : Bk} {A F n sz : Nat} {bs : List Bk} {c : Cl} (h : Row f A F n b) (ha : Added sz bs b c b') (hc : c = f n) : Row f A F (n + 1) b' :=
  ⟨ha.at_.trans h.at_, ha.opn.trans h.opn, ha.fam.trans h.fam, by rw [ha.len, h.len], fun j hj => by
    by_cases e : j = n
    · subst e; have := ha.new; rw [h.len] at this; rw [this, hc]
    · rw [ha.old j (by rw [h.len]; omega)]; exact h.cell j (by omega)⟩
set_option maxRecDepth 100000 in
set_option maxHeartbeats 4000000 in
theorem full_any (n a : Int) (w : World) (hn : 0 ≤ n ∧ n ≤ 255) (ha : 0 ≤ a ∧ a ≤ 65535) :
    Calls Try.prog 5 #[.int .u8 n, .int .u16 a] w fun e w' => e = .returned (.bool true) ∧ Below w.heap.size w w' := by
  obtain ⟨hn0, hn1⟩ := hn
  obtain ⟨ha0, ha1⟩ := ha
  go_enter Try.func5, Try.ntmps5
  go_wp2_with fail
  refine Calls.mono (new_p (sys_nil w) (by simp)) ?_
  rintro e w1 ⟨rfl, b, HS1, HF, HB1⟩
  generalize w.heap.size + 1 = A at *
  go_wp2_with fail
  go_loopw [6] (fun i wr => ∃ (k : Nat) (b : Bk), i = .int .i64 (k : Int) ∧ k ≤ 4096 ∧ Hid (Sys w.heap.size wr [b]) ∧ Hid (Row (fun j => pc 0 j) A w.heap.size k b) ∧ Hid (Below w.heap.size w wr)) (fun i _ => 4096 - (intOf i).toNat)
  case atStart => exact ⟨0, b, rfl, by omega, HS1, Row.new HF.out, HB1⟩
  case round =>
    obtain ⟨k, b, rfl, hk, HS, HR, HB⟩ := hrel
    clear HS1 HF HB1
    by_cases hlt : k < 4096
    · have hlt' : (k : Int) < 4096 := by omega
      have HA : Hid (_) := add_p HS.out (i := 0) rfl HR.out.at_ HR.out.opn (by rw [HR.out.len]; exact hlt) rfl 0 (k : Int)
      go_wp2_with (first | (go_at_call 10; refine Calls.mono HA.out ?_; rintro e w2 ⟨rfl, b2, HS2, HD2, HK2⟩))
      go_roundw
      case rel => exact ⟨k + 1, b2, by go_num, by omega, HS2, HR.out.add HD2.out rfl, HB.out.trans HK2.out.bel⟩
      case measure => simp [intOf]; omega
    · have hk2 : k = 4096 := by omega
      subst hk2
      have HA : Hid (_) := add_full HS.out (i := 0) (b := b) rfl HR.out.opn HR.out.len (c := pc 0 n) (Parts.nil _ _ _ _ _)
      have hA : b.at_ = A := HR.out.at_
      rw [hA] at HA
      clear hA
      unfold pc at HA
      simp only [] at HA
      have hm0 : 0 ≤ a % 4096 := by omega
      have hm1 : a % 4096 < 4096 := by omega
      obtain ⟨m, hm⟩ := Int.eq_ofNat_of_zero_le hm0
      have HM : Hid (a % 4096 = (m : Int)) := hm
      have hmm : m < 4096 := by omega
      go_wp2_with (first | (go_at_call 10; refine Calls.mono HA.out ?_; rintro e w2 ⟨rfl, hb2⟩; have HB2 : Hid (_) := hb2; clear hb2))
      have hs2 := HS.out.below HB2.out
      have HG : Hid (_) := get_p hs2 (i := 0) rfl HR.out.at_ m (K := (m : Int)) rfl (by rw [HR.out.len]; exact hmm) (HR.out.cell m hmm)
      clear hs2
      refine Calls.mono HG.out ?_
      rintro e w3 ⟨aK, kK, aV, kV, rfl, hb3⟩
      have hB4 : Below w2.heap.size w2 (w3.alloc (.cells #[.int .i64 0, .int .i64 (m : Int), .int .i64 0, .slice aK 0 kK, .slice aV 0 kV] 38)) := Below.chain hb3 ((Below.refl w3.heap.size w3).alloc (Nat.le_refl _) _) hb3.size
      have hs4 := (HS.out.below HB2.out).below hB4
      have hlv : (live [b] b.fam : Int) = 512 := by
        rw [live_one, dist_nodup (hs4.pm.nod 0 b rfl), (hs4.ok 0 b rfl).2.1, HR.out.len]; rfl
      have HL4 : Hid (_) := live_is hs4 (i := 0) (n := 512) rfl HR.out.at_ hlv
      have HN4 : Hid (_) := len_is hs4 (i := 0) (n := 4096) rfl HR.out.at_ (by rw [HR.out.len]; rfl)
      have hz : w.heap.size ≤ w2.heap.size := Nat.le_trans HB.out.size HB2.out.size
      have HEND : Hid (∀ W, Below (w3.alloc (.cells #[.int .i64 0, .int .i64 (m : Int), .int .i64 0, .slice aK 0 kK, .slice aV 0 kV] 38)).heap.size (w3.alloc (.cells #[.int .i64 0, .int .i64 (m : Int), .int .i64 0, .slice aK 0 kK, .slice aV 0 kV] 38)) W → Below w.heap.size w W) := fun W hW =>
        Below.chain (Below.chain (Below.chain HB.out HB2.out HB.out.size) hB4 hz) hW (Nat.le_trans hz hB4.size)
      clear hs4 hlv hb3 hB4 hz HA HG HS HB HB2
      go_wp2_with (first | (go_at_call 12; refine Calls.mono (err_any _ _) ?_; rintro e w9 ⟨rfl, rfl⟩) | (go_at_call 20; refine Calls.mono HL4.out ?_; rintro e w9 ⟨rfl, rfl⟩) | (go_at_call 22; refine Calls.mono HN4.out ?_; rintro e w9 ⟨rfl, rfl⟩) | (go_at_call 8; refine Calls.mono (awake_any _) ?_; rintro e w9 ⟨rfl, hb9⟩; have HB9 : Hid (_) := hb9; clear hb9))
      go_ret
      exact ⟨rfl, HEND.out _ HB9.out⟩
end Go.Proofs.Ytbemmebnidmppaa.P
