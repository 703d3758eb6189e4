/- vint.Put by its contract: the bytes of a number; nothing that was there has turned. -/
import Derived.Test.YtmjmlccdgdakdaaVWalk
import Derived.Lib.EndianBits
namespace Go.Proofs.Ytmjmlccdgdakdaa.V
open Go.RowKit
theorem Try.info5 : (Try.prog.info? 5).map (fun i => (i.zero, i.size, i.bytes)) = some (some (.int .u8 0), 1, 1) := by kernel_rfl
def intOf : Value → Int | .int _ q => q | _ => 0
theorem ret_str {a b : List UInt8} (h : a = b) : Ending.returned (.string ⟨a.toArray⟩) = .returned (.string ⟨b.toArray⟩) := by rw [h]
theorem encF_step {k U : Nat} (h : ¬ U < 128) (hk : U < 128 ^ k) : ∃ k', k = k' + 1 ∧ 0 < k' ∧ Vn.encF k U = UInt8.ofNat (U % 128 + 128) :: Vn.encF k' (U / 128) ∧ U / 128 < 128 ^ k' := by
  cases k with
  | zero => simp at hk; omega
  | succ k' =>
    refine ⟨k', rfl, ?_, by rw [Vn.encF, if_neg h], ?_⟩
    · rcases Nat.eq_zero_or_pos k' with h0 | h0
      · subst h0; simp at hk; omega
      · exact h0
    · rw [Nat.pow_succ, Nat.mul_comm] at hk
      exact Nat.div_lt_of_lt_mul hk
theorem encF_last {k U : Nat} (h : U < 128) (hk : 0 < k) : Vn.encF k U = [UInt8.ofNat U] := by
  obtain ⟨k', rfl⟩ : ∃ k', k = k' + 1 := ⟨k - 1, by omega⟩
  rw [Vn.encF, if_pos h]
theorem one_cell (w : World) (x : Value) (t : TypeId) : ∀ j u, [x][j]? = some u → (w.alloc (.cells #[x] t)).cell? ((⟨w.heap.size, 0, none⟩ : Addr).add j) = some u := by
  intro j u hj
  match j, hj with
  | 0, hj => simp at hj; subst hj; simp [Addr.add]

theorem own_row {w : World} {base size n : Nat} {e : TypeId} {v : Value} {xs : List Value} (h : w.ownsRow base e size v n xs) : ∀ k, v.ownBlock = some k → base ≤ k := by
  intro k hk
  rcases h.2 with ⟨h', _⟩ | ⟨g, cap, cur, h', hb, _⟩
  · subst h'; cases hk
  · subst h'; simp [Value.ownBlock] at hk; omega
theorem own_conv {P : Program} {w : World} {base n : Nat} {v : Value} {src dst e : TypeId} {l : List UInt8} (hs : P.underlying src = some (.slice e)) (he : P.underlying e = some (.int .u8)) (hd : P.underlying dst = some .string)
    (h : w.ownsRow base e 1 v n (l.map fun c => Value.int .u8 (c.toNat : Int))) (hn : 0 < n) :
    ∃ g cap, v = .slice (some ⟨g, 0, none⟩) n cap ∧ base ≤ g ∧ (convert src dst (.slice (some ⟨g, 0, none⟩) n cap)).run P w = .ok (.string ⟨l.toArray⟩) w := by
  have hl : l.length = n := by have := h.1; simpa using this
  rcases h.2 with ⟨_, h0⟩ | ⟨g, cap, cur, h', hb, _⟩
  · omega
  · subst h'
    refine ⟨g, cap, rfl, hb, ?_⟩
    have := run_convert_bytes_back (P := P) w src dst e ⟨g, 0, none⟩ cap l hs he hd (fun j hj => by
      have hc := h.cellAt j (by omega)
      rw [show (⟨g, 0, none⟩ : Addr).add j = ⟨g, j, none⟩ by unfold Addr.add; split <;> simp_all]
      rw [hc]; simp [List.getElem?_eq_getElem hj])
    rw [hl] at this
    exact this
set_option maxRecDepth 100000 in
theorem or128_nat : ∀ a : Fin 256, (a.val ||| 128) = a.val % 128 + 128 := by decide
theorem u8_or128 {x : Int} (h0 : 0 ≤ x) (h1 : x < 256) : bits .or .u8 x 128 = x % 128 + 128 := by
  obtain ⟨a, rfl⟩ := Int.eq_ofNat_of_zero_le h0
  have ha : a < 256 := by omega
  have e := (bits_nat .u8 8 (by decide) wraps_u8 a 128 (by omega) (by omega)).2
  rw [or128_nat ⟨a, ha⟩] at e
  have e2 : bits .or .u8 (a : Int) 128 = ((a % 128 + 128 : Nat) : Int) := e
  rw [e2]; omega
theorem map_last (l : List UInt8) (m : Nat) (x : Int) (hx : x = (m : Int)) (hm : m < 256) : (l.map fun c => Value.int .u8 (c.toNat : Int)) ++ [Value.int .u8 x] = (l ++ [UInt8.ofNat m]).map fun c => Value.int .u8 (c.toNat : Int) := by
  rw [List.map_append, List.map_cons, List.map_nil, Vn.ofNat_toNat hm, hx]
set_option maxRecDepth 100000 in
set_option maxHeartbeats 400000 in
theorem put_any (n : Int) (w : World) (h1 : -9223372036854775808 ≤ n) (h2 : n ≤ 9223372036854775807) :
    Calls Try.prog 26 #[.int .i64 n] w fun e w' => e = .returned (.string ⟨(Vn.put n).toArray⟩) ∧ Below w.heap.size w w' := by
  obtain ⟨i0, hi, hz0, hz1, hz2⟩ := info_parts Try.info5
  have hzl := Vn.zig_lt n h1 h2
  go_enter Try.func26, Try.ntmps26
  go_wp2_with (first
    | (go_at_call 40; refine (fold_any _ _ h1 h2).mono ?_; rintro e w' ⟨rfl, rfl⟩)
    | (at_make; refine wpList_make_own _ rfl _ _ 50 rfl w'.heap.size 5 i0 (.int .u8 0) 1 Try.underlying50 hi hz0 hz1 .i64 .i64 10 10 rfl rfl rfl (by rw [hz2]; decide) (by decide) (Nat.le_refl _) ?_; intro w1 hown hgrow))
  have hbel : Below w'.heap.size w' w1 := (Below.refl _ _).grown hgrow (Nat.le_refl _) (by intro k hk; cases hk)
  go_loopw [3, 4] (fun u b wr => ∃ (l : List UInt8) (U k : Nat), u = .int .u64 (U : Int) ∧ Vn.put n = l ++ Vn.encF k U ∧ l.length + k = 10 ∧ 0 < k ∧ U < 128 ^ k ∧ U < 18446744073709551616 ∧
      wr.ownsRow w'.heap.size 5 1 b l.length (l.map fun c => Value.int .u8 (c.toNat : Int)) ∧ Below w'.heap.size w' wr) (fun u _ _ => (intOf u).toNat)
  case atStart => exact ⟨[], Vn.zig n, 10, rfl, rfl, rfl, by omega, by omega, hzl, hown, hbel⟩
  case round =>
    obtain ⟨l, U, k, rfl, hput, hlk, hk0, hUk, hU, hown1, hbel1⟩ := hrel
    have HP : Hid (_) := hput
    have HK : Hid (_) := hUk
    have hU2 : (U : Int) ≤ 18446744073709551615 := by omega
    have hsz := hbel1.size
    clear hput hown hgrow hbel hUk hU hzl
    by_cases hlt : U < 128
    · have hlast := encF_last hlt hk0
      have HL : Hid (Vn.put n = l ++ [UInt8.ofNat U]) := (show Vn.put n = l ++ [UInt8.ofNat U] from by rw [HP.out, hlast])
      have hml := map_last l U U rfl (by omega)
      clear hlast
      have HM : Hid (_) := hml
      clear hml
      go_wp2_with (at_builtin; refine wpList_append_own _ rfl _ _ 50 rfl w'.heap.size 5 i0 (.int .u8 0) 1 1 Try.underlying50 hi hz0 hz1 hz2 rfl (by decide) _ _ _ rfl (hown1.alloc _) ⟨wr.heap.size, 0, none⟩ 1 1 [.int .u8 (U : Int)] rfl rfl (one_cell _ _ _) (by intro u hu; simp at hu; subst hu; rfl) (by unfold maxLen; omega) (by omega) (by simp; omega) ?_; intro v2 w2 hown2 hgrow2 _; have hb2 := (hbel1.alloc hsz _).grown hgrow2 (by simp; omega) (own_row hown1); clear hgrow2; rw [HM.out] at hown2; obtain ⟨g, cap, rfl, _, hcv⟩ := own_conv (dst := 9) Try.underlying50 Try.underlying5 Try.underlying9 hown2 (by omega); clear hown2)
      go_ret
      exact ⟨ret_str HL.out.symm, hb2⟩
    · obtain ⟨k', rfl, hk1, hst, hd⟩ := encF_step hlt HK.out
      have HL : Hid (Vn.put n = (l ++ [UInt8.ofNat (U % 128 + 128)]) ++ Vn.encF k' (U / 128)) := (show Vn.put n = (l ++ [UInt8.ofNat (U % 128 + 128)]) ++ Vn.encF k' (U / 128) from by rw [HP.out, hst]; simp)
      have hml := map_last l (U % 128 + 128) (bits .or .u8 ((U : Int) % 256) 128) (by rw [u8_or128 (by omega) (by omega)]; omega) (by omega)
      have HM : Hid (_) := hml
      have HD : Hid (_) := hd
      clear hml hst hd HK HP
      go_wp2_with (at_builtin; refine wpList_append_own _ rfl _ _ 50 rfl w'.heap.size 5 i0 (.int .u8 0) 1 1 Try.underlying50 hi hz0 hz1 hz2 rfl (by decide) _ _ _ rfl (hown1.alloc _) ⟨wr.heap.size, 0, none⟩ 1 1 [.int .u8 (bits .or .u8 ((U : Int) % 256) 128)] rfl rfl (one_cell _ _ _) (by intro u hu; simp at hu; subst hu; rfl) (by unfold maxLen; omega) (by omega) (by simp; omega) ?_; intro v2 w2 hown2 hgrow2 _; have hb2 := (hbel1.alloc hsz _).grown hgrow2 (by simp; omega) (own_row hown1); clear hgrow2)
      rw [HM.out] at hown2
      go_roundw
      case rel => exact ⟨l ++ [UInt8.ofNat (U % 128 + 128)], U / 128, k', by go_num, HL.out, by simp; omega, hk1, HD.out, by omega, by simpa using hown2, hb2⟩
      case measure => simp [intOf]; omega
end Go.Proofs.Ytmjmlccdgdakdaa.V
