/- The walk of VintRows. -/
import Derived.Test.YtfelgifhendbbaaBack
import Derived.OpenShut
namespace Go.Proofs.Ytfelgifhendbbaa
open Go.RowKit
namespace Vn
def rows (zs : List Int) : List UInt8 := zs.flatMap put
theorem rows_len (zs : List Int) : (rows zs).length ≤ 10 * zs.length := by
  induction zs with
  | nil => simp [rows]
  | cons z zs ih =>
    have := (put_len z).2
    simp only [rows, List.flatMap_cons, List.length_append, List.length_cons] at ih ⊢
    omega
theorem rows_take (zs : List Int) (k : Nat) (h : k < zs.length) : rows (zs.take (k + 1)) = rows (zs.take k) ++ put (zs.getD k 0) := by
  unfold rows
  rw [List.take_succ_eq_append_getElem h, List.flatMap_append]
  simp [List.getD, List.getElem?_eq_getElem h]
theorem rows_split (zs : List Int) (k : Nat) (h : k < zs.length) : rows zs = rows (zs.take k) ++ put (zs.getD k 0) ++ rows (zs.drop (k + 1)) := by
  rw [← rows_take zs k h]
  unfold rows
  rw [← List.flatMap_append, List.take_append_drop]
end Vn
theorem putO (n : Int) (w : World) (h1 : -9223372036854775808 ≤ n) (h2 : n ≤ 9223372036854775807) :
    Calls Try.prog 14 #[.int .i64 n] w fun e w' => ∃ P : ByteArray, e = .returned (.string P) ∧ Hid (P.data.toList = Vn.put n) ∧ P.size ≤ 10 ∧ 1 ≤ P.size ∧ Below w.heap.size w w' :=
  (put_any n w h1 h2).mono fun _ _ ⟨he, hb⟩ => ⟨_, he, rfl, (Vn.put_len n).2, (Vn.put_len n).1, hb⟩
set_option maxRecDepth 100000 in
set_option maxHeartbeats 1000000 in
theorem rows_walk (ad : Option Addr) (len cap : Nat) (zs : List Int) (w : World) (hlen : len ≤ maxLen) (hz : len ≤ zs.length) (hwf : ∀ n ∈ zs, (Lit.int .i64 n).wf = true)
    (hsh : len = 0 ∨ ∃ b off, ad = some ⟨b, off, none⟩ ∧ b < w.heap.size ∧ ∀ j, j < len → w.cell? ⟨b, off + j, none⟩ = some (.int .i64 (zs.getD j 0))) :
    Calls Try.prog 6 #[.slice ad len cap] w fun e w' => e = .returned (.bool true) ∧ Below w.heap.size w w' := by
  unfold maxLen at hlen
  by_cases k1 : 50 < len
  · go_enter Try.func6, Try.ntmps6
    go_wp2_with fail
    refine (awake_any _).mono ?_
    rintro e w1 ⟨rfl, hb⟩
    go_wp2
    go_ret
    exact ⟨rfl, hb⟩
  obtain ⟨ys, hys⟩ : ∃ ys, ys = zs.take len := ⟨_, rfl⟩
  have hyl : ys.length = len := by rw [hys, List.length_take]; omega
  have HG : Hid (∀ j, j < len → zs.getD j 0 = ys.getD j 0) := fun j hj => by rw [hys]; simp [List.getD, hj]
  have HY : Hid (_) := hyl
  clear hys hyl
  have HB : Hid (∀ j, j < len → -9223372036854775808 ≤ zs.getD j 0 ∧ zs.getD j 0 ≤ 9223372036854775807) := fun j hj => by
    have hj2 : j < zs.length := by omega
    have := hwf zs[j] (List.getElem_mem hj2)
    simp only [List.getD, List.getElem?_eq_getElem hj2, Option.getD_some]
    exact bounds_i64 this
  have HC : Hid (_) := hsh
  clear hsh hwf
  go_enter Try.func6, Try.ntmps6
  go_wp2_with fail
  go_loopw [3, 4] (fun s i wr => ∃ (k : Nat) (S : ByteArray), k ≤ len ∧ i = .int .i64 (k : Int) ∧ s = .string S ∧ Hid (S.data.toList = Vn.rows (ys.take k)) ∧ Below w.heap.size w wr) (fun _ i _ => len - (intOf i).toNat)
  case atStart => exact ⟨0, ⟨#[]⟩, by omega, rfl, rfl, rfl, Below.refl _ _⟩
  case round =>
    obtain ⟨k, S, hk, rfl, rfl, HS, hb⟩ := hrel
    have hSs : S.size ≤ 500 := by
      have h1 := Vn.rows_len (ys.take k)
      rw [← HS.out, size_list, List.length_take] at h1
      omega
    by_cases hlt : k < len
    · obtain ⟨b, off, rfl, hbl, hcell⟩ := HC.out.resolve_left (by omega)
      have hck : wr.cell? ⟨b, off + k, none⟩ = some (.int .i64 (zs.getD k 0)) := (hb.cell (by exact hbl)).trans (hcell k hlt)
      have hbd := HB.out k hlt
      clear hcell
      generalize hzk : zs.getD k 0 = z at hck hbd
      have HZ : Hid (_) := hzk
      clear hzk
      go_wp2_with fail
      refine (putO _ _ hbd.1 hbd.2).mono ?_
      rintro e w1 ⟨P, rfl, HP, hP1, hP2, hb1⟩
      go_wp2_with fail
      go_roundw
      case rel =>
        refine ⟨k + 1, S ++ P, by omega, by go_num, rfl, ?_, hb.trans (hb1.mono hb.size)⟩
        show (S ++ P).data.toList = Vn.rows (ys.take (k + 1))
        rw [cat_list, HS.out, HP.out, Vn.rows_take ys k (by rw [HY.out]; exact hlt), ← HG.out k hlt, HZ.out]
      case measure => simp [intOf]; omega
    · have HSS : Hid (S.data.toList = Vn.rows ys) := (show S.data.toList = Vn.rows ys from by rw [HS.out, List.take_of_length_le (by rw [HY.out]; omega)])
      clear HS
      go_wp2_with fail
      go_loopw [5, 6] (fun a i wq => ∃ (j : Nat), j ≤ len ∧ i = .int .i64 (j : Int) ∧ a = .int .i64 ((Vn.rows (ys.take j)).length : Int) ∧ Below w.heap.size w wq) (fun _ i _ => len - (intOf i).toNat)
      case atStart => exact ⟨0, by omega, rfl, rfl, hb⟩
      case round =>
        obtain ⟨j, hj, rfl, rfl, hbq⟩ := hrel
        by_cases hlt2 : j < len
        · obtain ⟨b, off, rfl, hbl, hcell⟩ := HC.out.resolve_left (by omega)
          have hck : wr.cell? ⟨b, off + j, none⟩ = some (.int .i64 (zs.getD j 0)) := (hbq.cell (by exact hbl)).trans (hcell j hlt2)
          have hbd := HB.out j hlt2
          have hg := get_any S ((Vn.rows (ys.take j)).length : Int) wr (by unfold maxLen; omega)
          have hjl : j < ys.length := by rw [HY.out]; exact hlt2
          rw [HSS.out, Vn.rows_split ys j hjl, Vn.get_put _ _ _ (by rw [← HG.out j hlt2]; exact hbd.1) (by rw [← HG.out j hlt2]; exact hbd.2), ← HG.out j hlt2] at hg
          have hst : Vn.rows (ys.take (j + 1)) = Vn.rows (ys.take j) ++ Vn.put (zs.getD j 0) := by rw [Vn.rows_take ys j hjl, HG.out j hlt2]
          have hpos := (Vn.put_len (zs.getD j 0)).1
          have hup := (Vn.put_len (zs.getD j 0)).2
          have hrl := Vn.rows_len (ys.take j)
          rw [List.length_take] at hrl
          clear hcell hbd hjl
          generalize hzk : zs.getD j 0 = z at hck hg hst hpos hup
          clear hzk
          generalize hal : (Vn.rows (ys.take j)).length = a at hg hrl
          generalize hpl : (Vn.put z).length = q at hg hpos hup
          have HA : Hid ((Vn.rows (ys.take (j + 1))).length = a + q) := (show _ = _ from by rw [hst, List.length_append, hal, hpl])
          clear hst hal hpl
          have HGT : Hid (_) := hg
          clear hg
          have hrl2 : a ≤ 500 := by omega
          clear hrl
          go_wp2_with fail
          refine Calls.mono HGT.out ?_
          rintro e w2 ⟨rfl, rfl⟩
          clear HGT
          go_wp2_with (go_at_call 18; refine (err_any _ _).mono ?_; rintro e w' ⟨rfl, rfl⟩)
          go_roundw
          case rel => exact ⟨j + 1, by omega, by go_num, by rw [HA.out]; go_num, hbq⟩
          case measure => simp [intOf]; omega
        · have hej : (Vn.rows (ys.take j)).length = S.size := by rw [← size_list S, HSS.out, List.take_of_length_le (by rw [HY.out]; omega)]
          have hbe : (((Vn.rows (ys.take j)).length : Int) == (S.size : Int)) = true := by rw [hej]; simp
          clear hej
          go_wp2_with (go_at_call 9; refine (awake_any _).mono ?_; rintro e w3 ⟨rfl, hb3⟩)
          go_ret
          exact ⟨rfl, below_chain hbq hb3⟩
theorem cell_lt {w : World} {b o : Nat} {v : Value} (h : w.cell? ⟨b, o, none⟩ = some v) : b < w.heap.size := by
  rcases Nat.lt_or_ge b w.heap.size with h1 | h1
  · exact h1
  · unfold World.cell? at h
    simp [Array.getElem?_eq_none h1] at h
theorem rows_call (a : Option Addr) (len cap : Nat) (zs : List Int) (w : World)
    (h : (a = none ∧ len = 0 ∧ cap = 0 ∧ zs = []) ∨ ∃ x, a = some x ∧ len ≤ cap ∧ cap ≤ maxLen ∧ zs.length = cap ∧ (∀ i, i < zs.length → w.cell? (x.add i) = some (.int .i64 (zs.getD i 0))) ∧ ∀ n ∈ zs, (Lit.int .i64 n).wf = true) :
    Calls Try.prog 6 #[.slice a len cap] w fun e w' => e = .returned (.bool true) ∧ Below w.heap.size w w' := by
  rcases h with ⟨rfl, rfl, rfl, rfl⟩ | ⟨x, rfl, hl, hm, hz, hc, hw⟩
  · exact rows_walk none 0 0 [] w (Nat.zero_le _) (Nat.le_refl _) (by simp) (.inl rfl)
  · refine rows_walk (some x) len cap zs w (Nat.le_trans hl hm) (by omega) hw ?_
    by_cases h0 : len = 0
    · exact .inl h0
    · obtain ⟨b, off, rfl, hc2⟩ := ints_at hc (by omega)
      exact .inr ⟨b, off, rfl, cell_lt (hc2 0 (by omega)), fun j hj => hc2 j (by omega)⟩
end Go.Proofs.Ytfelgifhendbbaa
