/- The walk of VintTexts. -/
import Derived.Test.YtfelgifhendbbaaRowsWalk
import Derived.SliceStrings
namespace Go.Proofs.Ytfelgifhendbbaa
open Go.RowKit
namespace Vn
def texts (ss : List ByteArray) : List UInt8 := ss.flatMap fun s => text s.data.toList
theorem text_len (t : List UInt8) : t.length + 1 ≤ (text t).length ∧ (text t).length ≤ t.length + 10 := by
  have := put_len (t.length : Int)
  unfold text
  rw [List.length_append]
  omega
theorem texts_take (ss : List ByteArray) (k : Nat) (h : k < ss.length) : texts (ss.take (k + 1)) = texts (ss.take k) ++ text (ss.getD k ByteArray.empty).data.toList := by
  unfold texts
  rw [List.take_succ_eq_append_getElem h, List.flatMap_append]
  simp [List.getD, List.getElem?_eq_getElem h]
theorem texts_split (ss : List ByteArray) (k : Nat) (h : k < ss.length) : texts ss = texts (ss.take k) ++ text (ss.getD k ByteArray.empty).data.toList ++ texts (ss.drop (k + 1)) := by
  rw [← texts_take ss k h]
  unfold texts
  rw [← List.flatMap_append, List.take_append_drop]
theorem texts_len (ss : List ByteArray) : ∀ k, k ≤ ss.length → (∀ j, j < k → (ss.getD j ByteArray.empty).size ≤ 300) → (texts (ss.take k)).length ≤ 310 * k := by
  intro k
  induction k with
  | zero => intro _ _; simp [texts]
  | succ k ih =>
    intro hk h
    have h1 := ih (by omega) (fun j hj => h j (by omega))
    have h2 := h k (by omega)
    have h3 := (text_len (ss.getD k ByteArray.empty).data.toList).2
    rw [texts_take ss k (by omega), List.length_append]
    rw [size_list] at h3
    omega
end Vn
theorem textO (t : ByteArray) (w : World) (h : t.size ≤ 9223372036854775797) :
    Calls Try.prog 16 #[.string t] w fun e w' => ∃ P : ByteArray, e = .returned (.string P) ∧ Hid (P.data.toList = Vn.text t.data.toList) ∧ P.size ≤ t.size + 10 ∧ Below w.heap.size w w' :=
  (text_any t w h).mono fun _ _ ⟨he, hb⟩ => ⟨_, he, rfl, (Vn.text_len _).2, hb⟩
theorem text_none : Vn.text [] = [0] := by decide
set_option maxRecDepth 100000 in
set_option maxHeartbeats 1000000 in
theorem texts_walk (ad : Option Addr) (len cap : Nat) (ss : List ByteArray) (w : World) (hlen : len ≤ maxLen) (hz : len ≤ ss.length) (hwf : ∀ j, j < len → (ss.getD j ByteArray.empty).size ≤ maxLen)
    (hsh : len = 0 ∨ ∃ b off, ad = some ⟨b, off, none⟩ ∧ b < w.heap.size ∧ ∀ j, j < len → w.cell? ⟨b, off + j, none⟩ = some (.string (ss.getD j ByteArray.empty))) :
    Calls Try.prog 8 #[.slice ad len cap] w fun e w' => e = .returned (.bool true) ∧ Below w.heap.size w w' := by
  unfold maxLen at hlen
  by_cases k1 : 20 < len
  · go_enter Try.func8, Try.ntmps8
    go_wp2_with fail
    refine (awake_any _).mono ?_
    rintro e w1 ⟨rfl, hb⟩
    go_wp2
    go_ret
    exact ⟨rfl, hb⟩
  obtain ⟨ys, hys⟩ : ∃ ys, ys = ss.take len := ⟨_, rfl⟩
  have hyl : ys.length = len := by rw [hys, List.length_take]; omega
  have HG : Hid (∀ j, j < len → ss.getD j ByteArray.empty = ys.getD j ByteArray.empty) := fun j hj => by rw [hys]; simp [List.getD, hj]
  have HY : Hid (_) := hyl
  clear hys hyl
  have HB : Hid (∀ j, j < len → (ss.getD j ByteArray.empty).size ≤ 9223372036854775807) := hwf
  have HC : Hid (_) := hsh
  clear hsh hwf
  go_enter Try.func8, Try.ntmps8
  go_wp2_with fail
  go_loopw [3, 4] (fun s i wr => ∃ (k : Nat) (S : ByteArray), k ≤ len ∧ i = .int .i64 (k : Int) ∧ s = .string S ∧ Hid (S.data.toList = Vn.texts (ys.take k)) ∧ Hid (∀ j, j < k → (ys.getD j ByteArray.empty).size ≤ 300) ∧ Below w.heap.size w wr) (fun _ i _ => len - (intOf i).toNat)
  case atStart => exact ⟨0, ⟨#[]⟩, by omega, rfl, rfl, rfl, fun j hj => absurd hj (by omega), Below.refl _ _⟩
  case round =>
    obtain ⟨k, S, hk, rfl, rfl, HS, HM, hb⟩ := hrel
    have hSs : S.size ≤ 6200 := by
      have h1 := Vn.texts_len ys k (by rw [HY.out]; exact hk) HM.out
      rw [← HS.out, size_list] at h1
      omega
    by_cases hlt : k < len
    · obtain ⟨b, off, rfl, hbl, hcell⟩ := HC.out.resolve_left (by omega)
      have hck : wr.cell? ⟨b, off + k, none⟩ = some (.string (ss.getD k ByteArray.empty)) := (hb.cell (by exact hbl)).trans (hcell k hlt)
      have hbd := HB.out k hlt
      clear hcell
      generalize hzk : ss.getD k ByteArray.empty = z at hck hbd
      have HZ : Hid (_) := hzk
      clear hzk
      by_cases hbig : 300 < z.size
      · go_wp2_with fail
        refine (awake_any _).mono ?_
        rintro e w1 ⟨rfl, hb1⟩
        go_wp2
        go_ret
        exact ⟨rfl, below_chain hb hb1⟩
      · go_wp2_with fail
        refine (textO _ _ (by omega)).mono ?_
        rintro e w1 ⟨P, rfl, HP, hP1, hb1⟩
        go_wp2_with fail
        go_roundw
        case rel =>
          refine ⟨k + 1, S ++ P, by omega, by go_num, rfl, ?_, ?_, hb.trans (hb1.mono hb.size)⟩
          · show (S ++ P).data.toList = Vn.texts (ys.take (k + 1))
            rw [cat_list, HS.out, HP.out, Vn.texts_take ys k (by rw [HY.out]; exact hlt), ← HG.out k hlt, HZ.out]
          · intro j hj
            by_cases e : j = k
            · rw [e, ← HG.out k hlt, HZ.out]; omega
            · exact HM.out j (by omega)
        case measure => simp [intOf]; omega
    · have HSS : Hid (S.data.toList = Vn.texts ys) := (show S.data.toList = Vn.texts ys from by rw [HS.out, List.take_of_length_le (by rw [HY.out]; omega)])
      have HMM : Hid (∀ j, j < len → (ys.getD j ByteArray.empty).size ≤ 300) := fun j hj => HM.out j (by omega)
      clear HS HM
      go_wp2_with fail
      go_loopw [5, 6] (fun a i wq => ∃ (j : Nat), j ≤ len ∧ i = .int .i64 (j : Int) ∧ a = .int .i64 ((Vn.texts (ys.take j)).length : Int) ∧ Below w.heap.size w wq) (fun _ i _ => len - (intOf i).toNat)
      case atStart => exact ⟨0, by omega, rfl, rfl, hb⟩
      case round =>
        obtain ⟨j, hj, rfl, rfl, hbq⟩ := hrel
        by_cases hlt2 : j < len
        · obtain ⟨b, off, rfl, hbl, hcell⟩ := HC.out.resolve_left (by omega)
          have hck : wr.cell? ⟨b, off + j, none⟩ = some (.string (ss.getD j ByteArray.empty)) := (hbq.cell (by exact hbl)).trans (hcell j hlt2)
          have hbd := HMM.out j hlt2
          have hg := getText_any S ((Vn.texts (ys.take j)).length : Int) wr (by unfold maxLen; omega)
          have hjl : j < ys.length := by rw [HY.out]; exact hlt2
          rw [HSS.out, Vn.texts_split ys j hjl, Vn.getText_text _ _ _ (by rw [size_list]; omega), ← HG.out j hlt2] at hg
          have hst : Vn.texts (ys.take (j + 1)) = Vn.texts (ys.take j) ++ Vn.text (ss.getD j ByteArray.empty).data.toList := by rw [Vn.texts_take ys j hjl, HG.out j hlt2]
          have hpos := (Vn.text_len (ss.getD j ByteArray.empty).data.toList).1
          have hup := (Vn.text_len (ss.getD j ByteArray.empty).data.toList).2
          rw [size_list] at hpos hup
          have hrl := Vn.texts_len ys j (by omega) (fun i hi => HMM.out i (by omega))
          rw [← HG.out j hlt2] at hbd
          clear hcell hjl
          generalize hzk : ss.getD j ByteArray.empty = z at hck hg hst hpos hup hbd
          clear hzk
          generalize hal : (Vn.texts (ys.take j)).length = a at hg hrl
          generalize hpl : (Vn.text z.data.toList).length = q at hg hpos hup
          have HA : Hid ((Vn.texts (ys.take (j + 1))).length = a + q) := (show _ = _ from by rw [hst, List.length_append, hal, hpl])
          clear hst hal hpl
          have HGT : Hid (Calls Try.prog 12 #[.string S, .int .i64 (a : Int)] wr fun e w' => e = .returned (.tuple #[.string z, .int .i64 ((a + q : Nat) : Int), .int .i64 0]) ∧ Below wr.heap.size wr w') := hg
          clear hg
          have hrl2 : a ≤ 6200 := by omega
          clear hrl
          go_wp2_with fail
          refine Calls.mono HGT.out ?_
          rintro e w2 ⟨rfl, hb2⟩
          clear HGT
          have hck2 : w2.cell? ⟨b, off + j, none⟩ = some (.string z) := (hb2.cell (by exact Nat.lt_of_lt_of_le hbl hbq.size)).trans hck
          go_wp2_with (go_at_call 18; refine (err_any _ _).mono ?_; rintro e w' ⟨rfl, rfl⟩)
          go_roundw
          case rel => exact ⟨j + 1, by omega, by go_num, by rw [HA.out]; go_num, below_chain hbq hb2⟩
          case measure => simp [intOf]; omega
        · have hej : (Vn.texts (ys.take j)).length = S.size := by rw [← size_list S, HSS.out, List.take_of_length_le (by rw [HY.out]; omega)]
          have hbe : (((Vn.texts (ys.take j)).length : Int) == (S.size : Int)) = true := by rw [hej]; simp
          clear hej
          go_wp2_with fail
          refine (textO _ _ (by decide)).mono ?_
          rintro e w2 ⟨P, rfl, HP, hP1, hb2⟩
          have hP2 : P.size = 1 := by rw [← size_list, HP.out]; show (Vn.text []).length = 1; rw [text_none]; rfl
          go_wp2_with (go_at_call 9; refine (awake_any _).mono ?_; rintro e w3 ⟨rfl, hb3⟩)
          go_ret
          exact ⟨rfl, below_chain hbq (below_chain hb2 hb3)⟩
theorem strs_at {w : World} {a : Addr} {ss : List ByteArray} (h : ∀ i, i < ss.length → w.cell? (a.add i) = some (.string (ss.getD i ByteArray.empty))) (hp : 0 < ss.length) :
    ∃ b off, a = ⟨b, off, none⟩ ∧ ∀ j, j < ss.length → w.cell? ⟨b, off + j, none⟩ = some (.string (ss.getD j ByteArray.empty)) := by
  obtain ⟨b, off, spot⟩ := a
  have hspot : spot = none := by simpa [Addr.add] using World.cell?_spot (h 0 hp)
  subst hspot
  exact ⟨b, off, rfl, fun j hj => by rw [← Go.WideShapes.add_plain]; exact h j hj⟩
/-- What the walk is told of a slice of texts that came in: nil; or a row of cap cells, each a text. -/
def IsTexts (w : World) (a : Option Addr) (len cap : Nat) (ss : List ByteArray) : Prop :=
  (a = none ∧ len = 0 ∧ cap = 0 ∧ ss = []) ∨
  ∃ x, a = some x ∧ len ≤ cap ∧ cap ≤ maxLen ∧ ss.length = cap ∧ (∀ i, i < ss.length → w.cell? (x.add i) = some (.string (ss.getD i ByteArray.empty))) ∧ ∀ s ∈ ss, s.size ≤ maxLen
theorem texts_call (a : Option Addr) (len cap : Nat) (ss : List ByteArray) (w : World) (h : IsTexts w a len cap ss) :
    Calls Try.prog 8 #[.slice a len cap] w fun e w' => e = .returned (.bool true) ∧ Below w.heap.size w w' := by
  rcases h with ⟨rfl, rfl, rfl, rfl⟩ | ⟨x, rfl, hl, hm, hz, hc, hw⟩
  · exact texts_walk none 0 0 [] w (Nat.zero_le _) (Nat.le_refl _) (fun j hj => absurd hj (by omega)) (.inl rfl)
  · refine texts_walk (some x) len cap ss w (Nat.le_trans hl hm) (by omega) (fun j hj => ?_) ?_
    · have hj2 : j < ss.length := by omega
      have := hw ss[j] (List.getElem_mem hj2)
      simpa only [List.getD, List.getElem?_eq_getElem hj2, Option.getD_some] using this
    · by_cases h0 : len = 0
      · exact .inl h0
      · obtain ⟨b, off, rfl, hc2⟩ := strs_at hc (by omega)
        exact .inr ⟨b, off, rfl, cell_lt (hc2 0 (by omega)), fun j hj => hc2 j (by omega)⟩
end Go.Proofs.Ytfelgifhendbbaa
