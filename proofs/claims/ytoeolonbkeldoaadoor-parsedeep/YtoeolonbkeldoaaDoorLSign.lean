/- lex.sign by its contract: the longest sign that stands there. -/
import Derived.Test.YtoeolonbkeldoaaDoorLPiece
import Derived.Deep.MidRow
import Derived.Deep.DeepCutAuto
namespace Go.Proofs.YtoeolonbkeldoaaDoor.L
open Go.RowKit
set_option linter.unusedVariables false
def sigV : List Value := Lx.signs.map fun s => .string ⟨s.toArray⟩
/-- The signs lie where they were laid at the start. -/
def Sig (w : World) : Prop := 0 < w.heap.size ∧ w.rangeAt 0 0 sigV
theorem Sig.below {w w' : World} (h : Sig w) (hb : Below w.heap.size w w') : Sig w' :=
  ⟨Nat.lt_of_lt_of_le h.1 hb.size, fun j v hj => by rw [hb.cell h.1]; exact h.2 j v hj⟩
theorem sigInfo : (Tryd.prog.info? 80).map (·.size) = some sigV.length := by kernel_rfl
theorem sig_index (k : Nat) (h : k < 26) (w : World) : (Instr.index 80 (.agg sigV.toArray) (.int .i64 (k : Int))).run Tryd.prog w = .ok (.string ⟨(Lx.signs[k]'h).toArray⟩) w := by
  have e : sigV[k]? = some (.string ⟨(Lx.signs[k]'h).toArray⟩) := by
    unfold sigV
    rw [List.getElem?_map, List.getElem?_eq_getElem h]; rfl
  simp [Instr.index, go_sem, h, e]
theorem sig_small : ∀ s ∈ Lx.signs, s.length ≤ 3 := by decide
theorem longer_small (l a s : List UInt8) (ha : a.length ≤ 3) (hs : s.length ≤ 3) : (Lx.longer l a s).length ≤ 3 := by
  unfold Lx.longer; split <;> assumption
theorem take_next {α : Type} (L : List α) (k : Nat) (h : k < L.length) : L.take (k + 1) = L.take k ++ [L[k]] := by
  rw [List.take_add_one, List.getElem?_eq_getElem h]; rfl
def upTo (l : List UInt8) (k : Nat) : List UInt8 := (Lx.signs.take k).foldl (Lx.longer l) []
theorem upTo_next (l : List UInt8) (k : Nat) (h : k < 26) : upTo l (k + 1) = Lx.longer l (upTo l k) (Lx.signs[k]'h) := by
  unfold upTo
  rw [take_next _ _ h, List.foldl_append]; rfl
theorem upTo_all (l : List UInt8) : Lx.pSgn l = if upTo l 26 = [] then none else some ⟨5, upTo l 26, 0, (upTo l 26).length⟩ := rfl
set_option maxRecDepth 100000 in
set_option maxHeartbeats 2000000 in
theorem sign_core (s : ByteArray) (w : World) (F : Nat → List UInt8) (S : Nat → List UInt8) (P : List UInt8 → Bool) (R : Option Lx.Pc) (h0 : w.heap.size ≠ 0)
    (HP : Hid (∀ (k : Nat) W, k < 26 → Calls Tryd.prog 34 #[.string s, .string ⟨(S k).toArray⟩] W fun e w' => e = .returned (.bool (P (S k))) ∧ w' = W))
    (HG : Hid (∀ o, (w.alloc o).rangeAt 0 0 sigV)) (HR : Hid (R = if F 26 = [] then none else some ⟨5, F 26, 0, (F 26).length⟩)) (HF0 : Hid (F 0 = []))
    (HF : Hid (∀ k, k < 26 → F (k + 1) = if (F k).length < (S k).length ∧ P (S k) = true then S k else F k)) (hS : Hid (∀ k, (S k).length ≤ 3))
    (HI : Hid (∀ (k : Nat) W, k < 26 → (Instr.index 80 (.agg sigV.toArray) (.int .i64 (k : Int))).run Tryd.prog W = .ok (.string ⟨(S k).toArray⟩) W)) :
    Calls Tryd.prog 29 #[.string s] w fun e w' => Told R e ∧ Below w.heap.size w w' := by
  go_enter Tryd.func29, Tryd.ntmps29
  go_upto_region 2 with fail
  first
  | (iterate 1 (first | go_values | go_skip | go_guarded | go_step | go_upon | go_back)
     refine wpList_load_mid rfl 80 (.global 0) rfl 0 0 rfl sigV _ (HG.out _) Tryd.underlying80 rfl sigInfo ?_)
  | (iterate 2 (first | go_values | go_skip | go_guarded | go_step | go_upon | go_back)
     refine wpList_load_mid rfl 80 (.global 0) rfl 0 0 rfl sigV _ (HG.out _) Tryd.underlying80 rfl sigInfo ?_)
  | (iterate 3 (first | go_values | go_skip | go_guarded | go_step | go_upon | go_back)
     refine wpList_load_mid rfl 80 (.global 0) rfl 0 0 rfl sigV _ (HG.out _) Tryd.underlying80 rfl sigInfo ?_)
  | (iterate 4 (first | go_values | go_skip | go_guarded | go_step | go_upon | go_back)
     refine wpList_load_mid rfl 80 (.global 0) rfl 0 0 rfl sigV _ (HG.out _) Tryd.underlying80 rfl sigInfo ?_)
  simp only [Act.put]
  generalize sigV.toArray = A at HI ⊢
  clear HG
  go_wp2_with fail
  go_loopw [4, 8] (fun a i W => ∃ (k : Nat) (T : List UInt8), k ≤ 26 ∧ T.length ≤ 3 ∧ i = .int .i64 k ∧ a = .string ⟨T.toArray⟩ ∧ Hid (T = F k) ∧ W = w.alloc (.cells #[.int .i64 0, .string ⟨#[]⟩, .int .i64 0, .int .i64 0, .bool false, .int .i64 0] 58)) (fun _ i _ => 26 - (intOf i).toNat)
  case atStart => exact ⟨0, [], by omega, by simp, rfl, rfl, HF0.out.symm, rfl⟩
  case round =>
    obtain ⟨k, T, hk, hT, rfl, rfl, HT, rfl⟩ := hrel
    clear HF0
    by_cases hlt : k < 26
    · have hlt' : (k : Int) < 26 := by omega
      have hix := fun W => HI.out k W hlt
      have HS := HF.out k hlt
      have hsm := hS.out k
      have HQ : Hid (_) := fun W => HP.out k W hlt
      rw [← HT.out] at HS
      have hz1 : (⟨(S k).toArray⟩ : ByteArray).size = (S k).length := rfl
      have hz2 : (⟨T.toArray⟩ : ByteArray).size = T.length := rfl
      clear HF HP hS HI HR HT
      generalize S k = U at *
      by_cases h1 : T.length < U.length
      · have h1' : ((⟨T.toArray⟩ : ByteArray).size : Int) < (⟨U.toArray⟩ : ByteArray).size := by rw [hz1, hz2]; omega
        cases hpre : P U
        · rw [hpre] at HQ
          have HE : Hid (T = F (k + 1)) := by show _ = _; rw [HS, if_neg (by rw [hpre]; simp)]
          clear HS hpre
          go_wp2_with (go_at_call 34; refine Calls.mono (HQ.out _) ?_; rintro e w' ⟨rfl, rfl⟩)
          go_roundw
          case rel => exact ⟨k + 1, T, by omega, hT, by go_num, rfl, HE, trivial⟩
          case measure => simp [intOf]; omega
        · rw [hpre] at HQ
          have HE : Hid (U = F (k + 1)) := by show _ = _; rw [HS, if_pos ⟨h1, hpre⟩]
          clear HS hpre
          go_wp2_with (go_at_call 34; refine Calls.mono (HQ.out _) ?_; rintro e w' ⟨rfl, rfl⟩)
          go_roundw
          case rel => exact ⟨k + 1, U, by omega, hsm, by go_num, rfl, HE, trivial⟩
          case measure => simp [intOf]; omega
      · have h1' : ¬ ((⟨T.toArray⟩ : ByteArray).size : Int) < (⟨U.toArray⟩ : ByteArray).size := by rw [hz1, hz2]; omega
        have HE : Hid (T = F (k + 1)) := by show _ = _; rw [HS, if_neg (fun h => h1 h.1)]
        clear HS
        go_wp2_with (go_at_call 34; refine Calls.mono (HQ.out _) ?_; rintro e w' ⟨rfl, rfl⟩)
        go_roundw
        case rel => exact ⟨k + 1, T, by omega, hT, by go_num, rfl, HE, trivial⟩
        case measure => simp [intOf]; omega
    · obtain rfl : k = 26 := by omega
      have HE := HR.out
      rw [← HT.out] at HE
      have HE' : Hid (_) := HE
      clear HP HI HF hS HR HT HE
      by_cases hem : T = []
      · subst hem
        go_wp2_with fail
        exact bodyPost_ret (v := .tuple #[.agg #[.int .i64 5, .string ⟨#[]⟩, .int .i64 0, .int .i64 0, .bool false, .int .i64 0], .bool false]) (by simp [results, Tryd.results29, go_sem]) rfl ⟨⟨5, 0, 0, [], false, rfl, HE'.out⟩, ((Below.refl _ _).alloc (Nat.le_refl _) _)⟩
      · have hem' : (⟨T.toArray⟩ : ByteArray).toList.isEmpty = false := by
          rw [ByteArray.toList_eq]; cases T with
          | nil => exact absurd rfl hem
          | cons c l => rfl
        have HE2 : Hid (R = some ⟨5, T, 0, T.length⟩) := HE'.out.trans (if_neg hem)
        clear HE'
        go_wp2_with fail
        exact bodyPost_ret (v := .tuple #[.agg #[.int .i64 5, .string ⟨T.toArray⟩, .int .i64 0, .int .i64 0, .bool false, .int .i64 (T.length : Int)], .bool true]) (by simp [results, Tryd.results29, go_sem, hem]) rfl ⟨⟨5, 0, T.length, T, true, rfl, HE2.out⟩, ((Below.refl _ _).alloc (Nat.le_refl _) _)⟩
theorem sign_any (s : ByteArray) (w : World) (hs : s.size ≤ 1000000) (hg : Sig w) :
    Calls Tryd.prog 29 #[.string s] w fun e w' => Told (Lx.pSgn s.data.toList) e ∧ Below w.heap.size w w' := by
  have e : ∀ k (h : k < 26), (Lx.signs[k]?.getD []) = Lx.signs[k]'h := fun k h => by rw [List.getElem?_eq_getElem h]; rfl
  have hsm : ∀ k, (Lx.signs[k]?.getD []).length ≤ 3 := fun k => by
    by_cases h : k < 26
    · rw [e k h]; exact sig_small _ (List.getElem_mem (l := Lx.signs) h)
    · rw [List.getElem?_eq_none (by show 26 ≤ k; omega)]; simp
  exact sign_core s w (upTo s.data.toList) (fun k => Lx.signs[k]?.getD []) (fun p => Lx.isPre p s.data.toList) _ (Nat.ne_of_gt hg.1)
    (fun k W _ => pre_any s ⟨(Lx.signs[k]?.getD []).toArray⟩ W (by omega) (by have := hsm k; simpa [ByteArray.size] using (by omega : (Lx.signs[k]?.getD []).length ≤ 100)))
    (fun o => (hg.below ((Below.refl _ _).alloc (Nat.le_refl _) o)).2) (upTo_all _) rfl
    (fun k h => by rw [upTo_next _ _ h]; show _ = if _ then _ else _; rw [e k h]; rfl) hsm
    (fun k W h => by rw [sig_index k h, e k h])
end Go.Proofs.YtoeolonbkeldoaaDoor.L
