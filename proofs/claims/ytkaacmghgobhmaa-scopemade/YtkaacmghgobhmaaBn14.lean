/- Texts: ScA ScO ScP ScQ ScR. -/
import Derived.Test.YtkaacmghgobhmaaBn13
import Derived.BigRegion
import Derived.Deep.RegionLaw
import Derived.Deep.RegionHeld3
import Derived.Deep.QuietTactic
import Derived.BigQuiet
section
namespace Go.Proofs.Ytkaacmghgobhmaa.Sc
/-- Names more for a scope. -/
def addS (S : List Sp) (num : Nat) (N : List (List UInt8)) : List Sp := S.modify num fun p => { p with names := p.names ++ N }
end Go.Proofs.Ytkaacmghgobhmaa.Sc
namespace Go.Proofs.Ytkaacmghgobhmaa.Rd
open Go.RowKit
open L (tkA own_block own_below info_of wpList_append_run)
set_option linter.unusedVariables false
theorem MapAt.drew {W : World} {b : Nat} {N : List (List UInt8)} (h : MapAt W b N) : MapAt W.drew b N := h.keep rfl
/-- What is left as it was but for the row and its maps. -/
structure Chs (sv : Value) (mb : List Nat) (w w' : World) : Prop where
  os : w'.os = w.os
  tape : w'.tape = w.tape
  output : w'.output = w.output
  size : w.heap.size ≤ w'.heap.size
  block : ∀ k, k < w.heap.size → sv.ownBlock ≠ some k → k ∉ mb → w'.heap[k]? = w.heap[k]?
theorem Chs.refl (sv : Value) (mb : List Nat) (w : World) : Chs sv mb w w := ⟨rfl, rfl, rfl, Nat.le_refl _, fun _ _ _ _ => rfl⟩
theorem Chs.trans {sv : Value} {mb : List Nat} {w w' w'' : World} (h : Chs sv mb w w') (h' : Chs sv mb w' w'') : Chs sv mb w w'' :=
  ⟨h'.os.trans h.os, h'.tape.trans h.tape, h'.output.trans h.output, Nat.le_trans h.size h'.size, fun k hk h1 h2 => (h'.block k (Nat.lt_of_lt_of_le hk h.size) h1 h2).trans (h.block k hk h1 h2)⟩
/-- A cell of a row is written. -/
theorem own_cell {W W' : World} {base : Nat} {e : TypeId} {z n cap g : Nat} {xs : List Value} (h : W.ownsRow base e z (.slice (some ⟨g, 0, none⟩) n cap) n xs) (j : Nat) (hj : j < n * z) (u : Value) (hW : W'.heap[g]? = (W.setCell ⟨g, j, none⟩ u).heap[g]?) : W'.ownsRow base e z (.slice (some ⟨g, 0, none⟩) n cap) n (xs.set j u) := by
  rcases h.2 with ⟨e0, _⟩ | ⟨g', cap', cur, e0, hb, hg, h1, h2, h3, h4⟩
  · cases e0
  · simp only [Value.slice.injEq, Option.some.injEq, Addr.mk.injEq, and_true, true_and] at e0
    obtain ⟨rfl, rfl⟩ := e0
    refine ⟨by rw [List.length_set]; exact h.1, .inr ⟨g, cap, cur.setIfInBounds j u, rfl, hb, ?_, h1, h2, by simpa using h3, ?_⟩⟩
    · rw [hW]
      simp [World.setCell, Array.getElem?_modify, hg]
    · rw [← h4, Array.toList_setIfInBounds, List.take_set]
theorem spCells_set : ∀ (S : List Sc.Sp) (mb : List Nat) (num : Nat) (h : num < S.length) (x : List UInt8), mb.length = S.length → spCells (Sc.addS S num [x]) mb = (spCells S mb).set (num * 3 + 2) (.int .i64 ((S[num].names.length : Int) + 1))
  | p :: S, m :: mb, 0, h, x, hl => by
    simp [Sc.addS, spCells]
  | p :: S, m :: mb, num + 1, h, x, hl => by
    have ih := spCells_set S mb num (by simpa using h) x (by simpa using hl)
    show (spA p m).toList ++ spCells (Sc.addS S num [x]) mb = ((spA p m).toList ++ spCells S mb).set _ _
    rw [ih, List.set_append_right _ _ (by simp; omega)]
    congr 1
    congr 1
    simp; omega
  | [], _, _, h, _, _ => by simp at h
  | _ :: _, [], _, _, _, hl => by simp at hl
theorem addS_len (S : List Sc.Sp) (num : Nat) (N : List (List UInt8)) : (Sc.addS S num N).length = S.length := by simp [Sc.addS]
theorem addS_at (S : List Sc.Sp) (num : Nat) (N : List (List UInt8)) (h : num < S.length) (h' : num < (Sc.addS S num N).length) : (Sc.addS S num N)[num] = { S[num] with names := S[num].names ++ N } := by
  simp [Sc.addS]
theorem addS_ne (S : List Sc.Sp) (num : Nat) (N : List (List UInt8)) (j : Nat) (hne : j ≠ num) (h : j < S.length) (h' : j < (Sc.addS S num N).length) : (Sc.addS S num N)[j] = S[j] := by
  simp [Sc.addS, Ne.symm hne]
theorem addS_add (S : List Sc.Sp) (num : Nat) (A B : List (List UInt8)) : Sc.addS (Sc.addS S num A) num B = Sc.addS S num (A ++ B) := by
  apply List.ext_getElem?
  intro i
  simp only [Sc.addS, List.getElem?_modify]
  cases S[i]? with
  | none => rfl
  | some p => by_cases e : num = i <;> simp [e]
theorem addS_nil (S : List Sc.Sp) (num : Nat) : Sc.addS S num [] = S := by
  apply List.ext_getElem?
  intro i
  simp only [Sc.addS, List.getElem?_modify]
  cases S[i]? with
  | none => rfl
  | some p => simp
/-- One name more. -/
theorem SRow.step {base : Nat} {W W' : World} {g n cap : Nat} {S : List Sc.Sp} {mb : List Nat} (h : SRow base W (.slice (some ⟨g, 0, none⟩) n cap) S mb) (hnn : n = S.length) (num : Nat) (hn : num < S.length) (x : List UInt8) {m : Nat} (hm : ∀ hj', mb[num]'hj' = m)
    (hmap : MapAt W' m (S[num].names ++ [x])) (hrow : W'.heap[g]? = (W.setCell ⟨g, num * 3 + 2, none⟩ (.int .i64 ((S[num].names.length : Int) + 1))).heap[g]?) (hoth : ∀ k, k ≠ g → k ≠ m → W'.heap[k]? = W.heap[k]?) :
    SRow base W' (.slice (some ⟨g, 0, none⟩) n cap) (Sc.addS S num [x]) mb := by
  subst hnn
  have hlen := addS_len S num [x]
  refine ⟨by rw [hlen]; exact h.len, ?_, fun j hj hj' => ?_, h.nd, fun k hk => ⟨(h.low k hk).1, fun e => (h.low k hk).2 (by simpa [Value.ownBlock] using e)⟩⟩
  · rw [hlen, spCells_set S mb num hn x h.len]
    exact own_cell h.own _ (by omega) _ hrow
  · by_cases e : j = num
    · subst e
      rw [addS_at S j [x] hn hj, hm]
      exact hmap
    · rw [addS_ne S num [x] j e (by omega) hj]
      refine (h.map j (by omega) hj').keep (hoth _ (fun e1 => ?_) (fun e1 => ?_))
      · exact (h.low _ (List.getElem_mem hj')).2 (by rw [e1]; rfl)
      · have hn' : num < mb.length := by have := h.len; omega
        rw [← hm hn'] at e1
        have hp := List.pairwise_iff_getElem.1 h.nd
        rcases Nat.lt_or_gt_of_ne e with hlt | hlt
        · exact hp j num hj' hn' hlt e1
        · exact hp num j hn' hj' hlt e1.symm
set_option maxRecDepth 100000 in
set_option maxHeartbeats 1000000 in
theorem add_core {base : Nat} {w : World} {g cap : Nat} {S : List Sc.Sp} {mb : List Nat} (hS : S.length ≤ 10000000) (num : Nat) (hnum : num < S.length) (N : List (List UInt8)) (vn : Option Addr) (cn : Nat) (hcn : N.length ≤ cn) (hNl : N.length ≤ 10000000) (hSn : S[num].names.length ≤ 100000000)
    (HS : Hid (SRow base w (.slice (some ⟨g, 0, none⟩) S.length cap) S mb))
    (HNm : Hid (∀ W, Chs (.slice (some ⟨g, 0, none⟩) S.length cap) mb w W → ∀ j (hj : j < N.length), ∃ gn, vn = some ⟨gn, 0, none⟩ ∧ gn < W.heap.size ∧ W.cell? ⟨gn, j, none⟩ = some (.string ⟨N[j].toArray⟩)))
    (HSm : Hid (∀ x ∈ N, x.length ≤ 1000000)) (hcap : S.length ≤ cap) :
    Calls Try.prog 66 #[.slice (some ⟨g, 0, none⟩) S.length cap, .int .i64 (num : Int), .slice vn N.length cn] w fun e w' => e = .returned (.tuple #[]) ∧ SRow base w' (.slice (some ⟨g, 0, none⟩) S.length cap) (Sc.addS S num N) mb ∧ Chs (.slice (some ⟨g, 0, none⟩) S.length cap) mb w w' := by
  have hnum' : (num : Int) < S.length := by omega
  have hnum0 : (0 : Int) ≤ num := by omega
  go_enter Try.func66, Try.ntmps66
  go_wp2_with fail
  go_loopw [16] (fun i W => ∃ k : Nat, k ≤ N.length ∧ i = .int .i64 (k : Int) ∧ Hid (SRow base W (.slice (some ⟨g, 0, none⟩) S.length cap) (Sc.addS S num (N.take k)) mb) ∧ Hid (Chs (.slice (some ⟨g, 0, none⟩) S.length cap) mb w W)) (fun i _ => N.length - (L.intOf i).toNat)
  case atStart => exact ⟨0, by omega, rfl, (show SRow _ _ _ _ _ from by rw [List.take_zero, addS_nil]; exact HS.out), (show Chs _ _ _ _ from Chs.refl _ _ _)⟩
  case round =>
    obtain ⟨k, hk, rfl, HR, HC⟩ := hrel
    clear HS
    by_cases hkl : k < N.length
    · have hkl' : (k : Int) < N.length := by omega
      have hk0 : (0 : Int) ≤ k := by omega
      obtain ⟨gn, rfl, hgn, cgn⟩ := HNm.out _ HC.out k hkl
      have hl := addS_len S num (N.take k)
      have hr := HR.out
      have hnum2 : num < (Sc.addS S num (N.take k)).length := by omega
      have hat := addS_at S num (N.take k) hnum hnum2
      have htk : N.take (k + 1) = N.take k ++ [N[k]] := by simp
      have hnext : Sc.addS S num (N.take (k + 1)) = Sc.addS (Sc.addS S num (N.take k)) num [N[k]] := by rw [addS_add, htk]
      obtain ⟨g', cap', m, e', _, hbg, hg, hme, hmm, hm, hmg, c0, c1, c2, fz⟩ := hr.at_ num hnum2
      simp only [Value.slice.injEq, Option.some.injEq, Addr.mk.injEq, and_true] at e'
      obtain ⟨rfl, _, rfl⟩ := e'
      have hx := HSm.out _ (List.getElem_mem hkl)
      have hlook := hm.look N[k] hx
      have hnl : (Sc.addS S num (N.take k))[num].names.length ≤ 110000000 := by
        rw [hat]; simp only [List.length_append, List.length_take]; omega
      have hstep := fun (W' : World) hmap hrow hoth => hr.step (W' := W') hl.symm num hnum2 (N[k]'hkl) hme hmap hrow hoth
      rw [← hnext] at hstep
      have hms := hm.lt
      have hlen2 := addS_len S num (N.take (k + 1))
      generalize N[k] = x at *
      have fz2 := fz (num * 3 + 2)
      clear fz HR
      cases hi : (Sc.addS S num (N.take k))[num].names.idxOf? x with
      | some j =>
        rw [hi] at hlook
        simp only [Option.getD_some, Option.isSome_some] at hlook
        have hdup := hm.dup x hi (by omega)
        have HS1 : Hid (_) := hstep (wr.setCell ⟨g, num * 3 + 2, none⟩ (.int .i64 ((((Sc.addS S num (N.take k))[num].names.length : Nat) : Int) + 1))) (hdup.keep (Below.heap_setCell _ _ _ _ hmg)) rfl (fun q hq _ => Below.heap_setCell _ _ _ _ hq)
        have HC1 : Hid (Chs (.slice (some ⟨g, 0, none⟩) S.length cap) mb w (wr.setCell ⟨g, num * 3 + 2, none⟩ (.int .i64 ((((Sc.addS S num (N.take k))[num].names.length : Nat) : Int) + 1)))) := (show Chs _ _ _ _ from HC.out.trans ⟨rfl, rfl, rfl, by simp [World.setCell], fun q _ h1 _ => Below.heap_setCell _ _ _ _ (fun e => h1 (by rw [e]; rfl))⟩)
        clear hm hstep hdup hr hat hnext htk hi hx HC
        generalize ((Sc.addS S num (N.take k))[num].names.length) = nl at *
        go_wp2_with fail
        go_roundw
        case rel => exact ⟨k + 1, by omega, by go_num, HS1, HC1⟩
        case measure => simp [L.intOf] <;> omega
      | none =>
        obtain ⟨w2, hrun, hm2, hturn⟩ := (hm.keep (W' := wr.drew) rfl).store x hx hi (by omega)
        rw [hi] at hlook
        simp only [Option.getD_none, Option.isSome_none] at hlook
        have hgr := hturn.grown
        have hb2 : ∀ q, q ≠ m → w2.heap[q]? = wr.heap[q]? := fun q hne => by
          obtain ⟨es, ck, es', ck', hb, e⟩ := hturn
          rw [e]; exact ChangeMaps.heap_setBlock_other hb _ hne
        have hg2 := hb2 g (Ne.symm hmg)
        have d0 : w2.cell? ⟨g, num * 3, none⟩ = _ := (by unfold World.cell?; rw [hg2] : w2.cell? ⟨g, num * 3, none⟩ = wr.cell? ⟨g, num * 3, none⟩).trans c0
        have d1 : w2.cell? ⟨g, num * 3 + 1, none⟩ = _ := (by unfold World.cell?; rw [hg2] : w2.cell? ⟨g, num * 3 + 1, none⟩ = wr.cell? ⟨g, num * 3 + 1, none⟩).trans c1
        have d2 : w2.cell? ⟨g, num * 3 + 2, none⟩ = _ := (by unfold World.cell?; rw [hg2] : w2.cell? ⟨g, num * 3 + 2, none⟩ = wr.cell? ⟨g, num * 3 + 2, none⟩).trans c2
        have fz3 : w2.frozen? ⟨g, num * 3 + 2, none⟩ = false := (by unfold World.frozen?; rw [hg2] : w2.frozen? ⟨g, num * 3 + 2, none⟩ = wr.frozen? ⟨g, num * 3 + 2, none⟩).trans fz2
        have hgl2 : g < w2.heap.size := Nat.lt_of_lt_of_le hg hgr.size
        have HS1 : Hid (_) := hstep (w2.setCell ⟨g, num * 3 + 2, none⟩ (.int .i64 ((((Sc.addS S num (N.take k))[num].names.length : Nat) : Int) + 1))) (hm2.keep (Below.heap_setCell _ _ _ _ hmg)) (by simp [World.setCell, Array.getElem?_modify, hg2]) (fun q hq hq2 => (Below.heap_setCell _ _ _ _ hq).trans (hb2 q hq2))
        have HC1 : Hid (Chs (.slice (some ⟨g, 0, none⟩) S.length cap) mb w (w2.setCell ⟨g, num * 3 + 2, none⟩ (.int .i64 ((((Sc.addS S num (N.take k))[num].names.length : Nat) : Int) + 1)))) := (show Chs _ _ _ _ from HC.out.trans ⟨hgr.os, hgr.tape, hgr.output, by have := hgr.size; simp [World.setCell]; exact this, fun q hq h1 h2 => (Below.heap_setCell _ _ _ _ (fun e => h1 (by rw [e]; rfl))).trans (hb2 q (fun e => h2 (e ▸ hmm)))⟩)
        clear hm hstep hr hat hnext htk hi hx HC hm2 hturn hgr hb2 hg2
        generalize ((Sc.addS S num (N.take k))[num].names.length) = nl at *
        go_wp2_with fail
        go_region
        go_wp2_with fail
        go_roundw
        case rel => exact ⟨k + 1, by omega, by go_num, HS1, HC1⟩
        case measure => simp [L.intOf] <;> omega
    · have hkl' : ¬ (k : Int) < N.length := by omega
      have : k = N.length := by omega
      subst this
      have HR2 : Hid (SRow base wr (.slice (some ⟨g, 0, none⟩) S.length cap) (Sc.addS S num N) mb) := (show SRow _ _ _ _ _ from by have := HR.out; rw [List.take_length] at this; exact this)
      go_wp2_with fail
      go_end0
      exact ⟨rfl, HR2.out, HC.out⟩
end Go.Proofs.Ytkaacmghgobhmaa.Rd
end
section
namespace Go.Proofs.Ytkaacmghgobhmaa.Rd
open Go.RowKit
open L (tkA own_block own_below info_of wpList_append_run)
set_option linter.unusedVariables false
theorem infoSp : (Try.prog.info? 71).map (fun i => (i.zero, i.size, i.bytes)) = some (some (.agg #[.int .i64 0, .map none, .int .i64 0]), 3, 24) := by kernel_rfl
set_option maxRecDepth 100000 in
/-- A scope behind the others. -/
theorem SRow.more {base : Nat} {W : World} {sv : Value} {S : List Sc.Sp} {mb : List Nat} (h : SRow base W sv S mb) (hbw : base ≤ W.heap.size) (ar : Int) (hl : S.length + 1 ≤ 100000000) :
    ∃ a' cap' w3, (Builtin.append_ #[66, 66] 66 #[sv, .slice (some ⟨W.heap.size + 1, 0, none⟩) 1 1]).run Try.prog ((W.alloc (.map #[] 0)).alloc (.cells (spA ⟨ar, []⟩ W.heap.size) 71)) = .ok (.slice a' (S.length + 1) cap') w3 ∧
      SRow base w3 (.slice a' (S.length + 1) cap') (S ++ [⟨ar, []⟩]) (mb ++ [W.heap.size]) ∧ (w3.os = W.os ∧ w3.tape = W.tape ∧ w3.output = W.output ∧ W.heap.size ≤ w3.heap.size) ∧ (∀ k, k < W.heap.size → sv.ownBlock ≠ some k → w3.heap[k]? = W.heap[k]?) ∧ ∀ k, (Value.slice a' (S.length + 1) cap').ownBlock = some k → sv.ownBlock = some k ∨ W.heap.size < k := by
  obtain ⟨i0, hi, hz0, hz1, hz2⟩ := info_of infoSp
  have hA : Below W.heap.size W (W.alloc (.map #[] 0)) := (Below.refl _ _).alloc (Nat.le_refl _) _
  have s1 := alloc_size' W (.map #[] 0)
  have hB : Below (W.heap.size + 1) (W.alloc (.map #[] 0)) ((W.alloc (.map #[] 0)).alloc (.cells (spA ⟨ar, []⟩ W.heap.size) 71)) := (Below.refl _ _).alloc (by omega) _
  have s2 := alloc_size' (W.alloc (.map #[] 0)) (.cells (spA ⟨ar, []⟩ W.heap.size) 71)
  have hW : Below W.heap.size W ((W.alloc (.map #[] 0)).alloc (.cells (spA ⟨ar, []⟩ W.heap.size) 71)) := hA.trans (hB.mono (by omega))
  have hX : ((W.alloc (.map #[] 0)).alloc (.cells (spA ⟨ar, []⟩ W.heap.size) 71)).heap[W.heap.size + 1]? = some (.cells (spA ⟨ar, []⟩ W.heap.size) 71 (0, 0)) := by
    have := (MapKept.heap_alloc (W.alloc (.map #[] 0)) (.cells (spA ⟨ar, []⟩ W.heap.size) 71)).1
    rw [s1] at this; exact this
  have hM : MapAt ((W.alloc (.map #[] 0)).alloc (.cells (spA ⟨ar, []⟩ W.heap.size) 71)) W.heap.size [] := (MapAt.made W).keep (hB.block _ (by omega))
  have nl := own_block h.own
  generalize hGW : (W.alloc (.map #[] 0)).alloc (.cells (spA ⟨ar, []⟩ W.heap.size) 71) = G at *
  obtain ⟨v', w3, hr, ho, hg, _, hat⟩ := run_append_own_at (P := Try.prog) G base 66 66 71 i0 _ 3 24 Try.underlying66 hi hz0 hz1 hz2 rfl (by decide) sv S.length (spCells S mb) (own_below h.own hW) ⟨W.heap.size + 1, 0, none⟩ 1 1 (spA ⟨ar, []⟩ W.heap.size).toList rfl (by
      intro j u hj
      have hj3 : j < 3 := by
        rcases Nat.lt_or_ge j 3 with h | h
        · exact h
        · rw [List.getElem?_eq_none (by simpa using h)] at hj; cases hj
      have hc : G.cell? ⟨W.heap.size + 1, j, none⟩ = (spA ⟨ar, []⟩ W.heap.size)[j]? := by unfold World.cell?; rw [hX]; rfl
      rw [show (⟨W.heap.size + 1, 0, none⟩ : Addr).add j = ⟨W.heap.size + 1, j, none⟩ by unfold Addr.add; split <;> simp_all, hc]
      simpa using hj) (by intro u hu; simp at hu; rcases hu with rfl | rfl | rfl <;> rfl) (by unfold maxLen; omega) (by omega) (Nat.le_trans hbw hW.size)
  obtain ⟨a, cap, rfl⟩ : ∃ a cap, v' = .slice a (S.length + 1) cap := by
    rcases ho.2 with ⟨_, e⟩ | ⟨g, cap, cur, e, _⟩
    · omega
    · exact ⟨_, _, e⟩
  rw [spCells_snoc S mb _ _ h.len] at ho
  have hsz : W.heap.size ≤ w3.heap.size := Nat.le_trans hW.size hg.size
  have hbl : ∀ k, k < W.heap.size → sv.ownBlock ≠ some k → w3.heap[k]? = W.heap[k]? := fun k hk hne => (hg.block k (Nat.lt_of_lt_of_le hk hW.size) (fun e => hne e.symm)).trans (hW.block k hk)
  have hnew : ∀ k, (Value.slice a (S.length + 1) cap).ownBlock = some k → sv.ownBlock = some k ∨ W.heap.size < k := fun k hk => by
    rcases hat with e | e
    · exact .inl (e ▸ hk)
    · rw [e] at hk
      have hk' : G.heap.size = k := by simpa using hk
      exact .inr (by omega)
  have hmm : w3.heap[W.heap.size]? = G.heap[W.heap.size]? := hg.block _ (by omega) (fun e => by have := (nl _ e.symm).2; omega)
  refine ⟨a, cap, w3, hr, ⟨by simp [h.len], by simpa using ho, fun j hj hj' => ?_, ?_, fun m hm => ?_⟩, ⟨hg.os.trans hW.os, hg.tape.trans hW.tape, hg.output.trans hW.output, hsz⟩, hbl, hnew⟩
  · by_cases e : j < S.length
    · have e' : j < mb.length := by have := h.len; omega
      rw [List.getElem_append_left e, List.getElem_append_left e']
      have hmem := List.getElem_mem e'
      exact (h.map j e e').keep (hbl _ (h.lt hmem) (h.low _ hmem).2)
    · have : j = S.length := by simp at hj; omega
      subst this
      rw [List.getElem_append_right (Nat.le_refl _), List.getElem_append_right (by have := h.len; omega)]
      simp only [Nat.sub_self, List.getElem_cons_zero, h.len]
      exact hM.keep hmm
  · refine List.nodup_append.2 ⟨h.nd, by simp, fun x hx y hy => ?_⟩
    rw [List.mem_singleton] at hy
    have := h.lt hx
    omega
  · rcases List.mem_append.1 hm with hm | hm
    · refine ⟨(h.low m hm).1, fun e => ?_⟩
      rcases hnew m e with e | e
      · exact (h.low m hm).2 e
      · have := h.lt hm; omega
    · rw [List.mem_singleton] at hm
      subst hm
      refine ⟨hbw, fun e => ?_⟩
      rcases hnew _ e with e | e
      · have := (nl _ e).2; omega
      · omega
end Go.Proofs.Ytkaacmghgobhmaa.Rd
end
section
namespace Go.Proofs.Ytkaacmghgobhmaa.Rd
open Go.RowKit
open L (tkA own_block own_below info_of wpList_append_run)
set_option linter.unusedVariables false
abbrev intsV (L : List Int) : Array Value := (L.map fun i : Int => Value.int .i64 i).toArray
/-- The finder at b, its numbers at gi and go, its scopes' value sv, their maps mb; at most C scopes. -/
structure FS (w0 W : World) (b gi go : Nat) (sv : Value) (mb : List Nat) (l : List Ps.Nd) (nv : Value) (C : Nat) (s : Sc.Fs) : Prop where
  ok : Sc.Ok l.length s
  told : Told w0 nv l
  ne : l ≠ []
  few : l.length ≤ 1000000
  small : ∀ x ∈ l, x.names.length ≤ 1000000 ∧ x.kids.length ≤ 1000000 ∧ ∀ k ∈ x.kids, k ≤ 1000000
  kinds : ∀ x ∈ l, x.k ≤ 1000000000
  tx : ∀ x ∈ l, x.t.length ≤ 1000000 ∧ ∀ y ∈ x.names, y.length ≤ 1000000
  bel : Below w0.heap.size w0 W
  fin : W.heap[b]? = some (.cells #[nv, sv, .slice (some ⟨gi, 0, none⟩) l.length l.length, .slice (some ⟨go, 0, none⟩) l.length l.length] 68 (0, 0))
  inn : W.heap[gi]? = some (.cells (intsV s.inn) 3 (0, 0))
  own : W.heap[go]? = some (.cells (intsV s.own) 3 (0, 0))
  row : SRow w0.heap.size W sv s.scopes mb
  hb : w0.heap.size ≤ b ∧ w0.heap.size ≤ gi ∧ w0.heap.size ≤ go
  ap : b ≠ gi ∧ b ≠ go ∧ gi ≠ go
  apr : ∀ k, (sv.ownBlock = some k ∨ k ∈ mb) → k ≠ b ∧ k ≠ gi ∧ k ≠ go
  cnt : s.scopes.length ≤ C
theorem lt_of_some {W : World} {k : Nat} {o : Obj} (h : W.heap[k]? = some o) : k < W.heap.size := Nat.lt_of_not_le fun hg => by rw [Array.getElem?_eq_none hg] at h; cases h
section
variable {w0 W W' : World} {b gi go : Nat} {sv : Value} {mb : List Nat} {l : List Ps.Nd} {nv : Value} {C : Nat} {s : Sc.Fs}
theorem FS.lies (h : FS w0 W b gi go sv mb l nv C s) : Lies W b l :=
  ⟨h.ne, h.few, h.small, h.kinds, lt_of_some h.fin, nv, by unfold World.cell?; rw [h.fin]; rfl, h.told.below h.bel⟩
theorem FS.below (h : FS w0 W b gi go sv mb l nv C s) (hb : Below W.heap.size W W') : FS w0 W' b gi go sv mb l nv C s :=
  { h with bel := h.bel.trans (hb.mono h.bel.size), fin := (hb.block _ (lt_of_some h.fin)).trans h.fin, inn := (hb.block _ (lt_of_some h.inn)).trans h.inn, own := (hb.block _ (lt_of_some h.own)).trans h.own, row := h.row.below hb }
theorem FS.mono (h : FS w0 W b gi go sv mb l nv C s) {C' : Nat} (hc : C ≤ C') : FS w0 W b gi go sv mb l nv C' s := { h with cnt := Nat.le_trans h.cnt hc }
theorem FS.nvs (h : FS w0 W b gi go sv mb l nv C s) : ∃ g cap, nv = .slice (some ⟨g, 0, none⟩) l.length cap ∧ l.length ≤ cap ∧ g < w0.heap.size := by
  obtain ⟨g, cap, an, ak, cn, ck, e, hg, hc, _⟩ := h.told.node 0 (by cases l with | nil => exact absurd rfl h.ne | cons => simp)
  exact ⟨g, cap, e, hc, hg⟩
/-- The finder's cells. -/
theorem FS.cells (h : FS w0 W b gi go sv mb l nv C s) : W.cell? ⟨b, 0, none⟩ = some nv ∧ W.cell? ⟨b, 1, none⟩ = some sv ∧ W.cell? ⟨b, 2, none⟩ = some (.slice (some ⟨gi, 0, none⟩) l.length l.length) ∧ W.cell? ⟨b, 3, none⟩ = some (.slice (some ⟨go, 0, none⟩) l.length l.length) ∧ (∀ i, W.frozen? ⟨b, i, none⟩ = false) ∧ b < W.heap.size ∧ gi < W.heap.size ∧ go < W.heap.size := by
  have h1 := h.fin
  refine ⟨?_, ?_, ?_, ?_, fun i => ?_, lt_of_some h1, lt_of_some h.inn, lt_of_some h.own⟩ <;> simp [World.cell?, World.frozen?, h1]
theorem FS.innAt (h : FS w0 W b gi go sv mb l nv C s) (a : Nat) (ha : a < l.length) : W.cell? ⟨gi, a, none⟩ = some (.int .i64 (s.inn.getD a 0)) ∧ W.frozen? ⟨gi, a, none⟩ = false := by
  have h1 := h.inn
  have hl : a < s.inn.length := by rw [h.ok.li]; exact ha
  refine ⟨?_, by simp [World.frozen?, h1]⟩
  unfold World.cell?
  rw [h1]
  simp [List.getElem?_eq_getElem hl]
theorem FS.ownAt (h : FS w0 W b gi go sv mb l nv C s) (a : Nat) (ha : a < l.length) : W.cell? ⟨go, a, none⟩ = some (.int .i64 (s.own.getD a 0)) ∧ W.frozen? ⟨go, a, none⟩ = false := by
  have h1 := h.own
  have hl : a < s.own.length := by rw [h.ok.lo]; exact ha
  refine ⟨?_, by simp [World.frozen?, h1]⟩
  unfold World.cell?
  rw [h1]
  simp [List.getElem?_eq_getElem hl]
theorem ints_set {W : World} {g k : Nat} {L : List Int} (h : W.heap[g]? = some (.cells (intsV L) 3 (0, 0))) (v : Int) : (W.setCell ⟨g, k, none⟩ (.int .i64 v)).heap[g]? = some (.cells (intsV (L.set k v)) 3 (0, 0)) := by
  simp [World.setCell, Array.getElem?_modify, h, List.map_set]
theorem FS.setInn (h : FS w0 W b gi go sv mb l nv C s) (k : Nat) (v : Int) (hv : -1 ≤ v ∧ v < s.scopes.length) : FS w0 (W.setCell ⟨gi, k, none⟩ (.int .i64 v)) b gi go sv mb l nv C { s with inn := s.inn.set k v } :=
  { h with ok := Sc.ok_inn h.ok hv, bel := h.bel.setCell (by have := h.hb.2.1; simpa using this) _, fin := (Below.heap_setCell _ _ _ _ h.ap.1).trans h.fin, inn := ints_set h.inn v, own := (Below.heap_setCell _ _ _ _ (Ne.symm h.ap.2.2)).trans h.own, row := h.row.keep fun k hk => Below.heap_setCell _ _ _ _ (h.apr k hk).2.1 }
theorem FS.setOwn (h : FS w0 W b gi go sv mb l nv C s) (k : Nat) (v : Int) (hv : -1 ≤ v ∧ v < s.scopes.length) : FS w0 (W.setCell ⟨go, k, none⟩ (.int .i64 v)) b gi go sv mb l nv C { s with own := s.own.set k v } :=
  { h with ok := ⟨h.ok.li, by show (s.own.set _ _).length = _; rw [List.length_set, h.ok.lo], h.ok.inn, fun x hx => by
      rcases Sc.mem_set hx with hx | hx
      · exact h.ok.own x hx
      · exact hx ▸ hv, h.ok.up⟩, bel := h.bel.setCell (by have := h.hb.2.2; simpa using this) _, fin := (Below.heap_setCell _ _ _ _ h.ap.2.1).trans h.fin, inn := (Below.heap_setCell _ _ _ _ h.ap.2.2).trans h.inn, own := ints_set h.own v, row := h.row.keep fun k hk => Below.heap_setCell _ _ _ _ (h.apr k hk).2.2 }
/-- Names for a scope. -/
theorem FS.added (h : FS w0 W b gi go sv mb l nv C s) {num : Nat} {N : List (List UInt8)} (hr : SRow w0.heap.size W' sv (Sc.addS s.scopes num N) mb) (hc : Chs sv mb W W') : FS w0 W' b gi go sv mb l nv C { s with scopes := Sc.addS s.scopes num N } := by
  have hlow : ∀ k, k < W.heap.size → (k = b ∨ k = gi ∨ k = go ∨ k < w0.heap.size) → W'.heap[k]? = W.heap[k]? := fun k hk h1 => by
    refine hc.block k hk (fun e => ?_) (fun e => ?_)
    · have := h.apr k (.inl e)
      have := (own_block h.row.own k e).1
      omega
    · have := h.apr k (.inr e)
      have := (h.row.low k e).1
      omega
  have hl := addS_len s.scopes num N
  refine { h with ok := ⟨h.ok.li, h.ok.lo, fun x hx => by show _ ∧ x < ((Sc.addS s.scopes num N).length : Nat); rw [hl]; exact h.ok.inn x hx, fun x hx => by show _ ∧ x < ((Sc.addS s.scopes num N).length : Nat); rw [hl]; exact h.ok.own x hx, fun k hk => ?_⟩, bel := ⟨hc.os.trans h.bel.os, hc.tape.trans h.bel.tape, hc.output.trans h.bel.output, Nat.le_trans h.bel.size hc.size, fun k hk => (hlow k (Nat.lt_of_lt_of_le hk h.bel.size) (.inr (.inr (.inr hk)))).trans (h.bel.block k hk)⟩, fin := (hlow b (lt_of_some h.fin) (.inl rfl)).trans h.fin, inn := (hlow gi (lt_of_some h.inn) (.inr (.inl rfl))).trans h.inn, own := (hlow go (lt_of_some h.own) (.inr (.inr (.inl rfl)))).trans h.own, row := hr, cnt := by show (Sc.addS s.scopes num N).length ≤ C; rw [hl]; exact h.cnt }
  have hk : k < (Sc.addS s.scopes num N).length := hk
  show -1 ≤ ((Sc.addS s.scopes num N)[k]).around ∧ ((Sc.addS s.scopes num N)[k]).around < k
  by_cases e : k = num
  · subst e; rw [addS_at s.scopes k N (by omega) hk]; exact h.ok.up k (by omega)
  · rw [addS_ne s.scopes num N k e (by omega) hk]; exact h.ok.up k (by omega)
end
/-- A block that is none of the finder's. -/
structure Apt (W : World) (b gi go : Nat) (sv : Value) (mb : List Nat) (k : Nat) : Prop where
  lt : k < W.heap.size
  b : k ≠ b
  gi : k ≠ gi
  go : k ≠ go
  sv : sv.ownBlock ≠ some k
  mb : k ∉ mb
/-- What is none of the finder's stays, and stays none of his. -/
def Kp (W W' : World) (b gi go : Nat) (sv sv' : Value) (mb mb' : List Nat) : Prop := ∀ k, Apt W b gi go sv mb k → Apt W' b gi go sv' mb' k ∧ W'.heap[k]? = W.heap[k]?
theorem Kp.trans {W W' W'' : World} {b gi go : Nat} {sv sv' sv'' : Value} {mb mb' mb'' : List Nat} (h : Kp W W' b gi go sv sv' mb mb') (h' : Kp W' W'' b gi go sv' sv'' mb' mb'') : Kp W W'' b gi go sv sv'' mb mb'' :=
  fun k hk => ⟨(h' k (h k hk).1).1, (h' k (h k hk).1).2.trans (h k hk).2⟩
theorem Kp.refl (W : World) (b gi go : Nat) (sv : Value) (mb : List Nat) : Kp W W b gi go sv sv mb mb := fun k hk => ⟨hk, rfl⟩
theorem Kp.below {W W' : World} {b gi go : Nat} {sv : Value} {mb : List Nat} (h : Below W.heap.size W W') : Kp W W' b gi go sv sv mb mb := fun k hk => ⟨{ hk with lt := Nat.lt_of_lt_of_le hk.lt h.size }, h.block k hk.lt⟩
theorem Kp.set {W : World} {b gi go : Nat} {sv : Value} {mb : List Nat} {g i : Nat} (hg : g = b ∨ g = gi ∨ g = go) (u : Value) : Kp W (W.setCell ⟨g, i, none⟩ u) b gi go sv sv mb mb := fun k hk =>
  ⟨{ hk with lt := by have := hk.lt; simpa [World.setCell] using this }, Below.heap_setCell _ _ _ _ (by show k ≠ g; rcases hg with rfl | rfl | rfl; exact hk.b; exact hk.gi; exact hk.go)⟩
theorem Kp.chs {W W' : World} {b gi go : Nat} {sv : Value} {mb : List Nat} (h : Chs sv mb W W') : Kp W W' b gi go sv sv mb mb := fun k hk => ⟨{ hk with lt := Nat.lt_of_lt_of_le hk.lt h.size }, h.block k hk.lt hk.sv hk.mb⟩
theorem NamesIn.apt {W W' : World} {b gi go : Nat} {sv sv' : Value} {mb mb' : List Nat} {v : Value} {N : List (List UInt8)} (h : NamesIn W v N) (ha : ∀ k, v.ownBlock = some k → N ≠ [] → Apt W b gi go sv mb k) (hk : Kp W W' b gi go sv sv' mb mb') : NamesIn W' v N ∧ ∀ k, v.ownBlock = some k → N ≠ [] → Apt W' b gi go sv' mb' k := by
  obtain ⟨ad, cap, rfl, h1, h2⟩ := h
  refine ⟨⟨ad, cap, rfl, h1, ?_⟩, fun k e hn => (hk k (ha k e hn)).1⟩
  rcases h2 with h2 | ⟨g, rfl, hg, hc⟩
  · exact .inl h2
  · by_cases hn : N = []
    · exact .inl hn
    · have := hk g (ha g rfl hn)
      exact .inr ⟨g, rfl, this.1.lt, fun j hj => by rw [← hc j hj]; unfold World.cell?; rw [this.2]⟩
set_option maxRecDepth 100000 in
set_option maxHeartbeats 1000000 in
/-- open, of the row: a scope behind the others. -/
theorem ropen_any {w0 w : World} {b gi go : Nat} {sv : Value} {mb : List Nat} {l : List Ps.Nd} {nv : Value} {C : Nat} {s : Sc.Fs} (h : FS w0 w b gi go sv mb l nv C s) (hC : C ≤ 10000000) (ar : Int) (har : -1 ≤ ar ∧ ar < s.scopes.length) :
    Calls Try.prog 65 #[.pointer (some ⟨b, 1, none⟩), .int .i64 ar] w fun e w' => e = .returned (.int .i64 (s.scopes.length : Int)) ∧ ∃ sv' mb', FS w0 w' b gi go sv' mb' l nv (C + 1) { s with scopes := s.scopes ++ [⟨ar, []⟩] } ∧ Kp w w' b gi go sv sv' mb mb' := by
  have hcnt := h.cnt
  obtain ⟨a', cap', w3, hap, hrow, hg, hbl, hnew⟩ := h.row.more h.bel.size ar (by omega)
  obtain ⟨c0, c1, c2, c3, fz, hbs, his, hos⟩ := h.cells
  have hkb : w3.heap[b]? = _ := (hbl b hbs (fun e => (h.apr b (.inl e)).1 rfl)).trans h.fin
  have hki : w3.heap[gi]? = _ := (hbl gi his (fun e => (h.apr gi (.inl e)).2.1 rfl)).trans h.inn
  have hko : w3.heap[go]? = _ := (hbl go hos (fun e => (h.apr go (.inl e)).2.2 rfl)).trans h.own
  have fz3 : w3.frozen? ⟨b, 1, none⟩ = false := by simp [World.frozen?, hkb]
  have hbs3 : b < w3.heap.size := lt_of_some hkb
  have d1 : w3.cell? ⟨b, 1, none⟩ = some sv := by simp [World.cell?, hkb]
  have hok : Sc.Ok l.length { s with scopes := s.scopes ++ [⟨ar, []⟩] } := by
    refine ⟨h.ok.li, h.ok.lo, fun x hx => ?_, fun x hx => ?_, fun k hk => ?_⟩
    · have := h.ok.inn x hx; show _ ∧ x < ((s.scopes ++ [_]).length : Nat); simp; omega
    · have := h.ok.own x hx; show _ ∧ x < ((s.scopes ++ [_]).length : Nat); simp; omega
    · have hk : k < (s.scopes ++ [(⟨ar, []⟩ : Sc.Sp)]).length := hk
      show -1 ≤ ((s.scopes ++ [(⟨ar, []⟩ : Sc.Sp)])[k]).around ∧ ((s.scopes ++ [(⟨ar, []⟩ : Sc.Sp)])[k]).around < _
      rw [List.length_append, List.length_singleton] at hk
      by_cases e : k < s.scopes.length
      · rw [List.getElem_append_left e]; exact h.ok.up k e
      · have : k = s.scopes.length := by omega
        subst this
        rw [List.getElem_append_right (Nat.le_refl _)]
        simp only [Nat.sub_self, List.getElem_cons_zero]
        exact har
  have HFS : Hid (FS w0 (w3.setCell ⟨b, 1, none⟩ (.slice a' (s.scopes.length + 1) cap')) b gi go (.slice a' (s.scopes.length + 1) cap') (mb ++ [w.heap.size]) l nv (C + 1) { s with scopes := s.scopes ++ [⟨ar, []⟩] }) := by
    refine (show FS _ _ _ _ _ _ _ _ _ _ _ from ?_)
    have hbel : Below w0.heap.size w0 w3 := ⟨hg.1.trans h.bel.os, hg.2.1.trans h.bel.tape, hg.2.2.1.trans h.bel.output, Nat.le_trans h.bel.size hg.2.2.2, fun k hk => (hbl k (Nat.lt_of_lt_of_le hk h.bel.size) (fun e => by have := (own_block h.row.own k e).1; omega)).trans (h.bel.block k hk)⟩
    have hapr : ∀ k, ((Value.slice a' (s.scopes.length + 1) cap').ownBlock = some k ∨ k ∈ mb ++ [w.heap.size]) → k ≠ b ∧ k ≠ gi ∧ k ≠ go := fun k hk => by
      rcases hk with hk | hk
      · rcases hnew k hk with e | e
        · exact h.apr k (.inl e)
        · omega
      · rcases List.mem_append.1 hk with hk | hk
        · exact h.apr k (.inr hk)
        · rw [List.mem_singleton] at hk; omega
    refine { h with ok := hok, bel := hbel.setCell (by have := h.hb.1; simpa using this) _, fin := by simp [World.setCell, Array.getElem?_modify, hkb], inn := (Below.heap_setCell _ _ _ _ (Ne.symm h.ap.1)).trans hki, own := (Below.heap_setCell _ _ _ _ (Ne.symm h.ap.2.1)).trans hko, row := ?_, apr := hapr, cnt := by show (s.scopes ++ [_]).length ≤ _; simp; omega }
    have hr2 := hrow.keep (W' := w3.setCell ⟨b, 1, none⟩ (.slice a' (s.scopes.length + 1) cap')) fun k hk => Below.heap_setCell _ _ _ _ (hapr k hk).1
    simpa using hr2
  have HKP : Hid (Kp w (w3.setCell ⟨b, 1, none⟩ (.slice a' (s.scopes.length + 1) cap')) b gi go sv (.slice a' (s.scopes.length + 1) cap') mb (mb ++ [w.heap.size])) := by
    refine (show Kp _ _ _ _ _ _ _ _ _ from fun k hk => ?_)
    refine ⟨⟨by have := Nat.lt_of_lt_of_le hk.lt hg.2.2.2; simpa [World.setCell] using this, hk.b, hk.gi, hk.go, fun e => ?_, fun e => ?_⟩, (Below.heap_setCell _ _ _ _ hk.b).trans (hbl k hk.lt hk.sv)⟩
    · rcases hnew k e with e | e
      · exact hk.sv e
      · have := hk.lt; omega
    · rcases List.mem_append.1 e with e | e
      · exact hk.mb e
      · rw [List.mem_singleton] at e; have := hk.lt; omega
  have HRn : Hid (_) := hap
  have hmk := @run_makeMap Try.prog
  have hs1 := alloc_size' w (.map #[] 0)
  clear h hrow hg hbl hnew hkb hki hko hok c0 c2 c3 hap
  go_enter Try.func65, Try.ntmps65
  go_wp2_with (at_builtin; refine wpList_append_run _ _ 66 rfl rfl _ _ _ _ rfl rfl HRn.out ?_)
  go_ret
  exact ⟨rfl, _, _, HFS.out, HKP.out⟩
/-- add, of the row. -/
theorem radd_any {w0 w : World} {b gi go : Nat} {sv : Value} {mb : List Nat} {l : List Ps.Nd} {nv : Value} {C : Nat} {s : Sc.Fs} (h : FS w0 w b gi go sv mb l nv C s) (hC : C ≤ 10000000) (num : Nat) (hnum : num < s.scopes.length) (hSn : s.scopes[num].names.length ≤ 100000000) {v : Value} {N : List (List UInt8)} (hN : NamesIn w v N) (ha : ∀ k, v.ownBlock = some k → N ≠ [] → Apt w b gi go sv mb k) (hNl : N.length ≤ 10000000) (hx : ∀ x ∈ N, x.length ≤ 1000000) :
    Calls Try.prog 66 #[sv, .int .i64 (num : Int), v] w fun e w' => e = .returned (.tuple #[]) ∧ FS w0 w' b gi go sv mb l nv C { s with scopes := Sc.addS s.scopes num N } ∧ Kp w w' b gi go sv sv mb mb := by
  obtain ⟨vn, cn, rfl, hcn, hn⟩ := hN
  obtain ⟨g, cap, m, hsv, hcap, _⟩ := h.row.at_ num hnum
  subst hsv
  have hcnt := h.cnt
  refine (add_core (base := w0.heap.size) (by omega) num hnum N vn cn hcn hNl hSn h.row (fun W hW j hj => ?_) hx hcap).mono ?_
  · rcases hn with hn | ⟨gn, rfl, hg, hc⟩
    · rw [hn] at hj; simp at hj
    · have hap := ha gn rfl (fun e => by rw [e] at hj; simp at hj)
      exact ⟨gn, rfl, Nat.lt_of_lt_of_le hg hW.size, by rw [← hc j hj]; unfold World.cell?; rw [hW.block gn hg hap.sv hap.mb]⟩
  · rintro e w' ⟨rfl, hr, hc⟩
    exact ⟨rfl, h.added hr hc, Kp.chs hc⟩
end Go.Proofs.Ytkaacmghgobhmaa.Rd
end
section
namespace Go.Proofs.Ytkaacmghgobhmaa.Rd
open Go.RowKit
open L (tkA own_block own_below info_of wpList_append_run)
set_option linter.unusedVariables false
/-- What a cell holds, whatever it is. -/
def cAt (g a : Nat) (W : World) : Value := (W.cell? ⟨g, a, none⟩).getD undef
/-- The finder's cells, and one of his numbers, whatever it is. -/
def SO (b gi go a n : Nat) (v : Int) (W : World) : Prop :=
  W.cell? ⟨b, 2, none⟩ = some (.slice (some ⟨gi, 0, none⟩) n n) ∧ W.cell? ⟨b, 3, none⟩ = some (.slice (some ⟨go, 0, none⟩) n n) ∧ W.cell? ⟨gi, a, none⟩ = some (.int .i64 v) ∧ W.cell? ⟨go, a, none⟩ = some (cAt go a W) ∧ W.frozen? ⟨go, a, none⟩ = false ∧ Hid (b < W.heap.size) ∧ Hid (gi < W.heap.size) ∧ Hid (go < W.heap.size)
theorem SO.drew {b gi go a n : Nat} {v : Int} {W : World} (h : SO b gi go a n v W) : SO b gi go a n v W.drew := h
theorem SO.set {b gi go a n : Nat} {v : Int} {W : World} (h : SO b gi go a n v W) (h1 : b ≠ go) (h2 : gi ≠ go) (u : Value) : SO b gi go a n v (W.setCell ⟨go, a, none⟩ u) := by
  obtain ⟨c1, c2, c3, c4, c5, c6, c7, c8⟩ := h
  have e1 : ∀ g i, g ≠ go → (W.setCell ⟨go, a, none⟩ u).cell? ⟨g, i, none⟩ = W.cell? ⟨g, i, none⟩ := fun g i hne => by unfold World.cell?; rw [Below.heap_setCell _ _ _ _ hne]
  have hs : (W.setCell ⟨go, a, none⟩ u).heap.size = W.heap.size := by simp [World.setCell]
  refine ⟨(e1 _ _ h1).trans c1, (e1 _ _ h1).trans c2, (e1 _ _ h2).trans c3, ?_, ?_, (show b < _ from by rw [hs]; exact c6.out), (show gi < _ from by rw [hs]; exact c7.out), (show go < _ from by rw [hs]; exact c8.out)⟩
  · unfold cAt; simp [go_sem, c4]
  · simp [go_sem, c5]
theorem FS.so {w0 W : World} {b gi go : Nat} {sv : Value} {mb : List Nat} {l : List Ps.Nd} {nv : Value} {C : Nat} {s : Sc.Fs} (h : FS w0 W b gi go sv mb l nv C s) (a : Nat) (ha : a < l.length) : SO b gi go a l.length (s.inn.getD a 0) W := by
  obtain ⟨c0, c1, c2, c3, fz, hb, hi, ho⟩ := h.cells
  have h1 := h.innAt a ha
  have h2 := h.ownAt a ha
  exact ⟨c2, c3, h1.1, by unfold cAt; rw [h2.1]; rfl, h2.2, hb, hi, ho⟩
theorem addS_last (S : List Sc.Sp) (p : Sc.Sp) (N : List (List UInt8)) : Sc.addS (S ++ [p]) S.length N = S ++ [{ p with names := p.names ++ N }] := by
  induction S with
  | nil => rfl
  | cons q S ih => show q :: Sc.addS (S ++ [p]) S.length N = _; rw [ih]; rfl
/-- The finder's cells while names are added to a node's scope. -/
def SP (b go a n m : Nat) (sv : Value) (W : World) : Prop :=
  W.cell? ⟨b, 1, none⟩ = some sv ∧ W.cell? ⟨b, 3, none⟩ = some (.slice (some ⟨go, 0, none⟩) n n) ∧ W.cell? ⟨go, a, none⟩ = some (.int .i64 (m : Int)) ∧ Hid (b < W.heap.size) ∧ Hid (go < W.heap.size)
theorem SP.drew {b go a n m : Nat} {sv : Value} {W : World} (h : SP b go a n m sv W) : SP b go a n m sv W.drew := h
theorem FS.sp {w0 W : World} {b gi go : Nat} {sv : Value} {mb : List Nat} {l : List Ps.Nd} {nv : Value} {C : Nat} {s : Sc.Fs} (h : FS w0 W b gi go sv mb l nv C s) (a m : Nat) (ha : a < l.length) (hm : s.own.getD a 0 = (m : Int)) : SP b go a l.length m sv W := by
  obtain ⟨c0, c1, c2, c3, fz, hb, hi, ho⟩ := h.cells
  exact ⟨c1, c3, by rw [(h.ownAt a ha).1, hm], hb, ho⟩
theorem getD_set {L : List Int} {a : Nat} (ha : a < L.length) (v : Int) : (L.set a v).getD a 0 = v := by
  rw [List.getD_eq_getElem?_getD, List.getElem?_set_self ha]; rfl
/-- What follows the opening: names ahead, then those that are made. -/
structure OpQ (w0 w W : World) (b gi go : Nat) (sv : Value) (mb : List Nat) (l : List Ps.Nd) (nv : Value) (C : Nat) (s : Sc.Fs) (sv' : Value) (mb' : List Nat) : Prop where
  fs : FS w0 W b gi go sv' mb' l nv C s
  kp : Kp w W b gi go sv sv' mb mb'
set_option maxRecDepth 100000 in
set_option maxHeartbeats 1000000 in
theorem open_core (w : World) (b gi go a n nS : Nat) (v : Value) (z : Int) (hn : n ≤ 1000000) (ha : a < n) (hbg : b ≠ go) (hig : gi ≠ go) (HSO : SO b gi go a n z w) (Q0 : World → Value → Prop) (Q1 Q2 : Value → World → Prop) (R : Value → World → Value → Prop)
    (C65 : Hid (Calls Try.prog 65 #[.pointer (some ⟨b, 1, none⟩), .int .i64 z] w.drew fun e w' => e = .returned (.int .i64 (nS : Int)) ∧ SO b gi go a n z w' ∧ Hid (∃ sv, Q0 w' sv)))
    (CS : Hid (∀ W sv, Q0 W sv → SP b go a n nS sv (W.setCell ⟨go, a, none⟩ (.int .i64 (nS : Int)))))
    (C66 : Hid (∀ W sv, Q0 W sv → Calls Try.prog 66 #[sv, .int .i64 (nS : Int), v] (W.setCell ⟨go, a, none⟩ (.int .i64 (nS : Int))).drew fun e w' => e = .returned (.tuple #[]) ∧ SP b go a n nS sv w' ∧ Hid (Q1 sv w')))
    (C53 : Hid (∀ W sv, Q1 sv W → SP b go a n nS sv W → Calls Try.prog 53 #[.pointer (some ⟨b, 0, none⟩), .int .i64 (a : Int)] W.drew fun e w' => ∃ v', e = .returned v' ∧ SP b go a n nS sv w' ∧ Hid (R sv w' v')))
    (C66b : Hid (∀ W sv v', Hid (R sv W v') → SP b go a n nS sv W → Calls Try.prog 66 #[sv, .int .i64 (nS : Int), v'] W fun e w' => e = .returned (.tuple #[]) ∧ SP b go a n nS sv w' ∧ Hid (Q2 sv w'))) :
    Calls Try.prog 52 #[.pointer (some ⟨b, 0, none⟩), .int .i64 (a : Int), v] w fun e w' => e = .returned (.tuple #[]) ∧ ∃ sv, Q2 sv w' := by
  have ha' : (a : Int) < n := by omega
  have ha0 : (0 : Int) ≤ a := by omega
  go_enter Try.func52, Try.ntmps52
  go_wp2_with fail
  go_region_held3 (fun W => W.cell? ⟨b, 2, none⟩ = some (.slice (some ⟨gi, 0, none⟩) n n) ∧ W.cell? ⟨b, 3, none⟩ = some (.slice (some ⟨go, 0, none⟩) n n) ∧ W.cell? ⟨gi, a, none⟩ = some (.int .i64 z) ∧ W.cell? ⟨go, a, none⟩ = some (cAt go a W) ∧ W.frozen? ⟨go, a, none⟩ = false ∧ Hid (b < W.heap.size) ∧ Hid (gi < W.heap.size) ∧ Hid (go < W.heap.size)) (first | assumption | exact SO.drew (by assumption) | exact SO.set (by assumption) hbg hig _) (first | (go_at_call 65; refine Calls.mono C65.out ?_; rintro e w7 ⟨rfl, hS7, HQ7⟩))
  obtain ⟨sv, hq0⟩ := HQ7.out
  have hSP := CS.out w7 sv hq0
  have HC66 : Hid (_) := C66.out w7 sv hq0
  clear HQ7 hq0 C65 CS C66 hS7 HSO
  generalize w7.setCell ⟨go, a, none⟩ (.int .i64 (nS : Int)) = w1 at *
  go_wp2_with fail
  go_region_held3 (fun W => W.cell? ⟨b, 1, none⟩ = some sv ∧ W.cell? ⟨b, 3, none⟩ = some (.slice (some ⟨go, 0, none⟩) n n) ∧ W.cell? ⟨go, a, none⟩ = some (.int .i64 (nS : Int)) ∧ Hid (b < W.heap.size) ∧ Hid (go < W.heap.size)) (first | assumption | exact SP.drew (by assumption)) (first | (go_at_call 66; refine Calls.mono HC66.out ?_; rintro e w8 ⟨rfl, hS8, HQ8⟩))
  have HC53 : Hid (_) := C53.out w8 sv HQ8.out hS8
  clear HC66 C53 hSP HQ8
  go_wp2_with fail
  go_region_held3 (fun W => W.cell? ⟨b, 1, none⟩ = some sv ∧ W.cell? ⟨b, 3, none⟩ = some (.slice (some ⟨go, 0, none⟩) n n) ∧ W.cell? ⟨go, a, none⟩ = some (.int .i64 (nS : Int)) ∧ Hid (b < W.heap.size) ∧ Hid (go < W.heap.size)) (first | assumption | exact SP.drew (by assumption)) (first | (go_at_call 53; refine Calls.mono HC53.out ?_; rintro e w9 ⟨v9, rfl, hS9, HR9⟩) | (go_at_call 66; refine Calls.mono (C66b.out _ _ _ (by assumption) (by assumption)) ?_; rintro e w10 ⟨rfl, hS10, HQ10⟩))
  go_wp2_with fail
  go_end0
  exact ⟨rfl, sv, HQ10.out⟩
end Go.Proofs.Ytkaacmghgobhmaa.Rd
end
section
namespace Go.Proofs.Ytkaacmghgobhmaa.Sc
theorem makes_mem {l : List Ps.Nd} {a : Nat} {x : List UInt8} (h : makes l a = some x) : ∃ n ∈ l, n.t = x := by
  unfold makes at h
  split at h
  · cases h
  · rename_i n hn
    have hm := List.mem_of_getElem? hn
    split at h
    · cases h; exact ⟨n, hm, rfl⟩
    · split at h
      · cases hk : kid l a 0 with
        | none => rw [hk] at h; cases h
        | some f =>
          rw [hk, Option.bind_some] at h
          cases hf : l[f]? with
          | none => rw [hf] at h; cases h
          | some m => rw [hf] at h; cases h; exact ⟨m, List.mem_of_getElem? hf, rfl⟩
      · cases h
theorem one_mem {l : List Ps.Nd} {a p : Nat} {x : List UInt8} (h : one l a p = some x) : ∃ n ∈ l, n.t = x := by
  unfold one at h
  cases hk : kid l a p with
  | none => rw [hk] at h; cases h
  | some k => rw [hk, Option.bind_some] at h; exact makes_mem h
theorem madeFrom_mem {l : List Ps.Nd} {a : Nat} {x : List UInt8} : ∀ (n p : Nat), x ∈ madeFrom l a p n → ∃ m ∈ l, m.t = x
  | 0, _, h => by cases h
  | n + 1, p, h => by
    rcases List.mem_append.1 (show x ∈ (one l a p).toList ++ madeFrom l a (p + 1) n from h) with h | h
    · cases ho : one l a p with
      | none => rw [ho] at h; cases h
      | some y => rw [ho] at h; simp at h; subst h; exact one_mem ho
    · exact madeFrom_mem n (p + 1) h
end Go.Proofs.Ytkaacmghgobhmaa.Sc
namespace Go.Proofs.Ytkaacmghgobhmaa.Rd
open Go.RowKit
open L (tkA own_block own_below info_of)
set_option linter.unusedVariables false
theorem OwnN.names {w0 W : World} {v : Value} {N : List (List UInt8)} (h : OwnN w0 W v N) : NamesIn W v N := by
  have nl := own_block h.own
  rcases h.own.2 with ⟨e, h0⟩ | ⟨g, cap, cur, e, hb, hg, hcap, hc, hm, ht⟩
  · have : N = [] := List.length_eq_zero_iff.1 h0
    subst this
    exact ⟨none, 0, e, Nat.le_refl _, .inl rfl⟩
  · refine ⟨some ⟨g, 0, none⟩, cap, e, hcap, .inr ⟨g, rfl, (nl g (by rw [e]; rfl)).2, fun j hj => ?_⟩⟩
    have ho := h.own
    rw [e] at ho
    rw [ho.cellAt j (by omega)]
    simp [nc, List.getElem?_eq_getElem hj]
theorem FS.madeLen {w0 W : World} {b gi go : Nat} {sv : Value} {mb : List Nat} {l : List Ps.Nd} {nv : Value} {C : Nat} {s : Sc.Fs} (h : FS w0 W b gi go sv mb l nv C s) (a : Nat) : (Sc.made l a).length ≤ 1000000 ∧ ∀ x ∈ Sc.made l a, x.length ≤ 1000000 := by
  refine ⟨?_, fun x hx => ?_⟩
  · have := Sc.madeFrom_len l a (Sc.kidsOf l a) 0
    refine Nat.le_trans this ?_
    unfold Sc.kidsOf
    cases hn : l[a]? with
    | none => simp
    | some n => exact (h.small n (List.mem_of_getElem? hn)).2.1
  · obtain ⟨m, hm, e⟩ := Sc.madeFrom_mem _ _ hx
    rw [← e]; exact (h.tx m hm).1
theorem open_any {w0 w : World} {b gi go : Nat} {sv : Value} {mb : List Nat} {l : List Ps.Nd} {nv : Value} {C : Nat} {s : Sc.Fs} (h : FS w0 w b gi go sv mb l nv C s) (hC : C ≤ 9000000) (a : Nat) (ha : a < l.length) {v : Value} {N : List (List UInt8)} (hN : NamesIn w v N) (hap : ∀ k, v.ownBlock = some k → N ≠ [] → Apt w b gi go sv mb k) (hNl : N.length ≤ 1000000) (hx : ∀ x ∈ N, x.length ≤ 1000000) :
    Calls Try.prog 52 #[.pointer (some ⟨b, 0, none⟩), .int .i64 (a : Int), v] w fun e w' => e = .returned (.tuple #[]) ∧ ∃ sv' mb', OpQ w0 w w' b gi go sv mb l nv (C + 1) (Sc.openS l a N s) sv' mb' := by
  have hz := h.ok.inn _ (Sc.getD_mem (by rw [h.ok.li]; exact ha))
  have hdr : Below w.heap.size w w.drew := (Below.refl _ _).drew
  have hml := h.madeLen a
  have hlast : ∀ (S : List Sc.Sp) (p : Sc.Sp) (hh : S.length < (S ++ [p]).length), (S ++ [p])[S.length] = p := fun S p hh => by simp
  have hsS : Sc.openS l a N s = { scopes := Sc.addS (Sc.addS (s.scopes ++ [⟨s.inn.getD a 0, []⟩]) s.scopes.length N) s.scopes.length (Sc.made l a), inn := s.inn, own := s.own.set a (s.scopes.length : Int) } := by
    rw [addS_add, addS_last]; rfl
  refine (open_core w b gi go a l.length s.scopes.length v (s.inn.getD a 0) h.few ha h.ap.2.1 h.ap.2.2 (h.so a ha)
    (fun W sv1 => ∃ mb1, OpQ w0 w W b gi go sv mb l nv (C + 1) { s with scopes := s.scopes ++ [⟨s.inn.getD a 0, []⟩] } sv1 mb1)
    (fun sv1 W => ∃ mb1, OpQ w0 w W b gi go sv mb l nv (C + 1) { scopes := Sc.addS (s.scopes ++ [⟨s.inn.getD a 0, []⟩]) s.scopes.length N, inn := s.inn, own := s.own.set a (s.scopes.length : Int) } sv1 mb1)
    (fun sv1 W => ∃ mb1, OpQ w0 w W b gi go sv mb l nv (C + 1) (Sc.openS l a N s) sv1 mb1)
    (fun sv1 W v' => ∃ mb1, OpQ w0 w W b gi go sv mb l nv (C + 1) { scopes := Sc.addS (s.scopes ++ [⟨s.inn.getD a 0, []⟩]) s.scopes.length N, inn := s.inn, own := s.own.set a (s.scopes.length : Int) } sv1 mb1 ∧ NamesIn W v' (Sc.made l a) ∧ ∀ k, v'.ownBlock = some k → Sc.made l a ≠ [] → Apt W b gi go sv1 mb1 k)
    ?_ ?_ ?_ ?_ ?_).mono ?_
  · refine (ropen_any (h.below hdr) (by omega) _ hz).mono ?_
    rintro e w' ⟨rfl, sv1, mb1, hf, hk⟩
    exact ⟨rfl, hf.so a ha, sv1, mb1, hf, (Kp.below hdr).trans hk⟩
  · rintro W sv1 ⟨mb1, hf, hk⟩
    exact (hf.setOwn a (s.scopes.length : Int) ⟨by omega, by simp; omega⟩).sp a s.scopes.length ha (getD_set (by rw [h.ok.lo]; exact ha) _)
  · rintro W sv1 ⟨mb1, hf, hk⟩
    have hf1 := hf.setOwn a (s.scopes.length : Int) ⟨by omega, by simp; omega⟩
    have hd1 : Below (W.setCell ⟨go, a, none⟩ (.int .i64 (s.scopes.length : Int))).heap.size (W.setCell ⟨go, a, none⟩ (.int .i64 (s.scopes.length : Int))) (W.setCell ⟨go, a, none⟩ (.int .i64 (s.scopes.length : Int))).drew := (Below.refl _ _).drew
    have hk1 : Kp w (W.setCell ⟨go, a, none⟩ (.int .i64 (s.scopes.length : Int))).drew b gi go sv sv1 mb mb1 := (hk.trans (Kp.set (.inr (.inr rfl)) _)).trans (Kp.below hd1)
    obtain ⟨hN1, hA1⟩ := hN.apt hap hk1
    refine (radd_any (hf1.below hd1) (by omega) s.scopes.length (by simp) (by simp) hN1 hA1 (by omega) hx).mono ?_
    rintro e w' ⟨rfl, hf2, hk2⟩
    exact ⟨rfl, hf2.sp a s.scopes.length ha (getD_set (by rw [h.ok.lo]; exact ha) _), mb1, hf2, hk1.trans hk2⟩
  · rintro W sv1 ⟨mb1, hf, hk⟩ hSP
    have hd1 : Below W.heap.size W W.drew := (Below.refl _ _).drew
    refine (made_any (hf.below hd1).lies a ha).mono ?_
    rintro e w' ⟨v', rfl, ho⟩
    have hb := hd1.trans (ho.bel.mono hd1.size)
    have hf2 := hf.below hb
    refine ⟨v', rfl, hf2.sp a s.scopes.length ha (getD_set (by rw [h.ok.lo]; exact ha) _), mb1, ⟨hf2, hk.trans (Kp.below hb)⟩, ho.names, fun k hk1 hne => ?_⟩
    have hlt := own_block ho.own k hk1
    have hge : W.heap.size ≤ k := hlt.1
    obtain ⟨c0, c1, c2, c3, fz, xb, xi, xo⟩ := hf.cells
    exact ⟨hlt.2, by omega, by omega, by omega, fun e => by have := (own_block hf.row.own k e).2; omega, fun e => by have := hf.row.lt e; omega⟩
  · rintro W sv1 v' ⟨mb1, ⟨hf, hk⟩, hn, hA⟩ hSP
    refine (radd_any hf (by omega) s.scopes.length (by simp [Sc.addS]) (by simp [Sc.addS]; omega) hn hA (by omega) hml.2).mono ?_
    rintro e w' ⟨rfl, hf2, hk2⟩
    rw [hsS]
    exact ⟨rfl, hf2.sp a s.scopes.length ha (getD_set (by rw [h.ok.lo]; exact ha) _), mb1, hf2, hk.trans hk2⟩
  · rintro e w' ⟨rfl, sv1, mb1, hq⟩
    exact ⟨rfl, sv1, mb1, hq⟩
end Go.Proofs.Ytkaacmghgobhmaa.Rd
end
