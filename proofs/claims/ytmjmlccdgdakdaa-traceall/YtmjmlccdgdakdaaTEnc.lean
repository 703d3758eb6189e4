-- PROVED: trace.Encode by its contract.
import Derived.Test.YtmjmlccdgdakdaaTFramed
import Derived.Test.YtmjmlccdgdakdaaTBuild
namespace Go.Proofs.Ytmjmlccdgdakdaa.T
open Go.RowKit
/-- A record's four cells, from the address on. -/
def RecAt (w : World) (b off : Nat) (r : Tm.Rec) : Prop :=
  w.cell? ⟨b, off, none⟩ = some (.int .i64 r.step) ∧ w.cell? ⟨b, off + 1, none⟩ = some (.int .i64 r.kind) ∧ w.cell? ⟨b, off + 2, none⟩ = some (.int .i64 r.n) ∧ w.cell? ⟨b, off + 3, none⟩ = some (.string ⟨r.s.toArray⟩)
/-- The records L lie from the address on. -/
def Recs (w : World) (ad : Option Addr) (L : List Tm.Rec) : Prop :=
  L.length = 0 ∨ ∃ b off, ad = some ⟨b, off, none⟩ ∧ b < w.heap.size ∧ ∀ j (h : j < L.length), RecAt w b (off + j * 4) L[j]
theorem Recs.below {w w' : World} {ad : Option Addr} {L : List Tm.Rec} (h : Recs w ad L) (hb : Below w.heap.size w w') : Recs w' ad L := by
  rcases h with h | ⟨b, off, h1, h2, h3⟩
  · exact .inl h
  · refine .inr ⟨b, off, h1, Nat.lt_of_lt_of_le h2 hb.size, fun j hj => ?_⟩
    obtain ⟨c0, c1, c2, c3⟩ := h3 j hj
    exact ⟨(hb.cell h2).trans c0, (hb.cell h2).trans c1, (hb.cell h2).trans c2, (hb.cell h2).trans c3⟩
theorem Recs.take {w : World} {ad : Option Addr} {L : List Tm.Rec} (h : Recs w ad L) (k : Nat) : Recs w ad (L.take k) := by
  rcases h with h | ⟨b, off, h1, h2, h3⟩
  · exact .inl (by simp [h])
  · refine .inr ⟨b, off, h1, h2, fun j hj => ?_⟩
    rw [List.length_take] at hj
    rw [List.getElem_take]
    exact h3 j (by omega)
theorem builder_below {T e : TypeId} {B b : Nat} {bs : List Value} {W W' : World} (h : Lib.IsBuilder T e B b bs W) (hb : Below W.heap.size W W') : Lib.IsBuilder T e B b bs W' := by
  have go : ∀ p, Lib.BuilderAt T e B b p bs W → Lib.BuilderAt T e B b p bs W' := by
    intro p h
    have hlt := h.lt
    obtain ⟨hB, v, hbk, hown, hne⟩ := h
    exact ⟨hB, v, (hb.block b hlt).trans hbk, F.own_below hown hb, hne⟩
  exact h.elim (fun x => .inl (go _ x)) (fun x => .inr (go _ x))
theorem cells_cat (a b : List UInt8) : Lib.byteCells a ++ Lib.strCells ⟨b.toArray⟩ = Lib.byteCells (a ++ b) := by
  simp [Lib.byteCells, Lib.strCells]
theorem rows_snoc (L : List Tm.Rec) (i : Nat) (h : i < L.length) : Tm.rows (L.take (i + 1)) = Tm.rows (L.take i) ++ Fm.put (Tm.put L[i]) := by
  unfold Tm.rows
  rw [List.take_succ_eq_append_getElem h, List.map_append, Fm.puts_append]
  simp [Fm.puts]
theorem good_drop (k : Int) (L : List Tm.Rec) (i : Nat) (h : i < L.length) : Tm.good k (L.drop i) = (Tm.ok L[i] && (decide (k ≤ L[i].step) && Tm.good L[i].step (L.drop (i + 1)))) := by
  rw [List.drop_eq_getElem_cons h]; rfl
theorem enc_no {L : List Tm.Rec} (h : Tm.good 0 L = false) : Tm.enc L = ([], 1) := by unfold Tm.enc; rw [h]; rfl
theorem enc_yes {L : List Tm.Rec} (h : Tm.good 0 L = true) : Tm.enc L = (Tm.rows L, 0) := by unfold Tm.enc; rw [h]; rfl
set_option maxRecDepth 100000 in
set_option maxHeartbeats 2000000 in
theorem enc_any (L : List Tm.Rec) (ad : Option Addr) (cap : Nat) (w : World) (hL : L.length ≤ 1000000) (hf : Tm.fitsAll L) (hs : ∀ r ∈ L, r.s.length ≤ maxLen) (hr : Recs w ad L) :
    Calls Try.prog 16 #[.slice ad L.length cap] w fun e w' => e = .returned (.tuple #[.string ⟨(Tm.enc L).1.toArray⟩, .int .i64 ((Tm.enc L).2 : Int)]) ∧ Below w.heap.size w w' := by
  have HF : Hid (_) := hf
  have HS : Hid (_) := hs
  have HR : Hid (_) := hr
  clear hf hs hr
  generalize hn : L.length = N at hL ⊢
  have HN : Hid (_) := hn
  clear hn
  generalize hE : Tm.enc L = E
  have HE : Hid (_) := hE
  clear hE
  go_enter Try.func16, Try.ntmps16
  go_wp2_with fail
  have hfr := Lib.fresh_isBuilder 70 5 w
  have hbl : Below w.heap.size w (w.alloc (.cells #[.pointer none, .slice none 0 0] 70)) := (Below.refl _ _).alloc (Nat.le_refl _) _
  generalize (w.alloc (.cells #[.pointer none, .slice none 0 0] 70)) = w0 at *
  have HFR : Hid (_) := hfr
  clear hfr
  go_loopw [5, 12] (fun a c wr => ∃ (i : Nat) (k : Int), i ≤ N ∧ c = .int .i64 (i : Int) ∧ a = .int .i64 k ∧ Below w.heap.size w wr ∧ Hid (Tm.good 0 L = Tm.good k (L.drop i)) ∧ Hid (Lib.IsBuilder 70 5 w.heap.size w.heap.size (Lib.byteCells (Tm.rows (L.take i))) wr) ∧ Hid ((Tm.rows (L.take i)).length ≤ 4110 * i)) (fun _ c _ => N - (intOf c).toNat)
  case atStart => exact ⟨0, 0, by omega, rfl, rfl, hbl, (show Tm.good 0 L = Tm.good 0 (L.drop 0) from by simp), (show Lib.IsBuilder 70 5 w.heap.size w.heap.size (Lib.byteCells (Tm.rows (L.take 0))) w0 from by rw [show Lib.byteCells (Tm.rows (L.take 0)) = [] from by simp [Tm.rows, Fm.puts, Lib.byteCells]]; exact HFR.out), (show (Tm.rows (L.take 0)).length ≤ 4110 * 0 from by simp [Tm.rows, Fm.puts])⟩
  case round =>
    obtain ⟨i, k, hi, rfl, rfl, hbel, HG, HB, HLEN⟩ := hrel
    clear hbl HFR
    by_cases hlt : i < N
    · have hiL : i < L.length := by rw [HN.out]; exact hlt
      obtain ⟨b, off, rfl, hb, hc⟩ := HR.out.resolve_left (by omega)
      obtain ⟨c0, c1, c2, c3⟩ := hc i hiL
      replace c0 := (hbel.cell (p := ⟨b, off + i * 4, none⟩) hb).trans c0
      replace c1 := (hbel.cell (p := ⟨b, off + i * 4 + 1, none⟩) hb).trans c1
      replace c2 := (hbel.cell (p := ⟨b, off + i * 4 + 2, none⟩) hb).trans c2
      replace c3 := (hbel.cell (p := ⟨b, off + i * 4 + 3, none⟩) hb).trans c3
      have hlt' : (i : Int) < N := by omega
      clear hc
      cases ho : Tm.ok L[i] with
      | false =>
        have HFM : Hid (_) := fun W => framed_no L[i] W (HS.out _ (List.getElem_mem hiL)) ho
        have HV : Hid (E = ([], 1)) := (show E = ([], 1) from by rw [← HE.out]; exact enc_no (by rw [HG.out, good_drop k L i hiL, ho]; rfl))
        unfold recV at HFM
        clear ho
        generalize L[i].step = st at *
        generalize L[i].kind = kd at *
        generalize L[i].n = nn at *
        generalize (⟨L[i].s.toArray⟩ : ByteArray) = ss at *
        go_wp2_with fail
        refine Calls.mono (HFM.out _) ?_
        rintro e w1 ⟨rfl, hb1⟩
        go_wp2_with fail
        go_ret2
        exact ⟨by rw [HV.out]; rfl, C.below_chain (hbel.alloc hbel.size _) hb1⟩
      | true =>
        have hfi := HF.out _ (List.getElem_mem hiL)
        have HFM : Hid (_) := fun W => framed_ok L[i] W hfi ho
        have hgd := good_drop k L i hiL
        rw [ho, Bool.true_and] at hgd
        have hbd := Tm.ok_bd ho
        have hl1 := Tm.ok_len ho
        have hl2 := (Fm.put_bounds (Tm.put L[i])).2
        have HRS : Hid (_) := rows_snoc L i hiL
        have HCC : Hid (_) := cells_cat (Tm.rows (L.take i)) (Fm.put (Tm.put L[i]))
        have hzz : (⟨(Fm.put (Tm.put L[i])).toArray⟩ : ByteArray).size = (Fm.put (Tm.put L[i])).length := (V.size_list _).symm
        by_cases hk : k ≤ L[i].step
        · have HGN : Hid (Tm.good 0 L = Tm.good L[i].step (L.drop (i + 1))) := (show Tm.good 0 L = Tm.good L[i].step (L.drop (i + 1)) from by rw [HG.out, hgd, decide_eq_true hk, Bool.true_and])
          have HLN : Hid ((Tm.rows (L.take (i + 1))).length ≤ 4110 * (i + 1)) := (show (Tm.rows (L.take (i + 1))).length ≤ 4110 * (i + 1) from by rw [HRS.out, List.length_append]; have := HLEN.out; omega)
          have HBL : Hid (_) := (show (Lib.byteCells (Tm.rows (L.take i))).length + (⟨(Fm.put (Tm.put L[i])).toArray⟩ : ByteArray).size ≤ 140737488355328 from by rw [Lib.byteCells_length, hzz]; have := HLEN.out; omega)
          unfold recV at HFM
          have hnk : ¬ L[i].step < k := by omega
          clear hgd ho hfi hl1 hl2 hzz hbd hk
          generalize L[i].step = st at *
          generalize L[i].kind = kd at *
          generalize L[i].n = nn at *
          generalize (⟨L[i].s.toArray⟩ : ByteArray) = ss at *
          generalize (⟨(Fm.put (Tm.put L[i])).toArray⟩ : ByteArray) = Z at *
          go_wp2_with fail
          refine Calls.mono (HFM.out _) ?_
          rintro e w1 ⟨rfl, hb1⟩
          obtain ⟨⟨a0, a1, a2, a3⟩, _⟩ := cell4 rfl (by simpa using hb1)
          have hbA := C.below_chain (hbel.alloc hbel.size (.cells #[.int .i64 st, .int .i64 kd, .int .i64 nn, .string ss] 27)) hb1
          have HB1 : Hid (_) := builder_below HB.out (C.below_chain ((Below.refl wr.heap.size wr).alloc (Nat.le_refl _) _) hb1)
          have HW : Hid (_) := fun W h1 h2 => write_any w.heap.size w.heap.size (Lib.byteCells (Tm.rows (L.take i))) Z W h1 HBL.out h2
          clear hb1 c0 c1 c2 c3 hbel HB
          go_wp2_with fail
          refine Calls.mono (HW.out _ HB1.out hbA.size) ?_
          rintro e w2 ⟨rfl, hw2, hb2⟩
          have HB2 : Hid (Lib.IsBuilder 70 5 w.heap.size w.heap.size (Lib.byteCells (Tm.rows (L.take (i + 1)))) w2) := (show Lib.IsBuilder 70 5 w.heap.size w.heap.size (Lib.byteCells (Tm.rows (L.take (i + 1)))) w2 from by rw [HRS.out, ← HCC.out]; exact .inr hw2)
          clear hw2
          go_wp2_with fail
          go_roundw
          case rel => exact ⟨i + 1, st, by omega, by go_num, rfl, hbA.trans hb2, HGN, HB2, HLN⟩
          case measure => simp [intOf]; omega
        · have HV : Hid (E = ([], 1)) := (show E = ([], 1) from by rw [← HE.out]; exact enc_no (by rw [HG.out, hgd, decide_eq_false hk]; rfl))
          unfold recV at HFM
          have hnk : L[i].step < k := by omega
          clear hgd ho hfi hl1 hl2 hzz hbd hk HCC HRS
          generalize L[i].step = st at *
          generalize L[i].kind = kd at *
          generalize L[i].n = nn at *
          generalize (⟨L[i].s.toArray⟩ : ByteArray) = ss at *
          generalize (⟨(Fm.put (Tm.put L[i])).toArray⟩ : ByteArray) = Z at *
          go_wp2_with fail
          refine Calls.mono (HFM.out _) ?_
          rintro e w1 ⟨rfl, hb1⟩
          obtain ⟨⟨a0, a1, a2, a3⟩, _⟩ := cell4 rfl (by simpa using hb1)
          have hbA := C.below_chain (hbel.alloc hbel.size (.cells #[.int .i64 st, .int .i64 kd, .int .i64 nn, .string ss] 27)) hb1
          clear hb1 c0 c1 c2 c3 hbel HB
          go_wp2_with fail
          go_ret2
          exact ⟨by rw [HV.out]; rfl, hbA⟩
    · have hlt' : ¬ ((i : Int) < N) := by omega
      have hiN : L.take i = L := List.take_of_length_le (by rw [HN.out]; omega)
      have hdN : L.drop i = [] := List.drop_eq_nil_of_le (by rw [HN.out]; omega)
      have HV : Hid (E = (Tm.rows L, 0)) := (show E = (Tm.rows L, 0) from by rw [← HE.out]; exact enc_yes (by rw [HG.out, hdN]; rfl))
      rw [hiN] at HB
      have HW : Hid (_) := fun W h1 h2 => string_any w.heap.size w.heap.size (Tm.rows L) W h1 h2
      clear hiN hdN HR HN HF HS HLEN HG
      go_wp2_with fail
      refine Calls.mono (HW.out _ HB.out hbel.size) ?_
      rintro e w1 ⟨rfl, hb1⟩
      go_wp2_with fail
      go_ret2
      exact ⟨by rw [HV.out]; rfl, hbel.trans hb1⟩
end Go.Proofs.Ytmjmlccdgdakdaa.T
