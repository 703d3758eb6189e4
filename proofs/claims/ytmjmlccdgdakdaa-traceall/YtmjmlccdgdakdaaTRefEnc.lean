-- PROVED: the reference's 'Encode' (4.2).
import Derived.Test.YtmjmlccdgdakdaaTRefPut
import Derived.Test.YtmjmlccdgdakdaaTAwake
import Derived.Test.YtmjmlccdgdakdaaFRefPutF
import Derived.BigRegion
namespace Go.Proofs.Ytmjmlccdgdakdaa.T
open Go.RowKit
theorem run_fieldT (u : ByteArray) (a b : Int) (W : World) : (Instr.field 32 (.agg #[.string u, .int .i64 a, .int .i64 b]) 0).run Try.prog W = .ok (.string u) W := by
  simp [Instr.field, go_sem, asAgg]
/-- The step ahead. -/
def prev (L : List Tm.Rec) (i : Nat) : Int := if i = 0 then 0 else (L.getD (i - 1) Tm.zero).step
theorem prev_succ (L : List Tm.Rec) (i : Nat) (h : i < L.length) : prev L (i + 1) = L[i].step := by
  unfold prev
  rw [if_neg (by omega)]
  simp [List.getD, List.getElem?_eq_getElem h]
/-- The result's cells. -/
def Res (w : World) (s : ByteArray) (W : World) : Prop :=
  W.cell? ⟨w.heap.size, 0, none⟩ = some (.string s) ∧ W.cell? ⟨w.heap.size, 1, none⟩ = some (.int .i64 0) ∧ W.cell? ⟨w.heap.size, 2, none⟩ = some (.int .i64 0) ∧
  W.frozen? ⟨w.heap.size, 0, none⟩ = false ∧ W.frozen? ⟨w.heap.size, 1, none⟩ = false ∧ W.frozen? ⟨w.heap.size, 2, none⟩ = false ∧ Hid (Below w.heap.size w W) ∧ Hid (w.heap.size < W.heap.size)
theorem Res.go {w W W' : World} {s : ByteArray} (h : Res w s W) (hb : Below W.heap.size W W') : Res w s W' := by
  obtain ⟨h1, h2, h3, g1, g2, g3, h8, h9⟩ := h
  exact ⟨(hb.cell (p := ⟨w.heap.size, 0, none⟩) h9.out).trans h1, (hb.cell (p := ⟨w.heap.size, 1, none⟩) h9.out).trans h2, (hb.cell (p := ⟨w.heap.size, 2, none⟩) h9.out).trans h3,
    (hb.frozen (p := ⟨w.heap.size, 0, none⟩) h9.out).trans g1, (hb.frozen (p := ⟨w.heap.size, 1, none⟩) h9.out).trans g2, (hb.frozen (p := ⟨w.heap.size, 2, none⟩) h9.out).trans g3, C.below_chain h8.out hb, Nat.lt_of_lt_of_le h9.out hb.size⟩
theorem Res.new (w : World) (t : TypeId) : Res w ⟨#[]⟩ (w.alloc (.cells #[.string ⟨#[]⟩, .int .i64 0, .int .i64 0] t)) := by
  refine ⟨?_, ?_, ?_, ?_, ?_, ?_, (Below.refl _ _).alloc (Nat.le_refl _) _, (show w.heap.size < _ from by simp)⟩ <;> simp
theorem said_cells {w w1 : World} {a : ByteArray} {x y : Int} {t : TypeId} (hb : Below (w.alloc (.cells #[.string a, .int .i64 x, .int .i64 y] t)).heap.size (w.alloc (.cells #[.string a, .int .i64 x, .int .i64 y] t)) w1) :
    w1.cell? ⟨w.heap.size, 0, none⟩ = some (.string a) ∧ w1.cell? ⟨w.heap.size, 1, none⟩ = some (.int .i64 x) ∧ w1.cell? ⟨w.heap.size, 2, none⟩ = some (.int .i64 y) := by
  have h : w.heap.size < (w.alloc (.cells #[.string a, .int .i64 x, .int .i64 y] t)).heap.size := by simp
  refine ⟨?_, ?_, ?_⟩ <;> rw [hb.cell h] <;> simp
set_option maxRecDepth 100000 in
set_option maxHeartbeats 4000000 in
theorem renc_any (L : List Tm.Rec) (ad : Option Addr) (cap : Nat) (w : World) (hL : L.length ≤ 1000000) (hf : Tm.fitsAll L) (hs : ∀ r ∈ L, r.s.length ≤ maxLen) (hr : Recs w ad L) :
    Calls Try.prog 17 #[.slice ad L.length cap] w fun e w' => e = .returned (.agg #[.string ⟨(Tm.enc L).1.toArray⟩, .int .i64 0, .int .i64 ((Tm.enc L).2 : Int)]) ∧ Below w.heap.size w w' := by
  have hfld := run_fieldT
  have HF : Hid (Tm.fitsAll L) := hf
  have HS : Hid (∀ r ∈ L, r.s.length ≤ maxLen) := hs
  have HR : Hid (Recs w ad L) := hr
  clear hf hs hr
  generalize hn : L.length = N at hL ⊢
  have HN : Hid (L.length = N) := hn
  clear hn
  generalize hE : Tm.enc L = E
  have HE : Hid (Tm.enc L = E) := hE
  clear hE
  go_enter Try.func17, Try.ntmps17
  go_wp2_with fail
  have HX : Hid (Res w ⟨#[]⟩ (w.alloc (.cells #[.string ⟨#[]⟩, .int .i64 0, .int .i64 0] 32))) := Res.new w 32
  generalize (w.alloc (.cells #[.string ⟨#[]⟩, .int .i64 0, .int .i64 0] 32)) = w0 at *
  go_loopw [3, 4] (fun a c wr => ∃ (i : Nat), i ≤ N ∧ c = .int .i64 (i : Int) ∧ a = .string ⟨(Tm.rows (L.take i)).toArray⟩ ∧ Hid (Res w ⟨#[]⟩ wr) ∧ Hid (Tm.good 0 L = Tm.good (prev L i) (L.drop i)) ∧ Hid ((Tm.rows (L.take i)).length ≤ 4110 * i)) (fun _ c _ => N - (intOf c).toNat)
  case atStart => exact ⟨0, by omega, rfl, by simp [Tm.rows, Fm.puts], HX, (show Tm.good 0 L = Tm.good (prev L 0) (L.drop 0) from by simp [prev]), (show (Tm.rows (L.take 0)).length ≤ 4110 * 0 from by simp [Tm.rows, Fm.puts])⟩
  case round =>
    obtain ⟨i, hi, rfl, rfl, HXW, HG, HLEN⟩ := hrel
    have HBW : Hid (Below w.heap.size w wr) := HXW.out.2.2.2.2.2.2.1
    by_cases hlt : i < N
    · have hiL : i < L.length := by rw [HN.out]; exact hlt
      have hlt' : (i : Int) < N := by omega
      obtain ⟨b, off, rfl, hb, hc⟩ := HR.out.resolve_left (by omega)
      obtain ⟨c0, c1, c2, c3⟩ := hc i hiL
      replace c0 := (HBW.out.cell (p := ⟨b, off + i * 4, none⟩) hb).trans c0
      replace c1 := (HBW.out.cell (p := ⟨b, off + i * 4 + 1, none⟩) hb).trans c1
      replace c2 := (HBW.out.cell (p := ⟨b, off + i * 4 + 2, none⟩) hb).trans c2
      replace c3 := (HBW.out.cell (p := ⟨b, off + i * 4 + 3, none⟩) hb).trans c3
      cases ho : Tm.ok L[i] with
      | false =>
        have HFM : Hid (_) := fun W => rput_no L[i] W (HS.out _ (List.getElem_mem hiL)) ho
        have HV : Hid (E = ([], 1)) := (show E = ([], 1) from by rw [← HE.out]; exact enc_no (by rw [HG.out, good_drop _ L i hiL, ho]; rfl))
        unfold recV at HFM
        clear ho hc
        generalize L[i].step = st at *
        generalize L[i].kind = kd at *
        generalize L[i].n = nn at *
        generalize (⟨L[i].s.toArray⟩ : ByteArray) = ss at *
        generalize (⟨(Tm.rows (L.take i)).toArray⟩ : ByteArray) = Sx at *
        go_wp2_with fail
        refine Calls.mono (HFM.out _) ?_
        rintro e w1 ⟨rfl, hb1⟩
        have HX1 : Hid (Res w ⟨#[]⟩ (w1.alloc (.cells #[.string ⟨#[]⟩, .int .i64 0, .int .i64 1] 32))) := (HXW.out.go hb1).go ((Below.refl _ _).alloc (Nat.le_refl _) _)
        obtain ⟨q0, q1, q2, g0, g1, g2, hbl, hlt2⟩ := HXW.out.go hb1
        have hne : w.heap.size ≠ w1.heap.size := Nat.ne_of_lt hlt2.out
        have hltw : w.heap.size < w1.heap.size := hlt2.out
        clear hb1 c0 c1 c2 c3
        go_wp2_with fail
        refine bodyPost_ret (v := .agg #[.string ⟨#[]⟩, .int .i64 0, .int .i64 1]) (by simp [results, Try.results17, go_sem, q0, q1, q2, hltw]) rfl ⟨by rw [HV.out]; rfl, ?_⟩
        exact (((hbl.out.setCell (p := ⟨w.heap.size, 0, none⟩) (Nat.le_refl _) _).setCell (p := ⟨w.heap.size, 1, none⟩) (Nat.le_refl _) _).setCell (p := ⟨w.heap.size, 2, none⟩) (Nat.le_refl _) _).alloc (by rw [C.setCell_size, C.setCell_size, C.setCell_size]; exact hbl.out.size) _
      | true =>
        have hfi := HF.out _ (List.getElem_mem hiL)
        have HFM : Hid (_) := fun W => rput_ok L[i] W hfi ho
        have hgd := good_drop (prev L i) L i hiL
        rw [ho, Bool.true_and] at hgd
        have hbd := Tm.ok_bd ho
        have hl1 := Tm.ok_len ho
        have hl2 := (Fm.put_bounds (Tm.put L[i])).2
        have HRS : Hid (_) := rows_snoc L i hiL
        have hpE : F.putE (Tm.put L[i]) = (Fm.put (Tm.put L[i]), 0) := by unfold F.putE; rw [if_neg (by omega)]
        have HPF : Hid (_) := fun W => F.rput_any ⟨(Tm.put L[i]).toArray⟩ W
        rw [show (⟨(Tm.put L[i]).toArray⟩ : ByteArray).data.toList = Tm.put L[i] from rfl, hpE] at HPF
        simp only [] at HPF
        have HPS : Hid (prev L (i + 1) = L[i].step) := prev_succ L i hiL
        have hcat : (⟨(Tm.rows (L.take i)).toArray⟩ ++ ⟨(Fm.put (Tm.put L[i])).toArray⟩ : ByteArray) = ⟨(Tm.rows (L.take (i + 1))).toArray⟩ := by rw [F.cat_eq, HRS.out]
        have HCAT : Hid (_) := hcat
        have hz1 : (⟨(Tm.rows (L.take i)).toArray⟩ : ByteArray).size ≤ 4110000000 := by rw [mk_size]; have := HLEN.out; omega
        have hz2 : (⟨(Fm.put (Tm.put L[i])).toArray⟩ : ByteArray).size ≤ 5000 := by rw [mk_size]; omega
        have HLN : Hid ((Tm.rows (L.take (i + 1))).length ≤ 4110 * (i + 1)) := (show (Tm.rows (L.take (i + 1))).length ≤ 4110 * (i + 1) from by rw [HRS.out, List.length_append]; have := HLEN.out; omega)
        unfold recV at HFM
        have hst0 := hbd.1
        clear ho hfi hl1 hl2 hpE hcat hbd
        by_cases hpos : 0 < i
        · obtain ⟨m, rfl⟩ : ∃ m, i = m + 1 := ⟨i - 1, by omega⟩
          have hpos' : (0 : Int) < ((m + 1 : Nat) : Int) := by omega
          have hmL : m < L.length := by omega
          have HPV : Hid (prev L (m + 1) = L[m].step) := prev_succ L m hmL
          obtain ⟨e0, _, _, _⟩ := hc m hmL
          replace e0 := (HBW.out.cell (p := ⟨b, off + m * 4, none⟩) hb).trans e0
          rw [HPV.out] at hgd HG
          have hmN : (m : Int) < N := by omega
          clear hc
          by_cases hk : L[m].step ≤ L[m + 1].step
          · have HGN : Hid (Tm.good 0 L = Tm.good (prev L (m + 1 + 1)) (L.drop (m + 1 + 1))) := (show Tm.good 0 L = Tm.good (prev L (m + 1 + 1)) (L.drop (m + 1 + 1)) from by rw [HG.out, hgd, HPS.out, decide_eq_true hk, Bool.true_and])
            have hk' : ¬ L[m + 1].step < L[m].step := by omega
            clear hk hgd
            generalize hpp : L[m].step = ps at *
            clear hpp
            generalize (⟨L[m + 1].s.toArray⟩ : ByteArray) = ss at *
            generalize (⟨(Tm.put L[m + 1]).toArray⟩ : ByteArray) = P at *
            generalize (⟨(Fm.put (Tm.put L[m + 1])).toArray⟩ : ByteArray) = Z at *
            generalize L[m + 1].step = st at *
            generalize L[m + 1].kind = kd at *
            generalize L[m + 1].n = nn at *
            generalize (⟨(Tm.rows (L.take (m + 1))).toArray⟩ : ByteArray) = Sx at *
            go_wp2_with fail
            refine Calls.mono (HFM.out _) ?_
            rintro e w1 ⟨rfl, hb1⟩
            go_wp2_with fail
            have hbs : Below wr.heap.size wr (w1.alloc (.cells #[.string P, .int .i64 0, .int .i64 0] 32)) := C.below_chain hb1 ((Below.refl _ _).alloc (Nat.le_refl _) _)
            have HX1 : Hid (Res w ⟨#[]⟩ (w1.alloc (.cells #[.string P, .int .i64 0, .int .i64 0] 32))) := HXW.out.go hbs
            obtain ⟨x0, x1, x2⟩ := said_cells (Below.refl (w1.alloc (.cells #[.string P, .int .i64 0, .int .i64 0] 32)).heap.size (w1.alloc (.cells #[.string P, .int .i64 0, .int .i64 0] 32)))
            have hbw : b < wr.heap.size := Nat.lt_of_lt_of_le hb HBW.out.size
            have d0 := (hbs.cell (p := ⟨b, off + (m + 1) * 4, none⟩) hbw).trans c0
            have f0 := (hbs.cell (p := ⟨b, off + m * 4, none⟩) hbw).trans e0
            have hxl : w1.heap.size < (w1.alloc (.cells #[.string P, .int .i64 0, .int .i64 0] 32)).heap.size := by simp
            clear c0 c1 c2 c3 hb1 hbs hbw e0
            generalize w1.alloc (.cells #[.string P, .int .i64 0, .int .i64 0] 32) = w2 at HX1 x0 x1 x2 d0 f0 hxl ⊢
            generalize w1.heap.size = bx at x0 x1 x2 hxl ⊢
            go_region
            go_wp2_with fail
            refine Calls.mono (HPF.out _) ?_
            rintro e w3 ⟨rfl, hb3⟩
            have HX3 : Hid (Res w ⟨#[]⟩ w3) := (HX1.out.go (Below.refl w2.heap.size w2).drew).go hb3
            go_wp2_with fail
            go_roundw
            case rel => exact ⟨m + 1 + 1, by omega, by go_num, by rw [← HCAT.out], HX3, HGN, HLN⟩
            case measure => simp [intOf]; omega
          · have HV : Hid (E = ([], 1)) := (show E = ([], 1) from by rw [← HE.out]; exact enc_no (by rw [HG.out, hgd, decide_eq_false hk]; rfl))
            have hk' : L[m + 1].step < L[m].step := by omega
            clear hk hgd
            generalize hpp : L[m].step = ps at *
            clear hpp
            generalize (⟨L[m + 1].s.toArray⟩ : ByteArray) = ss at *
            generalize (⟨(Tm.put L[m + 1]).toArray⟩ : ByteArray) = P at *
            generalize (⟨(Fm.put (Tm.put L[m + 1])).toArray⟩ : ByteArray) = Z at *
            generalize L[m + 1].step = st at *
            generalize L[m + 1].kind = kd at *
            generalize L[m + 1].n = nn at *
            generalize (⟨(Tm.rows (L.take (m + 1))).toArray⟩ : ByteArray) = Sx at *
            go_wp2_with fail
            refine Calls.mono (HFM.out _) ?_
            rintro e w1 ⟨rfl, hb1⟩
            go_wp2_with fail
            have hbs : Below wr.heap.size wr (w1.alloc (.cells #[.string P, .int .i64 0, .int .i64 0] 32)) := C.below_chain hb1 ((Below.refl _ _).alloc (Nat.le_refl _) _)
            have HX1 : Hid (Res w ⟨#[]⟩ (w1.alloc (.cells #[.string P, .int .i64 0, .int .i64 0] 32))) := HXW.out.go hbs
            obtain ⟨x0, x1, x2⟩ := said_cells (Below.refl (w1.alloc (.cells #[.string P, .int .i64 0, .int .i64 0] 32)).heap.size (w1.alloc (.cells #[.string P, .int .i64 0, .int .i64 0] 32)))
            have hbw : b < wr.heap.size := Nat.lt_of_lt_of_le hb HBW.out.size
            have d0 := (hbs.cell (p := ⟨b, off + (m + 1) * 4, none⟩) hbw).trans c0
            have f0 := (hbs.cell (p := ⟨b, off + m * 4, none⟩) hbw).trans e0
            have hxl : w1.heap.size < (w1.alloc (.cells #[.string P, .int .i64 0, .int .i64 0] 32)).heap.size := by simp
            clear c0 c1 c2 c3 hb1 hbs hbw e0
            generalize w1.alloc (.cells #[.string P, .int .i64 0, .int .i64 0] 32) = w2 at HX1 x0 x1 x2 d0 f0 hxl ⊢
            generalize w1.heap.size = bx at x0 x1 x2 hxl ⊢
            obtain ⟨q0, q1, q2, g0, g1, g2, hbl, hlt2⟩ := HX1.out
            clear HX1
            go_region
            go_wp2_with fail
            refine bodyPost_ret (v := .agg #[.string ⟨#[]⟩, .int .i64 0, .int .i64 1]) (by simp [results, Try.results17, go_sem, q0, q1, q2]) rfl ⟨by rw [HV.out]; rfl, ?_⟩
            repeat (first | exact hbl.out | refine Below.drew ?_ | refine Below.setCell ?_ (by exact Nat.le_refl _) _)
        · have hpos' : ¬ (0 : Int) < (i : Int) := by omega
          have HGN : Hid (Tm.good 0 L = Tm.good (prev L (i + 1)) (L.drop (i + 1))) := (show Tm.good 0 L = Tm.good (prev L (i + 1)) (L.drop (i + 1)) from by rw [HG.out, hgd, HPS.out, decide_eq_true (show prev L i ≤ L[i].step from by rw [show prev L i = 0 from if_pos (by omega)]; exact hst0), Bool.true_and])
          clear hgd hc
          generalize (⟨L[i].s.toArray⟩ : ByteArray) = ss at *
          generalize (⟨(Tm.put L[i]).toArray⟩ : ByteArray) = P at *
          generalize (⟨(Fm.put (Tm.put L[i])).toArray⟩ : ByteArray) = Z at *
          generalize L[i].step = st at *
          generalize L[i].kind = kd at *
          generalize L[i].n = nn at *
          generalize (⟨(Tm.rows (L.take (i))).toArray⟩ : ByteArray) = Sx at *
          go_wp2_with fail
          refine Calls.mono (HFM.out _) ?_
          rintro e w1 ⟨rfl, hb1⟩
          go_wp2_with fail
          have hbs : Below wr.heap.size wr (w1.alloc (.cells #[.string P, .int .i64 0, .int .i64 0] 32)) := C.below_chain hb1 ((Below.refl _ _).alloc (Nat.le_refl _) _)
          have HX1 : Hid (Res w ⟨#[]⟩ (w1.alloc (.cells #[.string P, .int .i64 0, .int .i64 0] 32))) := HXW.out.go hbs
          obtain ⟨x0, x1, x2⟩ := said_cells (Below.refl (w1.alloc (.cells #[.string P, .int .i64 0, .int .i64 0] 32)).heap.size (w1.alloc (.cells #[.string P, .int .i64 0, .int .i64 0] 32)))
          have hbw : b < wr.heap.size := Nat.lt_of_lt_of_le hb HBW.out.size
          have d0 := (hbs.cell (p := ⟨b, off + (i) * 4, none⟩) hbw).trans c0
          have hxl : w1.heap.size < (w1.alloc (.cells #[.string P, .int .i64 0, .int .i64 0] 32)).heap.size := by simp
          clear c0 c1 c2 c3 hb1 hbs hbw 
          generalize w1.alloc (.cells #[.string P, .int .i64 0, .int .i64 0] 32) = w2 at HX1 x0 x1 x2 d0  hxl ⊢
          generalize w1.heap.size = bx at x0 x1 x2 hxl ⊢
          go_region
          go_wp2_with fail
          refine Calls.mono (HPF.out _) ?_
          rintro e w3 ⟨rfl, hb3⟩
          have HX3 : Hid (Res w ⟨#[]⟩ w3) := (HX1.out.go (Below.refl w2.heap.size w2).drew).go hb3
          go_wp2_with fail
          go_roundw
          case rel => exact ⟨i + 1, by omega, by go_num, by rw [← HCAT.out], HX3, HGN, HLN⟩
          case measure => simp [intOf]; omega
    · have hlt' : ¬ ((i : Int) < N) := by omega
      have hiN : L.take i = L := List.take_of_length_le (by rw [HN.out]; omega)
      have hdN : L.drop i = [] := List.drop_eq_nil_of_le (by rw [HN.out]; omega)
      have HV : Hid (E = (Tm.rows L, 0)) := (show E = (Tm.rows L, 0) from by rw [← HE.out]; exact enc_yes (by rw [HG.out, hdN]; rfl))
      rw [hiN]
      obtain ⟨q0, q1, q2, g0, g1, g2, hbl, hlt2⟩ := HXW.out
      generalize hRW : (⟨(Tm.rows L).toArray⟩ : ByteArray) = RW
      have HRW : Hid (_) := hRW
      clear hiN hdN HR HN HF HS HLEN HG hRW
      go_wp2_with fail
      refine bodyPost_ret (v := .agg #[.string RW, .int .i64 0, .int .i64 0]) (by simp [results, Try.results17, go_sem, q0, q1, q2]) rfl ⟨by rw [HV.out, ← HRW.out]; rfl, ?_⟩
      repeat (first | exact hbl.out | refine Below.setCell ?_ (by exact Nat.le_refl _) _)
end Go.Proofs.Ytmjmlccdgdakdaa.T
