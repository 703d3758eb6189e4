-- PROVED: the reference's 'Decode' (4.2).
import Derived.Test.YtmjmlccdgdakdaaTRefGet
import Derived.Test.YtmjmlccdgdakdaaFRefAll2
import Derived.Test.YtmjmlccdgdakdaaTDec
namespace Go.Proofs.Ytmjmlccdgdakdaa.T
open Go.RowKit
/-- What is out so far. B: the block of the rows; behind it that of what is out. -/
structure DW (w1 W : World) (vT vE : Value) (er : Nat) (vL : Value) (us : Nat) (R : List Tm.Rec) : Prop where
  bel : Below w1.heap.size w1 W
  rows : W.heap[w1.heap.size]? = some (.cells #[vT, vE, .int .i64 (er : Int)] 83)
  out : W.heap[w1.heap.size + 1]? = some (.cells #[vL, .int .i64 (us : Int), .int .i64 0] 46)
  own : W.ownsRow (w1.heap.size + 2) 27 4 vL R.length (recCells R)
  size : w1.heap.size + 2 ≤ W.heap.size
theorem DW.go {w1 W W' : World} {vT vE vL : Value} {er us : Nat} {R : List Tm.Rec} (h : DW w1 W vT vE er vL us R) (hb : Below W.heap.size W W') : DW w1 W' vT vE er vL us R :=
  ⟨C.below_chain h.bel hb, F.heap_below h.rows hb, F.heap_below h.out hb, F.own_below h.own hb, Nat.le_trans h.size hb.size⟩
theorem DW.new (w1 : World) (vT vE : Value) (er : Nat) : DW w1 ((w1.alloc (.cells #[vT, vE, .int .i64 (er : Int)] 83)).alloc (.cells #[.slice none 0 0, .int .i64 0, .int .i64 0] 46)) vT vE er (.slice none 0 0) 0 [] :=
  ⟨((Below.refl _ _).alloc (Nat.le_refl _) _).alloc (by simp) _, F.two_first _ _ _, F.two_second _ _ _, World.ownsRow_nil _ _ _ _, by simp⟩
theorem DW.add {w1 W W' : World} {vT vE vL v : Value} {er us u : Nat} {R : List Tm.Rec} {r : Tm.Rec} (h : DW w1 W vT vE er vL us R) (hg : W.grownBy W' vL.ownBlock) (ho : W'.ownsRow (w1.heap.size + 2) 27 4 v (R.length + 1) (recCells (R ++ [r]))) :
    DW w1 ((W'.setCell ⟨w1.heap.size + 1, 0, none⟩ v).setCell ⟨w1.heap.size + 1, 1, none⟩ (.int .i64 (u : Int))) vT vE er v u (R ++ [r]) := by
  have hl := h.own.lt
  have hv := ho.lt
  have hs := h.size
  have hblk : ∀ g, g < w1.heap.size + 2 → W'.heap[g]? = W.heap[g]? := fun g hg1 => hg.block g (by omega) (fun e => by have := (hl g e.symm).1; omega)
  refine ⟨?_, ?_, ?_, ?_, ?_⟩
  · exact ((h.bel.grown hg (by omega) (fun k hk => by have := (hl k hk).1; omega)).setCell (by simp) _).setCell (by simp) _
  · rw [Below.heap_setCell _ _ _ _ (by simp), Below.heap_setCell _ _ _ _ (by simp), hblk _ (by omega)]; exact h.rows
  · have h1 := Lib.heap_setCell_same (w := W') (b := w1.heap.size + 1) (i := 0) ((hblk _ (by omega)).trans h.out) v
    have h2 := Lib.heap_setCell_same (w := W'.setCell ⟨w1.heap.size + 1, 0, none⟩ v) (b := w1.heap.size + 1) (i := 1) h1 (.int .i64 (u : Int))
    rw [h2]; rfl
  · rw [List.length_append]
    exact F.own_set (F.own_set ho _ _ (fun g hg => by have := (hv g hg).1; simp; omega)) _ _ (fun g hg => by have := (hv g hg).1; simp; omega)
  · have := hg.size
    simp [World.setCell]
    omega
theorem DW.after {w1 W W' : World} {vT vE vL : Value} {er us : Nat} {R : List Tm.Rec} (h : DW w1 W vT vE er vL us R) (hg : W.grownBy W' vL.ownBlock) (v : Value) :
    (W'.setCell ⟨w1.heap.size + 1, 0, none⟩ v).heap[w1.heap.size]? = some (.cells #[vT, vE, .int .i64 (er : Int)] 83) ∧ W'.heap[w1.heap.size + 1]? = some (.cells #[vL, .int .i64 (us : Int), .int .i64 0] 46) := by
  have hl := h.own.lt
  have hs := h.size
  have hblk : ∀ g, g < w1.heap.size + 2 → W'.heap[g]? = W.heap[g]? := fun g hg1 => hg.block g (by omega) (fun e => by have := (hl g e.symm).1; omega)
  exact ⟨by rw [Below.heap_setCell _ _ _ _ (by simp), hblk _ (by omega)]; exact h.rows, (hblk _ (by omega)).trans h.out⟩
theorem DW.fin {w w1 W : World} {vT vE vL : Value} {er us : Nat} {R : List Tm.Rec} (h : DW w1 W vT vE er vL us R) (hB : Below w.heap.size w w1) (x a b c : Value) :
    ((((W.setCell ⟨w1.heap.size + 1, 2, none⟩ x).setCell ⟨w.heap.size, 0, none⟩ a).setCell ⟨w.heap.size, 1, none⟩ b).setCell ⟨w.heap.size, 2, none⟩ c).ownsRow w.heap.size 27 4 vL R.length (recCells R) ∧
    Below w.heap.size w ((((W.setCell ⟨w1.heap.size + 1, 2, none⟩ x).setCell ⟨w.heap.size, 0, none⟩ a).setCell ⟨w.heap.size, 1, none⟩ b).setCell ⟨w.heap.size, 2, none⟩ c) := by
  have hl := h.own.lt
  have hs := hB.size
  refine ⟨own_low (base := w1.heap.size + 2) (F.own_set (F.own_set (F.own_set (F.own_set h.own _ _ ?_) _ _ ?_) _ _ ?_) _ _ ?_) (by omega), ?_⟩
  · intro g hg; have := (hl g hg).1; simp; omega
  · intro g hg; have := (hl g hg).1; simp; omega
  · intro g hg; have := (hl g hg).1; simp; omega
  · intro g hg; have := (hl g hg).1; simp; omega
  · exact ((((C.below_chain hB h.bel).setCell (by simp; omega) _).setCell (by simp) _).setCell (by simp) _).setCell (by simp) _
theorem ends_at {w1 : World} {base N cE i u : Nat} {aE : Option Addr} {E : List Nat} (h : w1.ownsRow base 3 1 (.slice aE N cE) N (F.ints E)) (hi : i < N) (hM : E[i]? = some u) :
    ∃ g, aE = some ⟨g, 0, none⟩ ∧ g < w1.heap.size ∧ w1.cell? ⟨g, i, none⟩ = some (.int .i64 (u : Int)) := by
  obtain ⟨g, cap, he, _, _, hg, hc⟩ := F.own_some h (by omega)
  injection he with h1 _ _
  exact ⟨g, h1, hg, hc i _ (by unfold F.ints; rw [List.getElem?_map, hM]; rfl)⟩
theorem x_cells {W w1 : World} {a b c e : Int} {s : ByteArray} {t : TypeId} (hb : Below (W.alloc (.cells #[.int .i64 a, .int .i64 b, .int .i64 c, .string s, .int .i64 e] t)).heap.size (W.alloc (.cells #[.int .i64 a, .int .i64 b, .int .i64 c, .string s, .int .i64 e] t)) w1) :
    w1.cell? ⟨W.heap.size, 0, none⟩ = some (.int .i64 a) ∧ w1.cell? ⟨W.heap.size, 1, none⟩ = some (.int .i64 b) ∧ w1.cell? ⟨W.heap.size, 2, none⟩ = some (.int .i64 c) ∧ w1.cell? ⟨W.heap.size, 3, none⟩ = some (.string s) ∧ w1.cell? ⟨W.heap.size, 4, none⟩ = some (.int .i64 e) := by
  have h : W.heap.size < (W.alloc (.cells #[.int .i64 a, .int .i64 b, .int .i64 c, .string s, .int .i64 e] t)).heap.size := by simp
  refine ⟨?_, ?_, ?_, ?_, ?_⟩ <;> rw [hb.cell h] <;> simp
theorem four_newD (W : World) (x y z u : Value) (t : TypeId) (n : Nat) (hn : n = W.heap.size) : ∀ j v, [x, y, z, u][j]? = some v → (W.alloc (.cells #[x, y, z, u] t)).cell? ((⟨n, 0, none⟩ : Addr).add j) = some v := by
  subst hn
  intro j v hj
  rw [Go.WideShapes.add_plain]
  simp only [World.cell?, heap_alloc_new]
  match j, hj with
  | 0, hj => simpa using hj
  | 1, hj => simpa using hj
  | 2, hj => simpa using hj
  | 3, hj => simpa using hj
/-- The step ahead. -/
def lastOf (R : List Tm.Rec) : Int := if R.length = 0 then 0 else (R.getD (R.length - 1) Tm.zero).step
theorem lastOf_snoc (R : List Tm.Rec) (r : Tm.Rec) : lastOf (R ++ [r]) = r.step := by
  unfold lastOf
  rw [if_neg (by simp)]
  simp [List.getD]
set_option maxRecDepth 100000 in
set_option maxHeartbeats 4000000 in
theorem rdec_any (s : ByteArray) (w : World) (hs : s.size ≤ 1000000) :
    Calls Try.prog 19 #[.string s] w fun e w' => ∃ v, e = .returned (.agg #[v, .int .i64 ((Tm.decode s.data.toList).2.1 : Int), .int .i64 ((Tm.decode s.data.toList).2.2 : Int)]) ∧
      w'.ownsRow w.heap.size 27 4 v (Tm.decode s.data.toList).1.length (recCells (Tm.decode s.data.toList).1) ∧ Below w.heap.size w w' := by
  obtain ⟨i0, hi0, hz0, hz1, hz2⟩ := info_parts infoRec
  have HA : Hid (_) := fun W => F.rall_any s W hs
  have hlen := Fm.all_length s.data.toList
  have H4 : Hid (_) := Fm.all_texts s.data.toList
  have HUS : Hid (_) := Fm.all_used s.data.toList
  rw [V.size_list] at hlen
  generalize hD : Tm.decode s.data.toList = D
  have HD : Hid (_) := hD
  clear hD
  unfold Tm.decode at HD
  generalize Fm.all s.data.toList = A at *
  obtain ⟨L, us, er⟩ := A
  simp only [] at HA HD H4 hlen HUS
  go_enter Try.func19, Try.ntmps19
  go_wp2_with fail
  refine Calls.mono (HA.out _) ?_
  rintro e w1 ⟨vT, vE, E, rfl, hEl, hownT, hownE, hMk, hb1⟩
  obtain ⟨aT, cT, rfl, hcT, hliesT⟩ := Lies.own hownT
  obtain ⟨aE, cE, rfl⟩ := own_form hownE
  have HLT : Hid (Lies w1 aT L) := hliesT
  have HME : Hid (F.Marks E L us) := hMk
  have HOE : Hid (w1.ownsRow (w.alloc (.cells #[.slice none 0 0, .int .i64 0, .int .i64 0] 46)).heap.size 3 1 (.slice aE E.length cE) E.length (F.ints E)) := hownE
  have HRES : Hid (w1.heap[w.heap.size]? = some (.cells #[.slice none 0 0, .int .i64 0, .int .i64 0] 46)) := F.heap_below (F.last_obj w _) hb1
  have HB1 : Hid (Below w.heap.size w w1) := C.below_chain ((Below.refl _ _).alloc (Nat.le_refl _) _) hb1
  have hEL := hMk.1
  clear hownT hownE hliesT hMk hb1 HA
  rw [hEL] at HOE ⊢
  have HDW : Hid (DW w1 ((w1.alloc (.cells #[.slice aT L.length cT, .slice aE L.length cE, .int .i64 (er : Int)] 83)).alloc (.cells #[.slice none 0 0, .int .i64 0, .int .i64 0] 46)) (.slice aT L.length cT) (.slice aE L.length cE) er (.slice none 0 0) 0 []) := DW.new w1 _ _ er
  generalize hN : L.length = N at hlen hcT HOE HDW ⊢
  have HN : Hid (L.length = N) := hN
  clear hN hEL
  go_wp2_with fail
  generalize (w1.alloc (.cells #[.slice aT N cT, .slice aE N cE, .int .i64 (er : Int)] 83)).alloc (.cells #[.slice none 0 0, .int .i64 0, .int .i64 0] 46) = w0 at HDW ⊢
  go_loopw [5] (fun c wr => ∃ (i : Nat) (R : List Tm.Rec) (vL : Value), i ≤ N ∧ c = .int .i64 (i : Int) ∧ Hid (R.length = i) ∧ Hid (DW w1 wr (.slice aT N cT) (.slice aE N cE) er vL (Fm.puts (L.take i)).length R) ∧ Hid (Tm.dec 0 L = (R ++ (Tm.dec (lastOf R) (L.drop i)).1, (Tm.dec (lastOf R) (L.drop i)).2))) (fun c _ => N - (intOf c).toNat)
  case atStart => exact ⟨0, [], .slice none 0 0, by omega, rfl, (show ([] : List Tm.Rec).length = 0 from rfl), (show DW w1 w0 (.slice aT N cT) (.slice aE N cE) er (.slice none 0 0) (Fm.puts (L.take 0)).length [] from by simpa [Fm.puts] using HDW.out), (show Tm.dec 0 L = ([] ++ (Tm.dec (lastOf []) (L.drop 0)).1, (Tm.dec (lastOf []) (L.drop 0)).2) from by simp [lastOf])⟩
  case round =>
    obtain ⟨i, R, vL, hi, rfl, HRL, HW, HDC⟩ := hrel
    clear HDW
    obtain ⟨a0, a1, a2, _, _, _, la⟩ := F.blk3 HW.out.rows
    by_cases hlt : i < N
    · have hlt' : (i : Int) < N := by omega
      have hiL : i < L.length := by rw [HN.out]; exact hlt
      obtain ⟨b, off, rfl, hb, hc⟩ := HLT.out.resolve_left (by omega)
      have hcell := (HW.out.bel.cell (p := ⟨b, off + i, none⟩) hb).trans (hc i hiL)
      have hle := H4.out L[i] (List.getElem_mem hiL)
      have hsz : (⟨L[i].toArray⟩ : ByteArray).size ≤ 1000000 := by rw [mk_size]; omega
      have hdd := dec_drop (lastOf R) L i hiL
      obtain ⟨av, cv, rfl⟩ := own_form HW.out.own
      clear hc
      cases his : Tm.is L[i] with
      | false =>
        have hnx : Tm.next (lastOf R) L[i] = false := by unfold Tm.next; rw [his]; rfl
        rw [hnx, if_neg (by decide)] at hdd
        have HV : Hid (D = (R, (Fm.puts (L.take i)).length, 4)) := (show D = (R, (Fm.puts (L.take i)).length, 4) from by rw [← HD.out, HDC.out, hdd]; simp [HRL.out])
        have HG : Hid (_) := fun W => rget_no ⟨L[i].toArray⟩ W hsz (by rw [show (⟨L[i].toArray⟩ : ByteArray).data.toList = L[i] from rfl]; exact his)
        clear hnx hdd his hle hsz
        generalize (⟨L[i].toArray⟩ : ByteArray) = Y at *
        go_wp2_with fail
        refine Calls.mono (HG.out _) ?_
        rintro e w2 ⟨rfl, hb2⟩
        have hW3 := (HW.out.go hb2).go ((Below.refl w2.heap.size w2).alloc (Nat.le_refl _) (.cells #[.int .i64 0, .int .i64 0, .int .i64 0, .string ⟨#[]⟩, .int .i64 4] 39))
        obtain ⟨x0, x1, x2, x3, x4⟩ := x_cells (Below.refl (w2.alloc (.cells #[.int .i64 0, .int .i64 0, .int .i64 0, .string ⟨#[]⟩, .int .i64 4] 39)).heap.size (w2.alloc (.cells #[.int .i64 0, .int .i64 0, .int .i64 0, .string ⟨#[]⟩, .int .i64 4] 39)))
        obtain ⟨b0, b1, b2, g0, g1, g2, lb⟩ := F.blk3 hW3.out
        obtain ⟨r0, r1, r2, f0, f1, f2, lr⟩ := F.blk3 (F.heap_below HRES.out hW3.bel)
        have hneR : w.heap.size ≠ w1.heap.size + 1 := by have := HB1.out.size; omega
        have HW3 : Hid (DW w1 (w2.alloc (.cells #[.int .i64 0, .int .i64 0, .int .i64 0, .string ⟨#[]⟩, .int .i64 4] 39)) (.slice (some ⟨b, off, none⟩) N cT) (.slice aE N cE) er (.slice av R.length cv) (Fm.puts (L.take i)).length R) := hW3
        clear hb2 hW3 a0 a1 a2 la hcell
        go_wp2_with fail
        generalize w2.alloc (.cells #[.int .i64 0, .int .i64 0, .int .i64 0, .string ⟨#[]⟩, .int .i64 4] 39) = w3 at *
        generalize w2.heap.size = bx at *
        go_region
        go_wp2_with fail
        refine bodyPost_ret (v := .agg #[.slice av R.length cv, .int .i64 ((Fm.puts (L.take i)).length : Int), .int .i64 4]) (by simp [results, Try.results19, go_sem, r0, r1, r2]) rfl ⟨_, by rw [HV.out]; rfl, ?_⟩
        have hf := (HW3.out.go (Below.refl w3.heap.size w3).drew).fin HB1.out (.int .i64 4) (.slice av R.length cv) (.int .i64 ((Fm.puts (L.take i)).length : Int)) (.int .i64 4)
        rw [HV.out]
        exact hf
      | true =>
        by_cases hpos : 0 < i
        · obtain ⟨m, rfl⟩ : ∃ m, i = m + 1 := ⟨i - 1, by omega⟩
          have hpos' : (0 : Int) < ((m + 1 : Nat) : Int) := by omega
          have hmR : m < R.length := by rw [HRL.out]; omega
          have hmR' : (m : Int) < R.length := by omega
          have hlast : lastOf R = R[m].step := by
            unfold lastOf
            rw [if_neg (by omega), HRL.out]
            simp [List.getD, List.getElem?_eq_getElem hmR]
          rw [hlast] at hdd
          by_cases hk : R[m].step ≤ (Tm.got L[m + 1]).step
          · have hnx : Tm.next R[m].step L[m + 1] = true := by unfold Tm.next; rw [his]; simp; exact hk
            rw [hnx, if_pos rfl] at hdd
            have HNX : Hid (Tm.dec 0 L = ((R ++ [Tm.got L[m + 1]]) ++ (Tm.dec (Tm.got L[m + 1]).step (L.drop (m + 1 + 1))).1, (Tm.dec (Tm.got L[m + 1]).step (L.drop (m + 1 + 1))).2)) := (show Tm.dec 0 L = ((R ++ [Tm.got L[m + 1]]) ++ (Tm.dec (Tm.got L[m + 1]).step (L.drop (m + 1 + 1))).1, (Tm.dec (Tm.got L[m + 1]).step (L.drop (m + 1 + 1))).2) from by rw [HDC.out, hlast, hdd]; simp)
            have hk' : ¬ (Tm.got L[m + 1]).step < R[m].step := by omega
            clear hnx hk hlast
            have HG : Hid (_) := fun W => rget_yes ⟨L[m + 1].toArray⟩ W hsz (by rw [show (⟨L[m + 1].toArray⟩ : ByteArray).data.toList = L[m + 1] from rfl]; exact his)
            rw [show (⟨L[m + 1].toArray⟩ : ByteArray).data.toList = L[m + 1] from rfl] at HG
            have HSN : Hid (_) := recCells_snoc R (Tm.got L[m + 1])
            clear hdd his hle hsz
            generalize (⟨L[m + 1].toArray⟩ : ByteArray) = Y at *
            generalize hgg : Tm.got L[m + 1] = gg at *
            clear hgg
            generalize gg.kind = kd at *
            generalize gg.n = nn at *
            generalize (⟨gg.s.toArray⟩ : ByteArray) = ss at *
            generalize hst : gg.step = st at *
            go_wp2_with fail
            refine Calls.mono (HG.out _) ?_
            rintro e w2 ⟨rfl, hb2⟩
            have hW3 := (HW.out.go hb2).go ((Below.refl w2.heap.size w2).alloc (Nat.le_refl _) (.cells #[.int .i64 st, .int .i64 kd, .int .i64 nn, .string ss, .int .i64 0] 39))
            obtain ⟨x0, x1, x2, x3, x4⟩ := x_cells (Below.refl (w2.alloc (.cells #[.int .i64 st, .int .i64 kd, .int .i64 nn, .string ss, .int .i64 0] 39)).heap.size (w2.alloc (.cells #[.int .i64 st, .int .i64 kd, .int .i64 nn, .string ss, .int .i64 0] 39)))
            obtain ⟨b0, b1, b2, g0, g1, g2, lb⟩ := F.blk3 hW3.out
            obtain ⟨r0, r1, r2, f0, f1, f2, lr⟩ := F.blk3 (F.heap_below HRES.out hW3.bel)
            have hneR : w.heap.size ≠ w1.heap.size + 1 := by have := HB1.out.size; omega
            have hxl : w2.heap.size < (w2.alloc (.cells #[.int .i64 st, .int .i64 kd, .int .i64 nn, .string ss, .int .i64 0] 39)).heap.size := by simp
            have HW3 : Hid (DW w1 (w2.alloc (.cells #[.int .i64 st, .int .i64 kd, .int .i64 nn, .string ss, .int .i64 0] 39)) (.slice (some ⟨b, off, none⟩) N cT) (.slice aE N cE) er (.slice av R.length cv) (Fm.puts (L.take (m + 1))).length R) := hW3
            obtain ⟨ad5, cap5, he5, _, hR5⟩ := Recs.own HW3.out.own
            injection he5 with he6 _ he7
            subst he6
            subst he7
            obtain ⟨b5, o5, rfl, lb5, hc5⟩ := hR5.resolve_left (by omega)
            have hps := (hc5 m hmR).1
            generalize R[m].step = ps at *
            clear hc5 hR5
            clear hb2 hW3 a0 a1 a2 la hcell
            go_wp2_with fail
            generalize w2.alloc (.cells #[.int .i64 st, .int .i64 kd, .int .i64 nn, .string ss, .int .i64 0] 39) = w3 at *
            generalize w2.heap.size = bx at *
            go_region
            have HWD : Hid (DW w1 w3.drew (.slice (some ⟨b, off, none⟩) N cT) (.slice aE N cE) er (.slice (some ⟨b5, o5, none⟩) R.length cv) (Fm.puts (L.take (m + 1))).length R) := HW3.out.go (Below.refl w3.heap.size w3).drew
            have hWA := HWD.out.go ((Below.refl w3.drew.heap.size w3.drew).alloc (Nat.le_refl _) (.cells #[.int .i64 st, .int .i64 kd, .int .i64 nn, .string ss] 27))
            have HWA : Hid (DW w1 (w3.drew.alloc (.cells #[.int .i64 st, .int .i64 kd, .int .i64 nn, .string ss] 27)) (.slice (some ⟨b, off, none⟩) N cT) (.slice aE N cE) er (.slice (some ⟨b5, o5, none⟩) R.length cv) (Fm.puts (L.take (m + 1))).length R) := hWA
            obtain ⟨ge, rfl, hge, hce⟩ := ends_at HOE.out hlt (HME.out.2.1 _ hiL)
            clear hWA
            go_wp2_with (at_builtin; refine wpList_append_own _ rfl _ _ 22 rfl (w1.heap.size + 2) 27 i0 (.agg #[.int .i64 0, .int .i64 0, .int .i64 0, .string ⟨#[]⟩]) 4 40 Try.underlying22 hi0 hz0 hz1 hz2 rfl (by decide) _ _ _ rfl HWA.out.own ⟨_, 0, none⟩ 1 1 [.int .i64 st, .int .i64 kd, .int .i64 nn, .string ss] rfl rfl (four_newD _ _ _ _ _ _ _ rfl) (by intro u hu; simp at hu; rcases hu with rfl | rfl | rfl | rfl <;> rfl) (by rw [HRL.out]; unfold maxLen; omega) (by rw [HRL.out]; omega) (by exact HWA.out.size) ?_; intro v2 w4 hown2 hgrow2 _; rw [HSN.out] at hown2; obtain ⟨k0, k1, k2, q0, q1, q2, lk⟩ := F.blk3 (HWA.out.after hgrow2 v2).2; obtain ⟨p0, p1, p2, _, _, _, lp⟩ := F.blk3 (HWA.out.after hgrow2 v2).1; have HNW : Hid (_) := DW.add (u := Fm.fin L (m + 1)) HWA.out hgrow2 hown2; have hcE := ((HWA.out.bel.grown hgrow2 (Nat.le_trans (by omega) HWA.out.size) (fun k hk => by have := (HWA.out.own.lt k hk).1; omega)).setCell (p := ⟨w1.heap.size + 1, 0, none⟩) (by simp) v2).cell (p := ⟨ge, m + 1, none⟩) hge; rw [hce] at hcE; obtain ⟨av2, cv2, rfl⟩ := own_form hown2; clear hgrow2 b0 b1 b2 g0 g1 g2 x0 x1 x2 x3 x4)
            go_roundw
            case rel => exact ⟨m + 1 + 1, R ++ [gg], _, by omega, by go_num, (show (R ++ [gg]).length = m + 1 + 1 from by simp [HRL.out]), HNW, (show Tm.dec 0 L = ((R ++ [gg]) ++ (Tm.dec (lastOf (R ++ [gg])) (L.drop (m + 1 + 1))).1, (Tm.dec (lastOf (R ++ [gg])) (L.drop (m + 1 + 1))).2) from by rw [lastOf_snoc, hst]; exact HNX.out)⟩
            case measure => simp [intOf]; omega
          · have hnx : Tm.next R[m].step L[m + 1] = false := by unfold Tm.next; rw [his]; simp; omega
            rw [hnx, if_neg (by decide)] at hdd
            have HV : Hid (D = (R, (Fm.puts (L.take (m + 1))).length, 4)) := (show D = (R, (Fm.puts (L.take (m + 1))).length, 4) from by rw [← HD.out, HDC.out, hlast, hdd]; simp [HRL.out])
            have hk' : (Tm.got L[m + 1]).step < R[m].step := by omega
            clear hnx hk hlast
            have HG : Hid (_) := fun W => rget_yes ⟨L[m + 1].toArray⟩ W hsz (by rw [show (⟨L[m + 1].toArray⟩ : ByteArray).data.toList = L[m + 1] from rfl]; exact his)
            rw [show (⟨L[m + 1].toArray⟩ : ByteArray).data.toList = L[m + 1] from rfl] at HG
            have HSN : Hid (_) := recCells_snoc R (Tm.got L[m + 1])
            clear hdd his hle hsz
            generalize (⟨L[m + 1].toArray⟩ : ByteArray) = Y at *
            generalize hgg : Tm.got L[m + 1] = gg at *
            clear hgg
            generalize gg.kind = kd at *
            generalize gg.n = nn at *
            generalize (⟨gg.s.toArray⟩ : ByteArray) = ss at *
            generalize hst : gg.step = st at *
            go_wp2_with fail
            refine Calls.mono (HG.out _) ?_
            rintro e w2 ⟨rfl, hb2⟩
            have hW3 := (HW.out.go hb2).go ((Below.refl w2.heap.size w2).alloc (Nat.le_refl _) (.cells #[.int .i64 st, .int .i64 kd, .int .i64 nn, .string ss, .int .i64 0] 39))
            obtain ⟨x0, x1, x2, x3, x4⟩ := x_cells (Below.refl (w2.alloc (.cells #[.int .i64 st, .int .i64 kd, .int .i64 nn, .string ss, .int .i64 0] 39)).heap.size (w2.alloc (.cells #[.int .i64 st, .int .i64 kd, .int .i64 nn, .string ss, .int .i64 0] 39)))
            obtain ⟨b0, b1, b2, g0, g1, g2, lb⟩ := F.blk3 hW3.out
            obtain ⟨r0, r1, r2, f0, f1, f2, lr⟩ := F.blk3 (F.heap_below HRES.out hW3.bel)
            have hneR : w.heap.size ≠ w1.heap.size + 1 := by have := HB1.out.size; omega
            have hxl : w2.heap.size < (w2.alloc (.cells #[.int .i64 st, .int .i64 kd, .int .i64 nn, .string ss, .int .i64 0] 39)).heap.size := by simp
            have HW3 : Hid (DW w1 (w2.alloc (.cells #[.int .i64 st, .int .i64 kd, .int .i64 nn, .string ss, .int .i64 0] 39)) (.slice (some ⟨b, off, none⟩) N cT) (.slice aE N cE) er (.slice av R.length cv) (Fm.puts (L.take (m + 1))).length R) := hW3
            obtain ⟨ad5, cap5, he5, _, hR5⟩ := Recs.own HW3.out.own
            injection he5 with he6 _ he7
            subst he6
            subst he7
            obtain ⟨b5, o5, rfl, lb5, hc5⟩ := hR5.resolve_left (by omega)
            have hps := (hc5 m hmR).1
            generalize R[m].step = ps at *
            clear hc5 hR5
            clear hb2 hW3 a0 a1 a2 la hcell
            go_wp2_with fail
            generalize w2.alloc (.cells #[.int .i64 st, .int .i64 kd, .int .i64 nn, .string ss, .int .i64 0] 39) = w3 at *
            generalize w2.heap.size = bx at *
            go_region
            go_wp2_with fail
            refine bodyPost_ret (v := .agg #[.slice (some ⟨b5, o5, none⟩) R.length cv, .int .i64 ((Fm.puts (L.take (m + 1))).length : Int), .int .i64 4]) (by simp [results, Try.results19, go_sem, r0, r1, r2]) rfl ⟨_, by rw [HV.out]; rfl, ?_⟩
            have hf := (HW3.out.go (Below.refl w3.heap.size w3).drew).fin HB1.out (.int .i64 4) (.slice (some ⟨b5, o5, none⟩) R.length cv) (.int .i64 ((Fm.puts (L.take (m + 1))).length : Int)) (.int .i64 4)
            rw [HV.out]
            exact hf
        · have hpos' : ¬ (0 : Int) < (i : Int) := by omega
          have hnx : Tm.next (lastOf R) L[i] = true := by
            have hok := Tm.ok_bd (Tm.is_ok his).1
            unfold Tm.next
            rw [his, show lastOf R = 0 from if_pos (by rw [HRL.out]; omega)]
            simp; omega
          rw [hnx, if_pos rfl] at hdd
          have HNX : Hid (Tm.dec 0 L = ((R ++ [Tm.got L[i]]) ++ (Tm.dec (Tm.got L[i]).step (L.drop (i + 1))).1, (Tm.dec (Tm.got L[i]).step (L.drop (i + 1))).2)) := (show Tm.dec 0 L = ((R ++ [Tm.got L[i]]) ++ (Tm.dec (Tm.got L[i]).step (L.drop (i + 1))).1, (Tm.dec (Tm.got L[i]).step (L.drop (i + 1))).2) from by rw [HDC.out, hdd]; simp)
          clear hnx
          have HG : Hid (_) := fun W => rget_yes ⟨L[i].toArray⟩ W hsz (by rw [show (⟨L[i].toArray⟩ : ByteArray).data.toList = L[i] from rfl]; exact his)
          rw [show (⟨L[i].toArray⟩ : ByteArray).data.toList = L[i] from rfl] at HG
          have HSN : Hid (_) := recCells_snoc R (Tm.got L[i])
          clear hdd his hle hsz
          generalize (⟨L[i].toArray⟩ : ByteArray) = Y at *
          generalize hgg : Tm.got L[i] = gg at *
          clear hgg
          generalize gg.kind = kd at *
          generalize gg.n = nn at *
          generalize (⟨gg.s.toArray⟩ : ByteArray) = ss at *
          generalize hst : gg.step = st at *
          go_wp2_with fail
          refine Calls.mono (HG.out _) ?_
          rintro e w2 ⟨rfl, hb2⟩
          have hW3 := (HW.out.go hb2).go ((Below.refl w2.heap.size w2).alloc (Nat.le_refl _) (.cells #[.int .i64 st, .int .i64 kd, .int .i64 nn, .string ss, .int .i64 0] 39))
          obtain ⟨x0, x1, x2, x3, x4⟩ := x_cells (Below.refl (w2.alloc (.cells #[.int .i64 st, .int .i64 kd, .int .i64 nn, .string ss, .int .i64 0] 39)).heap.size (w2.alloc (.cells #[.int .i64 st, .int .i64 kd, .int .i64 nn, .string ss, .int .i64 0] 39)))
          obtain ⟨b0, b1, b2, g0, g1, g2, lb⟩ := F.blk3 hW3.out
          obtain ⟨r0, r1, r2, f0, f1, f2, lr⟩ := F.blk3 (F.heap_below HRES.out hW3.bel)
          have hneR : w.heap.size ≠ w1.heap.size + 1 := by have := HB1.out.size; omega
          have hxl : w2.heap.size < (w2.alloc (.cells #[.int .i64 st, .int .i64 kd, .int .i64 nn, .string ss, .int .i64 0] 39)).heap.size := by simp
          have HW3 : Hid (DW w1 (w2.alloc (.cells #[.int .i64 st, .int .i64 kd, .int .i64 nn, .string ss, .int .i64 0] 39)) (.slice (some ⟨b, off, none⟩) N cT) (.slice aE N cE) er (.slice av R.length cv) (Fm.puts (L.take (i))).length R) := hW3
          clear hb2 hW3 a0 a1 a2 la hcell
          go_wp2_with fail
          generalize w2.alloc (.cells #[.int .i64 st, .int .i64 kd, .int .i64 nn, .string ss, .int .i64 0] 39) = w3 at *
          generalize w2.heap.size = bx at *
          go_region
          have HWD : Hid (DW w1 w3.drew (.slice (some ⟨b, off, none⟩) N cT) (.slice aE N cE) er (.slice av R.length cv) (Fm.puts (L.take (i))).length R) := HW3.out.go (Below.refl w3.heap.size w3).drew
          have hWA := HWD.out.go ((Below.refl w3.drew.heap.size w3.drew).alloc (Nat.le_refl _) (.cells #[.int .i64 st, .int .i64 kd, .int .i64 nn, .string ss] 27))
          have HWA : Hid (DW w1 (w3.drew.alloc (.cells #[.int .i64 st, .int .i64 kd, .int .i64 nn, .string ss] 27)) (.slice (some ⟨b, off, none⟩) N cT) (.slice aE N cE) er (.slice av R.length cv) (Fm.puts (L.take (i))).length R) := hWA
          obtain ⟨ge, rfl, hge, hce⟩ := ends_at HOE.out hlt (HME.out.2.1 _ hiL)
          clear hWA
          go_wp2_with (at_builtin; refine wpList_append_own _ rfl _ _ 22 rfl (w1.heap.size + 2) 27 i0 (.agg #[.int .i64 0, .int .i64 0, .int .i64 0, .string ⟨#[]⟩]) 4 40 Try.underlying22 hi0 hz0 hz1 hz2 rfl (by decide) _ _ _ rfl HWA.out.own ⟨_, 0, none⟩ 1 1 [.int .i64 st, .int .i64 kd, .int .i64 nn, .string ss] rfl rfl (four_newD _ _ _ _ _ _ _ rfl) (by intro u hu; simp at hu; rcases hu with rfl | rfl | rfl | rfl <;> rfl) (by rw [HRL.out]; unfold maxLen; omega) (by rw [HRL.out]; omega) (by exact HWA.out.size) ?_; intro v2 w4 hown2 hgrow2 _; rw [HSN.out] at hown2; obtain ⟨k0, k1, k2, q0, q1, q2, lk⟩ := F.blk3 (HWA.out.after hgrow2 v2).2; obtain ⟨p0, p1, p2, _, _, _, lp⟩ := F.blk3 (HWA.out.after hgrow2 v2).1; have HNW : Hid (_) := DW.add (u := Fm.fin L (i)) HWA.out hgrow2 hown2; have hcE := ((HWA.out.bel.grown hgrow2 (Nat.le_trans (by omega) HWA.out.size) (fun k hk => by have := (HWA.out.own.lt k hk).1; omega)).setCell (p := ⟨w1.heap.size + 1, 0, none⟩) (by simp) v2).cell (p := ⟨ge, i, none⟩) hge; rw [hce] at hcE; obtain ⟨av2, cv2, rfl⟩ := own_form hown2; clear hgrow2 b0 b1 b2 g0 g1 g2 x0 x1 x2 x3 x4)
          go_roundw
          case rel => exact ⟨i + 1, R ++ [gg], _, by omega, by go_num, (show (R ++ [gg]).length = i + 1 from by simp [HRL.out]), HNW, (show Tm.dec 0 L = ((R ++ [gg]) ++ (Tm.dec (lastOf (R ++ [gg])) (L.drop (i + 1))).1, (Tm.dec (lastOf (R ++ [gg])) (L.drop (i + 1))).2) from by rw [lastOf_snoc, hst]; exact HNX.out)⟩
          case measure => simp [intOf]; omega
    · have hlt' : ¬ ((i : Int) < N) := by omega
      have hdN : L.drop i = [] := List.drop_eq_nil_of_le (by rw [HN.out]; omega)
      have hiN : L.take i = L := List.take_of_length_le (by rw [HN.out]; omega)
      have HV : Hid (D = (R, us, er)) := (show D = (R, us, er) from by rw [← HD.out, HDC.out, hdN]; simp [Tm.dec])
      obtain ⟨b0, b1, b2, g0, g1, g2, lb⟩ := F.blk3 HW.out.out
      rw [hiN, ← HUS.out] at b1
      obtain ⟨r0, r1, r2, f0, f1, f2, lr⟩ := F.blk3 (F.heap_below HRES.out HW.out.bel)
      have hneR : w.heap.size ≠ w1.heap.size + 1 := by have := HB1.out.size; omega
      obtain ⟨av, cv, rfl⟩ := own_form HW.out.own
      clear hdN hiN
      go_wp2_with fail
      refine bodyPost_ret (v := .agg #[.slice av R.length cv, .int .i64 (us : Int), .int .i64 (er : Int)]) (by simp [results, Try.results19, go_sem, r0, r1, r2]) rfl ⟨_, by rw [HV.out], ?_⟩
      have hf := HW.out.fin HB1.out (.int .i64 (er : Int)) (.slice av R.length cv) (.int .i64 (us : Int)) (.int .i64 (er : Int))
      rw [HV.out]
      exact hf
end Go.Proofs.Ytmjmlccdgdakdaa.T
