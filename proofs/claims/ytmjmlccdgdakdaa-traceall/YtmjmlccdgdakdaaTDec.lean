-- PROVED: trace.Decode by its contract.
import Derived.Test.YtmjmlccdgdakdaaTSend
import Derived.Test.YtmjmlccdgdakdaaTMath2
namespace Go.Proofs.Ytmjmlccdgdakdaa.T
open Go.RowKit Go.Conc
theorem recBytes : ∃ i, Try.prog.info? 27 = some i ∧ i.bytes = 40 := by
  have h : (Try.prog.info? 27).map (·.bytes) = some 40 := by kernel_rfl
  obtain ⟨i, hi, hb⟩ := Option.map_eq_some_iff.1 h
  exact ⟨i, hi, hb⟩
theorem mkChan (w : World) : (Instr.makeChan 78 (.int .i64 1)).run Try.prog w = .ok (.chan (some w.heap.size)) (w.alloc (.chan 1 #[] false 0 0 false)) := by
  obtain ⟨i, hi, hb⟩ := recBytes
  simpa using run_makeChan (P := Try.prog) (w := w) Try.underlying78 hi .i64 1 (by omega) (by rw [hb]; omega)
theorem infoRec : (Try.prog.info? 27).map (fun i => (i.zero, i.size, i.bytes)) = some (some (.agg #[.int .i64 0, .int .i64 0, .int .i64 0, .string ⟨#[]⟩]), 4, 40) := by kernel_rfl
def recCells (L : List Tm.Rec) : List Value := L.flatMap fun r => [.int .i64 r.step, .int .i64 r.kind, .int .i64 r.n, .string ⟨r.s.toArray⟩]
theorem recCells_snoc (L : List Tm.Rec) (r : Tm.Rec) : recCells L ++ [.int .i64 r.step, .int .i64 r.kind, .int .i64 r.n, .string ⟨r.s.toArray⟩] = recCells (L ++ [r]) := by simp [recCells]
theorem grown_set {w wa : World} {c : Nat} (h : w.grownBy wa (some c)) (cap : Nat) (buf : Array Value) (cl : Bool) (s r : Nat) (tm : Bool) : w.grownBy (wa.setChan c cap buf cl s r tm) (some c) :=
  ⟨h.os, h.tape, h.output, by rw [size_setChan]; exact h.size, fun k hk hne => by
    have hck : c ≠ k := fun e => hne (by rw [e])
    rw [show (wa.setChan c cap buf cl s r tm).heap[k]? = wa.heap[k]? from by simp [World.setChan, Array.getElem?_setIfInBounds_ne hck]]
    exact h.block k hk hne⟩
theorem own_kept {w wb : World} {c size n : Nat} {e : TypeId} {v : Value} {xs : List Value} (h : w.ownsRow (c + 1) e size v n xs) (hg : w.grownBy wb (some c)) : wb.ownsRow (c + 1) e size v n xs :=
  h.kept hg (by
    cases hv : v.ownBlock with
    | none => exact .inl rfl
    | some k => exact .inr (fun e => by have := (h.lt k hv).1; cases e; omega))
theorem four_cells (w : World) (o : Obj) (x y z u : Value) (t : TypeId) : ∀ j v, [x, y, z, u][j]? = some v → ((w.alloc o).alloc (.cells #[x, y, z, u] t)).cell? ((⟨w.heap.size + 1, 0, none⟩ : Addr).add j) = some v := by
  intro j v hj
  rw [Go.WideShapes.add_plain]
  have hs : ((w.alloc o).alloc (.cells #[x, y, z, u] t)).heap[w.heap.size + 1]? = some (.cells #[x, y, z, u] t) := by
    have := heap_alloc_new (w.alloc o) (.cells #[x, y, z, u] t)
    simpa using this
  simp only [World.cell?, hs]
  match j, hj with
  | 0, hj => simpa using hj
  | 1, hj => simpa using hj
  | 2, hj => simpa using hj
  | 3, hj => simpa using hj
theorem later_step {wb w2 : World} {a b c d : Value} {t : TypeId} {o : Obj} {v : Value} {base : Nat} (hg : ((wb.alloc (.cells #[a, b, c, d] t)).alloc o).grownBy w2 v.ownBlock) (hl : ∀ k, v.ownBlock = some k → base ≤ k ∧ k < wb.heap.size) :
    w2.cell? ⟨wb.heap.size, 0, none⟩ = some a := by
  have h1 := World.cell?_of_block (a := ⟨wb.heap.size, 0, none⟩) (hg.block wb.heap.size (by simp; omega) (fun h => by have := (hl _ h.symm).2; omega))
  rw [h1, ((Below.refl _ _).alloc (Nat.le_refl _) _).cell (by simp)]
  simp
theorem later_chan {wb w2 : World} {p q : Obj} {v : Value} {n : Nat} {O : Obj} (hg : ((wb.alloc p).alloc q).grownBy w2 v.ownBlock) (hl : ∀ k, v.ownBlock = some k → n + 1 ≤ k ∧ k < wb.heap.size) (hc : wb.heap[n]? = some O) :
    w2.heap[n]? = some O := by
  have hn := lt_of_heap hc
  rw [hg.block n (by simp; omega) (fun h => by have := (hl _ h.symm).1; omega)]
  exact heap_below (heap_below hc ((Below.refl _ _).alloc (Nat.le_refl _) _)) ((Below.refl _ _).alloc (Nat.le_refl _) _)
theorem own_form {w : World} {base n size : Nat} {e : TypeId} {v : Value} {xs : List Value} (h : w.ownsRow base e size v n xs) : ∃ ao cap, v = .slice ao n cap := by
  obtain ⟨_, h1⟩ := h
  rcases h1 with ⟨rfl, rfl⟩ | ⟨g, cap, cur, h1, _⟩
  · exact ⟨none, 0, rfl⟩
  · exact ⟨_, _, h1⟩
theorem own_low {w : World} {base base' n size : Nat} {e : TypeId} {v : Value} {xs : List Value} (h : w.ownsRow base e size v n xs) (hb : base' ≤ base) : w.ownsRow base' e size v n xs := by
  obtain ⟨h0, h1⟩ := h
  refine ⟨h0, h1.elim .inl fun ⟨g, cap, cur, a, b, c⟩ => .inr ⟨g, cap, cur, a, Nat.le_trans hb b, c⟩⟩
theorem recCells_length (L : List Tm.Rec) : (recCells L).length = L.length * 4 := by
  induction L with
  | nil => rfl
  | cons r L ih => rw [show recCells (r :: L) = [.int .i64 r.step, .int .i64 r.kind, .int .i64 r.n, .string ⟨r.s.toArray⟩] ++ recCells L from rfl, List.length_append, ih]; simp; omega
theorem dec_drop (k : Int) (L : List (List UInt8)) (i : Nat) (h : i < L.length) : Tm.dec k (L.drop i) = if Tm.next k L[i] then (Tm.got L[i] :: (Tm.dec (Tm.got L[i]).step (L.drop (i + 1))).1, (Tm.dec (Tm.got L[i]).step (L.drop (i + 1))).2) else ([], false) := by
  rw [List.drop_eq_getElem_cons h]; rfl
set_option maxRecDepth 100000 in
set_option maxHeartbeats 2000000 in
theorem dec_any (s : ByteArray) (w : World) (hs : s.size ≤ 1000000) :
    Calls Try.prog 18 #[.string s] w fun e w' => ∃ v, e = .returned (.tuple #[v, .int .i64 ((Tm.decode s.data.toList).2.1 : Int), .int .i64 ((Tm.decode s.data.toList).2.2 : Int)]) ∧
      w'.ownsRow w.heap.size 27 4 v (Tm.decode s.data.toList).1.length (recCells (Tm.decode s.data.toList).1) ∧ Below w.heap.size w w' := by
  obtain ⟨i0, hi0, hz0, hz1, hz2⟩ := info_parts infoRec
  have hmc := mkChan
  have HA : Hid (_) := fun W => F.all_any s W hs
  have hlen := Fm.all_length s.data.toList
  have H4 : Hid (_) := Fm.all_texts s.data.toList
  rw [V.size_list] at hlen
  generalize hD : Tm.decode s.data.toList = D
  have HD : Hid (_) := hD
  clear hD
  unfold Tm.decode at HD
  generalize Fm.all s.data.toList = A at *
  obtain ⟨L, us, er⟩ := A
  simp only [] at HA HD H4 hlen
  go_enter Try.func18, Try.ntmps18
  go_wp2_with fail
  refine Calls.mono (HA.out _) ?_
  rintro e w0 ⟨vT, rfl, hownT, hb0⟩
  obtain ⟨ad, cap, rfl, hcap, hlies⟩ := Lies.own hownT
  have HL : Hid (_) := hlies
  clear hownT hlies HA
  generalize hN : L.length = N at hlen hcap ⊢
  have HN : Hid (_) := hN
  clear hN
  go_wp2_with fail
  clear hmc
  have hbc : Below w0.heap.size w0 (w0.alloc (.chan 1 #[] false 0 0 false)) := (Below.refl _ _).alloc (Nat.le_refl _) _
  have HCH : Hid (_) := (heap_alloc_new w0 (.chan 1 #[] false 0 0 false))
  have hcs : w0.heap.size + 1 ≤ (w0.alloc (.chan 1 #[] false 0 0 false)).heap.size := by simp
  generalize w0.alloc (.chan 1 #[] false 0 0 false) = wc at *
  go_loopw [2, 3, 4, 7, 20] (fun v x3 x4 k c wr => ∃ (i : Nat) (K : Int) (R : List Tm.Rec) (sd rv : Nat), i ≤ N ∧ x3 = .int .i64 (us : Int) ∧ x4 = .int .i64 (er : Int) ∧ c = .int .i64 (i : Int) ∧ k = .int .i64 K ∧ Hid (R.length = i) ∧ Hid (Below w0.heap.size w0 wr) ∧ Hid (wr.heap[w0.heap.size]? = some (.chan 1 #[] false sd rv false)) ∧
      Hid (wr.ownsRow (w0.heap.size + 1) 27 4 v R.length (recCells R)) ∧ Hid (Tm.dec 0 L = (R ++ (Tm.dec K (L.drop i)).1, (Tm.dec K (L.drop i)).2))) (fun _ _ _ _ c _ => N - (intOf c).toNat)
  case atStart => exact ⟨0, 0, [], 0, 0, by omega, rfl, rfl, rfl, rfl, (show ([] : List Tm.Rec).length = 0 from rfl), hbc, HCH, World.ownsRow_nil _ _ _ _, (show Tm.dec 0 L = ([] ++ (Tm.dec 0 (L.drop 0)).1, (Tm.dec 0 (L.drop 0)).2) from by simp)⟩
  case round =>
    obtain ⟨i, K, R, sd, rv, hi, rfl, rfl, rfl, rfl, HRL, HBW, HCW, HOW, HDC⟩ := hrel
    by_cases hlt : i < N
    · have hiL : i < L.length := by rw [HN.out]; exact hlt
      have hlt' : (i : Int) < N := by omega
      obtain ⟨b, off, rfl, hb, hc⟩ := HL.out.resolve_left (by omega)
      have hcell := (HBW.out.cell (p := ⟨b, off + i, none⟩) hb).trans (hc i hiL)
      have hle := H4.out L[i] (List.getElem_mem hiL)
      have hsz : (⟨L[i].toArray⟩ : ByteArray).size ≤ maxLen := by rw [← V.size_list]; unfold maxLen; simp only []; omega
      have hdd := dec_drop K L i hiL
      clear hc hbc HCH
      cases hn : Tm.next K L[i] with
      | true =>
        have HS : Hid (_) := fun W h => send_yes ⟨L[i].toArray⟩ K w0.heap.size sd rv W hsz hn h
        rw [hn, if_pos rfl] at hdd
        have HNX : Hid (Tm.dec 0 L = ((R ++ [Tm.got L[i]]) ++ (Tm.dec (Tm.got L[i]).step (L.drop (i + 1))).1, (Tm.dec (Tm.got L[i]).step (L.drop (i + 1))).2)) :=
          (show Tm.dec 0 L = ((R ++ [Tm.got L[i]]) ++ (Tm.dec (Tm.got L[i]).step (L.drop (i + 1))).1, (Tm.dec (Tm.got L[i]).step (L.drop (i + 1))).2) from by rw [HDC.out, hdd]; simp)
        have HSN : Hid (_) := recCells_snoc R (Tm.got L[i])
        rw [show (⟨L[i].toArray⟩ : ByteArray).data.toList = L[i] from rfl] at HS
        unfold recV at HS
        clear hdd hle hsz hn
        generalize Tm.got L[i] = g at *
        generalize (⟨L[i].toArray⟩ : ByteArray) = Y at *
        go_wp2_with fail
        refine Calls.mono (HS.out _ HCW.out) ?_
        rintro e wa ⟨rfl, hga, hca⟩
        iterate 14 (first | go_values | go_skip | go_guarded | go_step | go_upon | go_back | (simp only [] at *; go_simp) | (go_values <;> (try go_simp)) | (go_ite <;> go_prune <;> (try go_simp)))
        refine Ch.first (v := .tuple #[goInt 0, .bool true, .agg #[.int .i64 g.step, .int .i64 g.kind, .int .i64 g.n, .string ⟨g.s.toArray⟩]]) (cases := #[rcase w0.heap.size (.agg #[.int .i64 0, .int .i64 0, .int .i64 0, .string ⟨#[]⟩])]) (blocking := false) (shape := .select)
          (w1 := wa) rfl (by simp [go_sem, execOp, rcase, Act.eval]) (fun fr cs es h => step_lone_select_recv_buf h hca (by simp)) ?_
        rw [show ∀ x : Value, (#[x] : Array Value).extract 1 (#[x] : Array Value).size = #[] from fun x => by simp]
        have hcl := lt_of_heap hca
        have hgb : wr.grownBy (wa.setChan w0.heap.size 1 #[] false (sd + 1) (rv + 1) false) (some w0.heap.size) := grown_set hga _ _ _ _ _ _
        have hcb := heap_setChan wa w0.heap.size 1 #[] false (sd + 1) (rv + 1) false hcl
        generalize wa.setChan w0.heap.size 1 #[] false (sd + 1) (rv + 1) false = wb at hgb hcb ⊢
        have hown := own_kept HOW.out hgb
        have hbel : Below w0.heap.size w0 wb := HBW.out.grown hgb HBW.out.size (fun k hk => by cases hk; exact Nat.le_refl _)
        have hsz1 : w0.heap.size + 1 ≤ wb.heap.size := lt_of_heap hcb
        have HCB : Hid (_) := hcb
        clear hgb hcb hga hca hcl HBW HCW HOW HS HDC hcell
        simp only [Act.put]
        have hol := hown.lt
        go_wp2_with (at_builtin; refine wpList_append_own _ rfl _ _ 22 rfl (w0.heap.size + 1) 27 i0 (.agg #[.int .i64 0, .int .i64 0, .int .i64 0, .string ⟨#[]⟩]) 4 40 Try.underlying22 hi0 hz0 hz1 hz2 rfl (by decide) _ _ _ rfl ((hown.alloc _).alloc _) ⟨wb.heap.size + 1, 0, none⟩ 1 1 [.int .i64 g.step, .int .i64 g.kind, .int .i64 g.n, .string ⟨g.s.toArray⟩] rfl rfl (four_cells _ _ _ _ _ _ _) (by intro u hu; simp at hu; rcases hu with rfl | rfl | rfl | rfl <;> rfl) (by rw [HRL.out]; unfold maxLen; omega) (by rw [HRL.out]; omega) (by simp; omega) ?_; intro v2 w2 hown2 hgrow2 _; rw [HSN.out] at hown2; have hst2 := later_step hgrow2 hol; have HC2 : Hid (_) := later_chan hgrow2 hol HCB.out; have HB2 : Hid (_) := ((hbel.alloc (by omega) _).alloc (by simp; omega) _).grown hgrow2 (by simp; omega) (fun k hk => by have := (hol k hk).1; omega); clear hgrow2 hown hbel hol HCB)
        go_roundw
        case rel => exact ⟨i + 1, g.step, R ++ [g], sd + 1, rv + 1, by omega, rfl, rfl, by go_num, rfl, (show (R ++ [g]).length = i + 1 from by simp [HRL.out]), HB2, HC2, (show w2.ownsRow (w0.heap.size + 1) 27 4 v2 (R ++ [g]).length (recCells (R ++ [g])) from by simpa using hown2), HNX⟩
        case measure => simp [intOf]; omega
      | false =>
        have HS : Hid (_) := fun W => send_no ⟨L[i].toArray⟩ K w0.heap.size W hsz hn
        rw [hn, if_neg (by decide)] at hdd
        have HV : Hid (D = (R, (Fm.puts (L.take i)).length, 4)) := (show D = (R, (Fm.puts (L.take i)).length, 4) from by
          rw [← HD.out, HDC.out, hdd]; simp [HRL.out])
        have hti : (L.take i).length = i := by rw [List.length_take]; omega
        have hz : Hid (_) := fun W h => size_any (L.take i) (some ⟨b, off, none⟩) cap W (by omega) (fun t ht => H4.out t (List.mem_of_mem_take ht)) h
        rw [hti] at hz
        obtain ⟨ao, capv, rfl⟩ := own_form HOW.out
        rw [HRL.out] at HOW ⊢
        have hic : (i : Int) ≤ cap := by omega
        clear hdd hle hn hti
        generalize (⟨L[i].toArray⟩ : ByteArray) = Y at *
        go_wp2_with fail
        refine Calls.mono (HS.out _) ?_
        rintro e wa ⟨rfl, hba⟩
        have hca := heap_below HCW.out hba
        iterate 14 (first | go_values | go_skip | go_guarded | go_step | go_upon | go_back | (simp only [] at *; go_simp) | (go_values <;> (try go_simp)) | (go_ite <;> go_prune <;> (try go_simp)))
        refine Ch.first (v := .tuple #[goInt (-1), .bool false, .agg #[.int .i64 0, .int .i64 0, .int .i64 0, .string ⟨#[]⟩]]) (cases := #[rcase w0.heap.size (.agg #[.int .i64 0, .int .i64 0, .int .i64 0, .string ⟨#[]⟩])]) (blocking := false) (shape := .select)
          (w1 := wa) rfl (by simp [go_sem, execOp, rcase, Act.eval]) (fun fr cs es h => step_lone_select_default h hca) ?_
        have hLi : Lies wa (some ⟨b, off, none⟩) (L.take i) := ((Lies.take HL.out i).below HBW.out).below hba
        have HLI : Hid (_) := hLi
        have HOA : Hid (_) := F.own_below HOW.out hba
        have HBA : Hid (_) := HBW.out.trans (hba.mono HBW.out.size)
        clear hca hba hLi HBW HOW HCW HL hcell
        simp only [Act.put]
        go_wp2_with fail
        refine Calls.mono (hz.out _ HLI.out) ?_
        rintro e w2 ⟨rfl, hb2⟩
        go_wp2_with fail
        go_ret3
        refine ⟨_, by rw [HV.out]; rfl, ?_, C.below_chain hb0 (HBA.out.trans (hb2.mono HBA.out.size))⟩
        rw [HV.out, HRL.out]
        exact own_low (F.own_below HOA.out hb2) (by have := hb0.size; omega)
    · have hlt' : ¬ ((i : Int) < N) := by omega
      have hdN : L.drop i = [] := List.drop_eq_nil_of_le (by rw [HN.out]; omega)
      have HV : Hid (D = (R, us, er)) := (show D = (R, us, er) from by rw [← HD.out, HDC.out, hdN]; simp [Tm.dec])
      clear hdN
      go_wp2_with fail
      go_ret3
      refine ⟨_, by rw [HV.out]; rfl, ?_, C.below_chain hb0 HBW.out⟩
      rw [HV.out]
      exact own_low HOW.out (by have := hb0.size; omega)
end Go.Proofs.Ytmjmlccdgdakdaa.T
