-- PROVED: the statements' own 'awake' of layer 4.
import Derived.Test.YtmjmlccdgdakdaaTDec
namespace Go.Proofs.Ytmjmlccdgdakdaa.T
open Go.RowKit
theorem recCells_at : ∀ (L : List Tm.Rec) (j : Nat) (h : j < L.length), (recCells L)[j * 4]? = some (.int .i64 L[j].step) ∧ (recCells L)[j * 4 + 1]? = some (.int .i64 L[j].kind) ∧ (recCells L)[j * 4 + 2]? = some (.int .i64 L[j].n) ∧ (recCells L)[j * 4 + 3]? = some (.string ⟨L[j].s.toArray⟩)
  | [], j, h => by simp at h
  | r :: L, 0, _ => by simp [recCells]
  | r :: L, j + 1, h => by
    have e : recCells (r :: L) = [.int .i64 r.step, .int .i64 r.kind, .int .i64 r.n, .string ⟨r.s.toArray⟩] ++ recCells L := rfl
    have ih := recCells_at L j (by simpa using h)
    rw [e]
    rw [List.getElem?_append_right (by simp; omega), List.getElem?_append_right (by simp; omega), List.getElem?_append_right (by simp; omega), List.getElem?_append_right (by simp; omega)]
    simp only [List.length_cons, List.length_nil, List.getElem_cons_succ]
    rw [show (j + 1) * 4 - (0 + 1 + 1 + 1 + 1) = j * 4 by omega, show (j + 1) * 4 + 1 - (0 + 1 + 1 + 1 + 1) = j * 4 + 1 by omega, show (j + 1) * 4 + 2 - (0 + 1 + 1 + 1 + 1) = j * 4 + 2 by omega, show (j + 1) * 4 + 3 - (0 + 1 + 1 + 1 + 1) = j * 4 + 3 by omega]
    exact ih
theorem Recs.own {w : World} {base : Nat} {v : Value} {L : List Tm.Rec} (h : w.ownsRow base 27 4 v L.length (recCells L)) : ∃ ad cap, v = .slice ad L.length cap ∧ L.length ≤ cap ∧ Recs w ad L := by
  by_cases h0 : L.length = 0
  · obtain ⟨_, h1⟩ := h
    rcases h1 with ⟨rfl, _⟩ | ⟨g, cap, cur, rfl, _, _, h4, _⟩
    · exact ⟨none, 0, by rw [h0], by omega, .inl h0⟩
    · exact ⟨_, cap, rfl, h4, .inl h0⟩
  · have hl := h.lt
    have hc := fun g hg => h.cells (g := g) hg
    obtain ⟨_, h1⟩ := h
    rcases h1 with ⟨rfl, hn⟩ | ⟨g, cap, cur, rfl, h2, h3, h4, _⟩
    · exact absurd hn h0
    · refine ⟨_, cap, rfl, h4, .inr ⟨g, 0, rfl, (hl g rfl).2, fun j hj => ?_⟩⟩
      obtain ⟨a, b, c, d⟩ := recCells_at L j hj
      have h' := fun i u hi => (hc g rfl i u hi)
      refine ⟨?_, ?_, ?_, ?_⟩
      · rw [← h' _ _ a, Go.WideShapes.add_plain]
      · rw [← h' _ _ b, Go.WideShapes.add_plain]; congr 2
      · rw [← h' _ _ c, Go.WideShapes.add_plain]; congr 2
      · rw [← h' _ _ d, Go.WideShapes.add_plain]; congr 2
/-- One record, just laid. -/
theorem Recs.one (w : World) (r : Tm.Rec) (t : TypeId) : Recs (w.alloc (.cells #[.int .i64 r.step, .int .i64 r.kind, .int .i64 r.n, .string ⟨r.s.toArray⟩] t)) (some ⟨w.heap.size, 0, none⟩) [r] := by
  refine .inr ⟨w.heap.size, 0, rfl, by simp, fun j hj => ?_⟩
  have : j = 0 := by simpa using hj
  subst this
  refine ⟨?_, ?_, ?_, ?_⟩ <;> simp
def rx : Tm.Rec := ⟨3, 4, 0, [120]⟩
theorem rx_good : Tm.good 0 [rx] = true := by decide
theorem rx_fits : Tm.fitsAll [rx] := by
  intro r hr
  have : r = rx := by simpa using hr
  subst this
  unfold Tm.fits rx
  simp
theorem rows_len (L : List Tm.Rec) (h : Tm.good 0 L = true) : (Tm.rows L).length ≤ 4110 * L.length := by
  have := puts_le (L.map Tm.put) (Tm.texts_le h)
  rw [List.length_map] at this
  exact this
theorem mk_size (l : List UInt8) : (⟨l.toArray⟩ : ByteArray).size = l.length := by rw [← V.size_list]
set_option maxRecDepth 100000 in
set_option maxHeartbeats 1000000 in
theorem awake_any (w : World) : Calls Try.prog 8 #[] w fun e w' => e = .returned (.bool true) ∧ Below w.heap.size w w' := by
  have H0 : Hid (_) := fun W => dec_any ⟨#[]⟩ W (by decide)
  rw [show Tm.decode (⟨#[]⟩ : ByteArray).data.toList = ([], 0, 0) from rfl] at H0
  have hE := enc_yes rx_good
  have H1 : Hid (_) := fun W => enc_any [rx] (some ⟨W.heap.size, 0, none⟩) 1 (W.alloc (.cells #[.int .i64 rx.step, .int .i64 rx.kind, .int .i64 rx.n, .string ⟨rx.s.toArray⟩] 27)) (by decide) rx_fits (fun r hr => by rw [List.mem_singleton.1 hr]; decide) (Recs.one W rx 27)
  rw [hE] at H1
  have hlen := rows_len [rx] rx_good
  have hsz := mk_size (Tm.rows [rx])
  have H2 : Hid (_) := fun W => dec_any ⟨(Tm.rows [rx]).toArray⟩ W (by rw [hsz]; simp at hlen; omega)
  rw [show (⟨(Tm.rows [rx]).toArray⟩ : ByteArray).data.toList = Tm.rows [rx] from rfl, Tm.decode_rows rx_good rx_fits, ← hsz] at H2
  have hw : (⟨(Tm.rows [rx]).toArray⟩ : ByteArray).size ≤ 5000 := by rw [hsz]; simp at hlen; omega
  clear hlen hsz hE
  simp only [] at H0 H1 H2
  generalize (⟨(Tm.rows [rx]).toArray⟩ : ByteArray) = S at *
  rw [show rx.step = 3 from rfl, show rx.kind = 4 from rfl, show rx.n = 0 from rfl, show (⟨rx.s.toArray⟩ : ByteArray) = ⟨#[120]⟩ from rfl] at H1
  go_enter Try.func8, Try.ntmps8
  go_wp2_with fail
  refine Calls.mono (H0.out _) ?_
  rintro e w1 ⟨v1, rfl, ho1, hb1⟩
  obtain ⟨a1, c1, rfl⟩ := own_form ho1
  clear ho1
  go_wp2_with fail
  refine Calls.mono (H1.out _) ?_
  rintro e w2 ⟨rfl, hb2⟩
  have hB2 := C.below_chain (hb1.alloc hb1.size _) hb2
  clear hb1 hb2
  go_wp2_with fail
  refine Calls.mono (H2.out _) ?_
  rintro e w3 ⟨v3, rfl, ho3, hb3⟩
  obtain ⟨ad, cap, rfl, hcap, hR⟩ := Recs.own ho3
  obtain ⟨b, off, rfl, hb, hc⟩ := hR.resolve_left (by simp)
  have hcell : w3.cell? ⟨b, off, none⟩ = some (.int .i64 3) := by have := (hc 0 (by simp)).1; simpa [rx] using this
  have hB3 := C.below_chain hB2 hb3
  clear hc hB2 hb3 ho3 H0 H1 H2 hR
  simp only [List.length_cons, List.length_nil] at hcap ⊢
  go_wp2_with (go_at_call 13; refine (V.err_any _ _).mono ?_; rintro e w' ⟨rfl, rfl⟩)
  go_ret
  exact ⟨rfl, hB3⟩
end Go.Proofs.Ytmjmlccdgdakdaa.T
