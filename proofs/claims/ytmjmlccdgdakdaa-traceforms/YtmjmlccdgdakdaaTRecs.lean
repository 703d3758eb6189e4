-- PROVED: the statements' own 'Records': records by numbers, at rising steps.
import Derived.Test.YtmjmlccdgdakdaaTHost
namespace Go.Proofs.Ytmjmlccdgdakdaa.T
open Go.RowKit
theorem inCells_at : ∀ (L : List Tm.Rec) (j : Nat) (h : j < L.length), (inCells L)[j * 3]? = some (.int .i64 L[j].kind) ∧ (inCells L)[j * 3 + 1]? = some (.int .i64 L[j].n) ∧ (inCells L)[j * 3 + 2]? = some (.string ⟨L[j].s.toArray⟩)
  | [], j, h => by simp at h
  | r :: L, 0, _ => by simp [inCells]
  | r :: L, j + 1, h => by
    have e : inCells (r :: L) = [.int .i64 r.kind, .int .i64 r.n, .string ⟨r.s.toArray⟩] ++ inCells L := rfl
    have ih := inCells_at L j (by simpa using h)
    rw [e]
    rw [List.getElem?_append_right (by simp; omega), List.getElem?_append_right (by simp; omega), List.getElem?_append_right (by simp; omega)]
    simp only [List.length_cons, List.length_nil, List.getElem_cons_succ]
    rw [show (j + 1) * 3 - (0 + 1 + 1 + 1) = j * 3 by omega, show (j + 1) * 3 + 1 - (0 + 1 + 1 + 1) = j * 3 + 1 by omega, show (j + 1) * 3 + 2 - (0 + 1 + 1 + 1) = j * 3 + 2 by omega]
    exact ih
/-- The inputs L lie from the address on. -/
def Ins (w : World) (ad : Option Addr) (L : List Tm.Rec) : Prop :=
  L.length = 0 ∨ ∃ b off, ad = some ⟨b, off, none⟩ ∧ b < w.heap.size ∧ ∀ j (h : j < L.length), w.cell? ⟨b, off + j * 3, none⟩ = some (.int .i64 L[j].kind) ∧ w.cell? ⟨b, off + j * 3 + 1, none⟩ = some (.int .i64 L[j].n) ∧ w.cell? ⟨b, off + j * 3 + 2, none⟩ = some (.string ⟨L[j].s.toArray⟩)
theorem Ins.below {w w' : World} {ad : Option Addr} {L : List Tm.Rec} (h : Ins w ad L) (hb : Below w.heap.size w w') : Ins w' ad L := by
  rcases h with h | ⟨b, off, h1, h2, h3⟩
  · exact .inl h
  · refine .inr ⟨b, off, h1, Nat.lt_of_lt_of_le h2 hb.size, fun j hj => ?_⟩
    obtain ⟨c0, c1, c2⟩ := h3 j hj
    exact ⟨(hb.cell h2).trans c0, (hb.cell h2).trans c1, (hb.cell h2).trans c2⟩
theorem Ins.own {w : World} {base : Nat} {v : Value} {L : List Tm.Rec} (h : w.ownsRow base 25 3 v L.length (inCells L)) : ∃ ad cap, v = .slice ad L.length cap ∧ L.length ≤ cap ∧ Ins w ad L := by
  by_cases h0 : L.length = 0
  · obtain ⟨_, h1⟩ := h
    rcases h1 with ⟨rfl, _⟩ | ⟨g, cap, cur, rfl, _, _, h4, _⟩
    · exact ⟨none, 0, by rw [h0], by omega, .inl h0⟩
    · exact ⟨_, cap, rfl, h4, .inl h0⟩
  · have hl := h.lt
    have hc := fun g hg => h.cells (g := g) hg
    obtain ⟨_, h1⟩ := h
    rcases h1 with ⟨rfl, hn⟩ | ⟨g, cap, cur, rfl, h2, h3, h4, _⟩
    · exact absurd hn h0
    · refine ⟨_, cap, rfl, h4, .inr ⟨g, 0, rfl, (hl g rfl).2, fun j hj => ?_⟩⟩
      obtain ⟨a, b, c⟩ := inCells_at L j hj
      have h' := fun i u hi => (hc g rfl i u hi)
      refine ⟨?_, ?_, ?_⟩
      · rw [← h' _ _ a, Go.WideShapes.add_plain]
      · rw [← h' _ _ b, Go.WideShapes.add_plain]; congr 2
      · rw [← h' _ _ c, Go.WideShapes.add_plain]; congr 2
end Go.Proofs.Ytmjmlccdgdakdaa.T
namespace Go.Proofs.Ytmjmlccdgdakdaa.Hm
open Tm
theorem headD_drop (Z : List Nat) (i : Nat) (h : i < Z.length) : (Z.drop i).headD 0 = Z[i] := by
  rw [List.drop_eq_getElem_cons h]; rfl
theorem recs_drop (k : Int) (Z : List Nat) (H : List Rec) (j : Nat) (h : j < H.length) (hz : 2 * j < Z.length) :
    recs k (Z.drop (2 * j)) (H.drop j) = ⟨k + ((Z[2 * j] % 7 : Nat) : Int), H[j].kind, H[j].n, H[j].s⟩ :: recs (k + ((Z[2 * j] % 7 : Nat) : Int)) (Z.drop (2 * (j + 1))) (H.drop (j + 1)) := by
  rw [List.drop_eq_getElem_cons h]
  simp only [recs, headD_drop Z (2 * j) hz, List.drop_drop]
  rfl
end Go.Proofs.Ytmjmlccdgdakdaa.Hm
namespace Go.Proofs.Ytmjmlccdgdakdaa.T
open Go.RowKit
theorem four_new (W : World) (x y z u : Value) (t : TypeId) (n : Nat) (hn : n = W.heap.size) : ∀ j v, [x, y, z, u][j]? = some v → (W.alloc (.cells #[x, y, z, u] t)).cell? ((⟨n, 0, none⟩ : Addr).add j) = some v := by
  subst hn
  intro j v hj
  rw [Go.WideShapes.add_plain]
  simp only [World.cell?, heap_alloc_new]
  match j, hj with
  | 0, hj => simpa using hj
  | 1, hj => simpa using hj
  | 2, hj => simpa using hj
  | 3, hj => simpa using hj
set_option maxRecDepth 100000 in
set_option maxHeartbeats 4000000 in
theorem records_any (Z : List Nat) (ad : Option Addr) (cap : Nat) (w : World) (hL : Z.length ≤ maxLen) (hz : ∀ z ∈ Z, z < 256) (hr : Ns w ad Z) :
    Calls Try.prog 21 #[.slice ad Z.length cap] w fun e w' => ∃ v, e = .returned v ∧ w'.ownsRow w.heap.size 27 4 v (Hm.records Z).length (recCells (Hm.records Z)) ∧ Below w.heap.size w w' := by
  obtain ⟨i0, hi0, hz0, hz1, hz2⟩ := info_parts infoRec
  have HH : Hid (_) := fun W (h : Ns W ad Z) => host_any Z ad cap W hL hz h
  have hhl := Hm.host_len 20 Z
  have HR : Hid (_) := hr
  have HZ : Hid (_) := hz
  clear hr hz
  unfold maxLen at hL
  have HRec : Hid (Hm.records Z = Hm.recs 0 Z (Hm.hosts Z)) := (show Hm.records Z = Hm.recs 0 Z (Hm.hosts Z) from rfl)
  generalize hn : Z.length = N at hL HH hhl ⊢
  have HN : Hid (_) := hn
  clear hn
  rw [show Hm.host 20 Z = Hm.hosts Z from rfl] at hhl
  generalize Hm.hosts Z = H at HH hhl HRec
  generalize Hm.records Z = RR at HRec ⊢
  go_enter Try.func21, Try.ntmps21
  go_wp2_with fail
  refine Calls.mono (HH.out _ HR.out) ?_
  rintro e w0 ⟨vH, rfl, hoH, hb0⟩
  obtain ⟨aH, cH, rfl, hcH, hIns⟩ := Ins.own hoH
  have HI : Hid (_) := hIns
  have HR0 : Hid (_) := Ns.below HR.out hb0
  clear hoH hIns HH HR
  generalize hm : H.length = M at hhl hcH ⊢
  have HM : Hid (_) := hm
  clear hm
  go_wp2_with fail
  go_loopw [3, 5, 6] (fun v k c wr => ∃ (j : Nat) (K : Int) (R : List Tm.Rec), j ≤ M ∧ 0 ≤ K ∧ K ≤ 6 * j ∧ c = .int .i64 (j : Int) ∧ k = .int .i64 K ∧ Hid (R.length = j) ∧ Hid (Below w0.heap.size w0 wr) ∧ Hid (wr.ownsRow w0.heap.size 27 4 v R.length (recCells R)) ∧ Hid (RR = R ++ Hm.recs K (Z.drop (2 * j)) (H.drop j))) (fun _ _ c _ => M - (intOf c).toNat)
  case atStart => exact ⟨0, 0, [], by omega, by omega, by omega, rfl, rfl, (show ([] : List Tm.Rec).length = 0 from rfl), Below.refl _ _, World.ownsRow_nil _ _ _ _, (show RR = [] ++ Hm.recs 0 (Z.drop (2 * 0)) (H.drop 0) from by rw [HRec.out]; simp)⟩
  case round =>
    obtain ⟨j, K, R, hj, hK0, hK1, rfl, rfl, HRL, HB, HO, HE⟩ := hrel
    by_cases hlt : j < M
    · have hlt' : (j : Int) < M := by omega
      have hjH : j < H.length := by rw [HM.out]; exact hlt
      have hjZ : 2 * j < Z.length := by rw [HN.out]; omega
      have hjN : 2 * (j : Int) < N := by omega
      obtain ⟨b, off, rfl, hb, hc⟩ := HI.out.resolve_left (by omega)
      obtain ⟨d, of2, rfl, hd, he⟩ := HR0.out.resolve_left (by omega)
      obtain ⟨c0, c1, c2⟩ := hc j hjH
      replace c0 := (HB.out.cell (p := ⟨b, off + j * 3, none⟩) hb).trans c0
      replace c1 := (HB.out.cell (p := ⟨b, off + j * 3 + 1, none⟩) hb).trans c1
      replace c2 := (HB.out.cell (p := ⟨b, off + j * 3 + 2, none⟩) hb).trans c2
      have e0 := (HB.out.cell (p := ⟨d, of2 + 2 * j, none⟩) hd).trans (he (2 * j) hjZ)
      have hz7 := HZ.out Z[2 * j] (List.getElem_mem hjZ)
      have hrd := Hm.recs_drop K Z H j hjH hjZ
      have HNX : Hid (RR = (R ++ [⟨K + ((Z[2 * j] % 7 : Nat) : Int), H[j].kind, H[j].n, H[j].s⟩]) ++ Hm.recs (K + ((Z[2 * j] % 7 : Nat) : Int)) (Z.drop (2 * (j + 1))) (H.drop (j + 1))) := (show RR = (R ++ [⟨K + ((Z[2 * j] % 7 : Nat) : Int), H[j].kind, H[j].n, H[j].s⟩]) ++ Hm.recs (K + ((Z[2 * j] % 7 : Nat) : Int)) (Z.drop (2 * (j + 1))) (H.drop (j + 1)) from by rw [HE.out, hrd]; simp)
      clear hc he hrd HE
      generalize Z[2 * j] = a at *
      have ha7 : ((a % 7 : Nat) : Int) = (a : Int) % 7 := by omega
      rw [ha7] at HNX
      clear ha7
      generalize hS : (⟨K + (a : Int) % 7, H[j].kind, H[j].n, H[j].s⟩ : Tm.Rec) = g at HNX
      have HSN : Hid (recCells R ++ [.int .i64 (K + (a : Int) % 7), .int .i64 H[j].kind, .int .i64 H[j].n, .string ⟨H[j].s.toArray⟩] = recCells (R ++ [g])) := (show recCells R ++ [.int .i64 (K + (a : Int) % 7), .int .i64 H[j].kind, .int .i64 H[j].n, .string ⟨H[j].s.toArray⟩] = recCells (R ++ [g]) from by rw [← hS]; exact recCells_snoc R ⟨K + (a : Int) % 7, H[j].kind, H[j].n, H[j].s⟩)
      clear hS
      generalize H[j].kind = kd at *
      generalize H[j].n = nn at *
      generalize (⟨H[j].s.toArray⟩ : ByteArray) = ss at *
      obtain ⟨av, cv, rfl⟩ := own_form HO.out
      go_wp2_with (at_builtin; refine wpList_append_own _ rfl _ _ 22 rfl w0.heap.size 27 i0 (.agg #[.int .i64 0, .int .i64 0, .int .i64 0, .string ⟨#[]⟩]) 4 40 Try.underlying22 hi0 hz0 hz1 hz2 rfl (by decide) _ _ _ rfl (F.own_below HO.out ((Below.refl _ _).alloc (Nat.le_refl _) _)) ⟨_, 0, none⟩ 1 1 [.int .i64 (K + (a : Int) % 7), .int .i64 kd, .int .i64 nn, .string ss] rfl rfl (four_new _ _ _ _ _ _ _ rfl) (by intro u hu; simp at hu; rcases hu with rfl | rfl | rfl | rfl <;> rfl) (by rw [HRL.out]; unfold maxLen; omega) (by rw [HRL.out]; omega) (by have := HB.out.size; simp; omega) ?_; intro v2 w2 hown2 hgrow2 _; rw [HSN.out] at hown2; have HB2 : Hid (_) := (HB.out.alloc HB.out.size _).grown hgrow2 (by have := HB.out.size; simp; omega) (fun k hk => (HO.out.lt k hk).1); clear hgrow2)
      go_roundw
      case rel => exact ⟨j + 1, K + (a : Int) % 7, R ++ [g], by omega, by omega, by omega, by go_num, rfl, (show (R ++ [g]).length = j + 1 from by simp [HRL.out]), HB2, (show w2.ownsRow w0.heap.size 27 4 v2 (R ++ [g]).length (recCells (R ++ [g])) from by simpa using hown2), HNX⟩
      case measure => simp [intOf]; omega
    · have hlt' : ¬ ((j : Int) < M) := by omega
      have HV : Hid (RR = R) := (show RR = R from by rw [HE.out, show H.drop j = [] from List.drop_eq_nil_of_le (by rw [HM.out]; omega)]; simp [Hm.recs])
      go_wp2_with fail
      go_ret
      exact ⟨_, rfl, by rw [HV.out]; exact own_low HO.out hb0.size, C.below_chain hb0 HB.out⟩
end Go.Proofs.Ytmjmlccdgdakdaa.T
