-- PROVED: a slice of asks that came in, opened; books and the document's side by side, call by call.
import Derived.Test.YtmipgpkeegggpaaHOpen
import Derived.Test.YtmipgpkeegggpaaPSim
namespace Go.Proofs.Ytmipgpkeegggpaa.P
open Go.RowKit Go.ChangeShapes Go.WideShapes Go.Deep
set_option linter.unusedVariables false
structure Ak where
  do_ : Int
  book : Int
  at_ : Int
  cell : Cl
theorem ocAK : Try.prog.cellsOf 60 = 8 := by kernel_rfl
section
variable {H : Type} {enc : TypeId × Value → H} {w : World} {base : Nat} {spare : Nat → Bool} {held : Bool}
theorem trod_struct4' {P : Program} {t : TypeId} {f0 f1 f2 f3 : Field} {fuel : Nat} {cs : List Value} {x : DataW H × List MemPlace} (ht : P.underlying t = some (.struct #[f0, f1, f2, f3])) (h : DataW.trod enc P w base spare held fuel t cs = some x) :
    ∃ y0 y1 y2 y3 n, cs.length = P.cellsOf t ∧ DataW.trod enc P w base spare held n f0.type ((cs.drop f0.offset).take (P.cellsOf f0.type)) = some y0 ∧
      DataW.trod enc P w base spare held n f1.type ((cs.drop f1.offset).take (P.cellsOf f1.type)) = some y1 ∧ DataW.trod enc P w base spare held n f2.type ((cs.drop f2.offset).take (P.cellsOf f2.type)) = some y2 ∧
      DataW.trod enc P w base spare held n f3.type ((cs.drop f3.offset).take (P.cellsOf f3.type)) = some y3 := by
  obtain ⟨xs, n, _, rfl, hl, hlen, hf⟩ := DataW.trod_struct ht h
  match xs, hlen with
  | [y0, y1, y2, y3], _ => exact ⟨y0, y1, y2, y3, n, hl, by simpa using hf 0 f0 rfl, by simpa using hf 1 f1 rfl, by simpa using hf 2 f2 rfl, by simpa using hf 3 f3 rfl⟩
def CameA (w : World) (cs : List Value) (a : Ak) : Prop := ∃ vK vV, cs = [.int .i64 a.do_, .int .i64 a.book, .int .i64 a.at_, .int .i64 a.cell.kind, .int .i64 a.cell.a, .int .i64 a.cell.b, vK, vV] ∧ Texts w.heap.size w vK a.cell.keys ∧ Vals w.heap.size w vV a.cell.vals
theorem open_ask {fuel : Nat} {cs : List Value} {x : DataW H × List MemPlace} (h : DataW.trod enc Try.prog w base spare held fuel 60 cs = some x) : ∃ a : Ak, CameA w cs a := by
  obtain ⟨y0, y1, y2, y3, m, hl, h0, h1, h2, h3⟩ := trod_struct4' Try.underlying60 h
  rw [ocAK] at hl
  simp only [oc3, ocCL, List.drop_zero] at h0 h1 h2 h3
  match cs, hl with
  | [v0, v1, v2, v3, v4, v5, v6, v7], _ =>
    simp at h0 h1 h2 h3
    obtain ⟨d, hd, _, _⟩ := DataW.trod_int Try.underlying3 h0
    obtain ⟨b, hb, _, _⟩ := DataW.trod_int Try.underlying3 h1
    obtain ⟨a, ha, _, _⟩ := DataW.trod_int Try.underlying3 h2
    obtain ⟨c, vK, vV, hc, tK, tV⟩ := open_cell h3
    simp at hd hb ha hc
    obtain ⟨e1, e2, e3, e4, e5⟩ := hc
    exact ⟨⟨d, b, a, c⟩, vK, vV, by rw [hd, hb, ha, e1, e2, e3, e4, e5], tK, tV⟩
/-- What the walk is told of a slice of asks that came in. -/
def IsAsks (w : World) (ad : Option Addr) (len cap : Nat) (L : List Ak) : Prop :=
  L.length = len ∧ len ≤ cap ∧ cap ≤ maxLen ∧ (len = 0 ∨ ∃ b off, ad = some ⟨b, off, none⟩ ∧ b < w.heap.size ∧ ∀ j (hj : j < L.length), ∃ vK vV,
    w.cell? ⟨b, off + j * 8, none⟩ = some (.int .i64 L[j].do_) ∧ w.cell? ⟨b, off + j * 8 + 1, none⟩ = some (.int .i64 L[j].book) ∧ w.cell? ⟨b, off + j * 8 + 2, none⟩ = some (.int .i64 L[j].at_) ∧ w.cell? ⟨b, off + j * 8 + 3, none⟩ = some (.int .i64 L[j].cell.kind) ∧ w.cell? ⟨b, off + j * 8 + 4, none⟩ = some (.int .i64 L[j].cell.a) ∧ w.cell? ⟨b, off + j * 8 + 5, none⟩ = some (.int .i64 L[j].cell.b) ∧ w.cell? ⟨b, off + j * 8 + 6, none⟩ = some vK ∧ w.cell? ⟨b, off + j * 8 + 7, none⟩ = some vV ∧ Texts w.heap.size w vK L[j].cell.keys ∧ Vals w.heap.size w vV L[j].cell.vals)
theorem open_asks {fuel : Nat} {ad : Option Addr} {len cap : Nat} {x : DataW H × List MemPlace} (h : DataW.trod enc Try.prog w base spare held fuel 49 [.slice ad len cap] = some x) : ∃ L, IsAsks w ad len cap L := by
  obtain ⟨ad', len', cap', hcs, hl, hm, L, hL, h2⟩ := open_list (α := Ak) ⟨0, 0, 0, Cl.zero⟩ Try.underlying49 ocAK (by omega) (fun cs c => CameA w cs c) (fun n cs y hy => open_ask hy) h
  simp at hcs
  obtain ⟨rfl, rfl, rfl⟩ := hcs
  refine ⟨L, hL, hl, hm, h2.imp id ?_⟩
  rintro ⟨b, off, h3, h4, h5⟩
  refine ⟨b, off, h3, h4, fun j hj => ?_⟩
  obtain ⟨cs, h6, ⟨vK, vV, h7, h9, h10⟩, h8⟩ := h5 j hj
  exact ⟨vK, vV, by simpa using h8 0 _ (by rw [h7]; rfl), h8 1 _ (by rw [h7]; rfl), h8 2 _ (by rw [h7]; rfl), h8 3 _ (by rw [h7]; rfl), h8 4 _ (by rw [h7]; rfl), h8 5 _ (by rw [h7]; rfl), h8 6 _ (by rw [h7]; rfl), h8 7 _ (by rw [h7]; rfl), h9, h10⟩
end
/-- Books and the document's, side by side, t asks gone by. -/
structure PA (base : Nat) (w : World) (fB F : Nat) (vB : Value) (t : Nat) (bs : List Bk) (rs : List Rb) (nx : Nat) : Prop where
  sys : Sys base w bs
  fam : Fam base w fB rs nx
  bks : Bks base w vB (bs.map (·.at_))
  sim : Sim F bs rs nx
  few : bs.length ≤ 6
  top : nx ≤ t
  len : ∀ (i : Nat) (b : Bk), bs[i]? = some b → b.len ≤ t
section
variable {base fB F t nx : Nat} {w w' : World} {vB : Value} {bs : List Bk} {rs : List Rb}
theorem PA.below (h : PA base w fB F vB t bs rs nx) (hb : Below w.heap.size w w') : PA base w' fB F vB t bs rs nx :=
  have kk : Keep [] base w w' := keepB h.sys.size hb
  ⟨h.sys.below hb, h.fam.keep kk (by simp), h.bks.keep kk (by simp), h.sim, h.few, h.top, h.len⟩
theorem PA.more (h : PA base w fB F vB t bs rs nx) {t' : Nat} (ht : t ≤ t') : PA base w fB F vB t' bs rs nx :=
  ⟨h.sys, h.fam, h.bks, h.sim, h.few, Nat.le_trans h.top ht, fun i b hb => Nat.le_trans (h.len i b hb) ht⟩
theorem PA.ref (h : PA base w fB F vB t bs rs nx) {i : Nat} {b : Bk} (hb : bs[i]? = some b) : ∃ r, rs[i]? = some r ∧ r.gone = !b.opn ∧ r.cells.length = b.len ∧ r.pgs.length = b.pgs.length := by
  have hl := (List.getElem?_eq_some_iff.1 hb).1
  rw [h.sim.len] at hl
  have hr := List.getElem?_eq_getElem hl
  obtain ⟨_, b2, b3, _, b5⟩ := h.sim.book i b _ hb hr
  exact ⟨_, hr, b2, b3, b5⟩
theorem OwnD.top {r r1 : Rb} {p nx1 i : Nat} (h : OwnD rs i r p nx r1 nx1) : nx1 ≤ nx + 1 := by
  rcases h.pg with ⟨_, _, h⟩ | ⟨_, _, _, _, h⟩ | ⟨_, _, _, _, h⟩ <;> omega
theorem map_set_at {i : Nat} {b b' : Bk} (hb : bs[i]? = some b) (ha : b'.at_ = b.at_) : (bs.set i b').map (·.at_) = bs.map (·.at_) := by
  rw [List.map_set]
  apply List.ext_getElem?
  intro j
  by_cases e : j = i
  · subst e
    have hl := (List.getElem?_eq_some_iff.1 hb).1
    rw [List.getElem?_set_self (by simpa using hl), List.getElem?_map, hb, ha]; rfl
  · rw [List.getElem?_set_ne (fun x => e x.symm)]
/-- What a call of the books' leaves. -/
theorem fourF : ∀ T, T ∈ Four → Mine T ∧ T ≠ 58 ∧ T ≠ 55 ∧ T ≠ 30 ∧ T ≠ 3 := by simp [Four, Mine]
theorem pa_add (h : PA base w fB F vB t bs rs nx) (ht : t < 4000) {i : Nat} {b : Bk} (hb : bs[i]? = some b) (ho : b.opn = true) {vK vV : Value} {c : Cl} (hc : Parts base w vK vV c) :
    Calls Try.prog 26 #[.pointer (some ⟨b.at_, 0, none⟩), .agg #[.int .i64 c.kind, .int .i64 c.a, .int .i64 c.b, vK, vV]] w fun e w2 => e = .returned (.tuple #[.int .i64 (b.len : Int), .int .i64 0]) ∧ Hid (Keep Four base w w2) ∧
      Hid (Calls Try.prog 27 #[.pointer (some ⟨fB, 0, none⟩), .int .i64 (i : Int), .agg #[.int .i64 c.kind, .int .i64 c.a, .int .i64 c.b, vK, vV]] w2 fun e w3 => e = .returned (.int .i64 0) ∧
        Hid (∃ bs' rs' nx' r', PA base w3 fB F vB (t + 1) bs' rs' nx' ∧ rs'[i]? = some r' ∧ r'.cells.length = b.len + 1) ∧ Hid (Keep [58, 55] base w2 w3)) := by
  obtain ⟨r, hr, r1, r2, r3⟩ := h.ref hb
  have hlen := h.len i b hb
  obtain ⟨o1, o2, o3, o4⟩ := h.sys.ok i b hb
  refine (add_yes h.sys hb ho (by omega) hc).mono ?_
  rintro e w2 ⟨rfl, b', hs2, hd2, hk2⟩
  refine ⟨rfl, hk2, ?_⟩
  have hf2 := h.fam.keep hk2 fourF
  refine (radd_yes hf2 (by have := h.top; omega) hs2.size hr (by rw [r1, ho]; rfl) (by omega) (by omega) (by omega) (hc.keep hk2 (by simp [Four, Mine]))).mono ?_
  rintro e w3 ⟨rfl, rr, nx1, v1, hod, hf3, hk3⟩
  refine ⟨rfl, ⟨_, _, nx1, _, ⟨hs2.other hk3 (by simp [Mine]), hf3, ?_, h.sim.add h.sys hb hr hd2 hod v1, by rw [List.length_set]; exact h.few, by have := hod.top; have := h.top; omega, fun j d hd => ?_⟩, rset_same hr, by unfold withC; simp; omega⟩, hk3⟩
  · rw [map_set_at hb hd2.at_]
    exact (h.bks.keep hk2 (by simp [Four])).keep hk3 (by simp)
  · rcases get_set hb hd with ⟨rfl, rfl⟩ | ⟨_, hd'⟩
    · rw [hd2.len]; omega
    · have := h.len j d hd'; omega
theorem pa_add_no (h : PA base w fB F vB t bs rs nx) {i : Nat} {b : Bk} (hb : bs[i]? = some b) (ho : b.opn = false) {vK vV : Value} {c : Cl} (hc : Parts base w vK vV c) :
    Calls Try.prog 26 #[.pointer (some ⟨b.at_, 0, none⟩), .agg #[.int .i64 c.kind, .int .i64 c.a, .int .i64 c.b, vK, vV]] w fun e w2 => e = .returned (.tuple #[.int .i64 0, .int .i64 2]) ∧ Hid (Below w.heap.size w w2) ∧
      Hid (Calls Try.prog 27 #[.pointer (some ⟨fB, 0, none⟩), .int .i64 (i : Int), .agg #[.int .i64 c.kind, .int .i64 c.a, .int .i64 c.b, vK, vV]] w2 fun e w3 => e = .returned (.int .i64 2) ∧
        Hid (PA base w3 fB F vB t bs rs nx) ∧ Hid (Below w2.heap.size w2 w3)) := by
  obtain ⟨r, hr, r1, r2, r3⟩ := h.ref hb
  refine (add_closed h.sys hb ho hc).mono ?_
  rintro e w2 ⟨rfl, hb2⟩
  refine ⟨rfl, hb2, ?_⟩
  have h2 := h.below hb2
  refine (radd_gone h2.fam hr (by rw [r1, ho]; rfl) (hc.keep (S := []) (keepB h.sys.size hb2) (by simp))).mono ?_
  rintro e w3 ⟨rfl, hb3⟩
  exact ⟨rfl, h2.below hb3, hb3⟩
theorem pa_set (h : PA base w fB F vB t bs rs nx) (ht : t < 4000) {i : Nat} {b : Bk} (hb : bs[i]? = some b) {k : Nat} (hk : k < b.len) {vK vV : Value} {c : Cl} (hc : Parts base w vK vV c) :
    Calls Try.prog 28 #[.pointer (some ⟨b.at_, 0, none⟩), .int .i64 (k : Int), .agg #[.int .i64 c.kind, .int .i64 c.a, .int .i64 c.b, vK, vV]] w fun e w2 => e = .returned (.int .i64 0) ∧ Hid (Keep Four base w w2) ∧
      Hid (∀ w2', Below w2.heap.size w2 w2' → Calls Try.prog 29 #[.pointer (some ⟨fB, 0, none⟩), .int .i64 (i : Int), .int .i64 (k : Int), .agg #[.int .i64 c.kind, .int .i64 c.a, .int .i64 c.b, vK, vV]] w2' fun e w3 => e = .returned (.int .i64 0) ∧
        Hid (∃ bs' rs' nx', PA base w3 fB F vB (t + 1) bs' rs' nx') ∧ Hid (Keep [58, 55] base w2' w3)) := by
  obtain ⟨r, hr, r1, r2, r3⟩ := h.ref hb
  have hlen := h.len i b hb
  obtain ⟨o1, o2, o3, o4⟩ := h.sys.ok i b hb
  refine (set_yes h.sys hb k hk hc).mono ?_
  rintro e w2 ⟨rfl, q, hq, hs2, hk2⟩
  refine ⟨rfl, hk2, fun w2' hbw => ?_⟩
  have kk : Keep [] base w2 w2' := keepB hs2.size hbw
  have hf2 := (h.fam.keep hk2 fourF).keep kk (by simp)
  refine (rset_yes hf2 (by have := h.top; omega) (Nat.le_trans hs2.size hbw.size) hr k (by omega) (by omega) (by omega) ((hc.keep hk2 (by simp [Four, Mine])).keep kk (by simp))).mono ?_
  rintro e w3 ⟨rfl, rr, nx1, v1, hod, hf3, hk3⟩
  refine ⟨rfl, ⟨_, _, nx1, ⟨(hs2.below hbw).other hk3 (by simp [Mine]), hf3, ?_, h.sim.set h.sys hb hr hk hq hod c v1, by rw [List.length_set]; exact h.few, by have := hod.top; have := h.top; omega, fun j d hd => ?_⟩⟩, hk3⟩
  · rw [map_set_at (b' := upd bs b k c q) hb rfl]
    exact ((h.bks.keep hk2 (by simp [Four])).keep kk (by simp)).keep hk3 (by simp)
  · rcases get_set hb hd with ⟨rfl, rfl⟩ | ⟨_, hd'⟩
    · show b.len ≤ _; omega
    · have := h.len j d hd'; omega
theorem pa_set_no (h : PA base w fB F vB t bs rs nx) {i : Nat} {b : Bk} (hb : bs[i]? = some b) (k : Int) (hk : ¬ (0 ≤ k ∧ k < b.len)) {vK vV : Value} {c : Cl} (hc : Parts base w vK vV c) :
    Calls Try.prog 28 #[.pointer (some ⟨b.at_, 0, none⟩), .int .i64 k, .agg #[.int .i64 c.kind, .int .i64 c.a, .int .i64 c.b, vK, vV]] w fun e w2 => e = .returned (.int .i64 2) ∧ Hid (Below w.heap.size w w2) ∧
      Hid (∀ w2', Below w2.heap.size w2 w2' → Calls Try.prog 29 #[.pointer (some ⟨fB, 0, none⟩), .int .i64 (i : Int), .int .i64 k, .agg #[.int .i64 c.kind, .int .i64 c.a, .int .i64 c.b, vK, vV]] w2' fun e w3 => e = .returned (.int .i64 2) ∧
        Hid (PA base w3 fB F vB t bs rs nx) ∧ Hid (Below w2'.heap.size w2' w3)) := by
  obtain ⟨r, hr, r1, r2, r3⟩ := h.ref hb
  refine (set_no h.sys hb k hk hc).mono ?_
  rintro e w2 ⟨rfl, hb2⟩
  refine ⟨rfl, hb2, fun w2' hbw => ?_⟩
  have hb3 := Below.chain hb2 hbw hb2.size
  have h2 := h.below hb3
  refine (rset_no h2.fam hr k (by rw [r2]; exact hk) (hc.keep (S := []) (keepB h.sys.size hb3) (by simp))).mono ?_
  rintro e w3 ⟨rfl, hb4⟩
  exact ⟨rfl, h2.below hb4, hb4⟩
theorem pa_drop (h : PA base w fB F vB t bs rs nx) {i : Nat} {b : Bk} (hb : bs[i]? = some b) :
    Calls Try.prog 32 #[.pointer (some ⟨b.at_, 0, none⟩)] w fun e w2 => e = .returned (.tuple #[]) ∧ Hid (Keep Four base w w2) ∧
      Hid (Calls Try.prog 33 #[.pointer (some ⟨fB, 0, none⟩), .int .i64 (i : Int)] w2 fun e w3 => e = .returned (.tuple #[]) ∧
        Hid (∃ bs' rs' nx', PA base w3 fB F vB (t + 1) bs' rs' nx') ∧ Hid (Keep [58, 55] base w2 w3)) := by
  obtain ⟨r, hr, r1, r2, r3⟩ := h.ref hb
  refine (drop_yes h.sys hb rfl).mono ?_
  rintro e w2 ⟨rfl, hs2, hk2⟩
  refine ⟨rfl, hk2, ?_⟩
  refine (rdrop_any (h.fam.keep hk2 fourF) hr).mono ?_
  rintro e w3 ⟨rfl, hf3, hk3⟩
  refine ⟨rfl, ⟨_, _, nx, ⟨hs2.other hk3 (by simp [Mine]), hf3, ?_, h.sim.dropped hb hr, by rw [List.length_set]; exact h.few, by have := h.top; omega, fun j d hd => ?_⟩⟩, hk3.mono (by simp)⟩
  · rw [map_set_at (b' := gone b) hb rfl]
    exact (h.bks.keep hk2 (by simp [Four])).keep hk3 (by simp)
  · rcases get_set hb hd with ⟨rfl, rfl⟩ | ⟨_, hd'⟩
    · show 0 ≤ _; omega
    · have := h.len j d hd'; omega
theorem pa_mark (h : PA base w fB F vB t bs rs nx) (hf : bs.length < 6) {i : Nat} {b : Bk} (hb : bs[i]? = some b) (ho : b.opn = true) :
    Calls Try.prog 30 #[.pointer (some ⟨b.at_, 0, none⟩)] w fun e w2 => ∃ q, e = .returned (.pointer (some ⟨q, 0, none⟩)) ∧ Hid (Keep [90] base w w2) ∧
      Hid (∀ w2', Below w2.heap.size w2 w2' → ∃ a cap w3, (Builtin.append_ #[52, 52] 52 #[vB, .slice (some ⟨w2'.heap.size, 0, none⟩) 1 1]).run Try.prog (w2'.alloc (.cells #[.pointer (some ⟨q, 0, none⟩)] 50)) = .ok (.slice a (bs.length + 1) cap) w3 ∧ Keep [50] base w2' w3 ∧
        Calls Try.prog 31 #[.pointer (some ⟨fB, 0, none⟩), .int .i64 (i : Int)] w3 fun e w4 => e = .returned (.tuple #[]) ∧
          Hid (∃ bs' rs' nx', PA base w4 fB F (.slice a (bs.length + 1) cap) (t + 1) bs' rs' nx' ∧ bs'.length = bs.length + 1) ∧ Hid (Keep [58, 55] base w3 w4)) := by
  obtain ⟨r, hr, r1, r2, r3⟩ := h.ref hb
  refine (mark_yes h.sys (by omega) hb rfl ho).mono ?_
  rintro e w2 ⟨q, v, rfl, hq, hs2, hk2⟩
  refine ⟨q, rfl, hk2, fun w2' hbw => ?_⟩
  have kk : Keep [] base w2 w2' := keepB hs2.size hbw
  have hml : (bs.map (·.at_)).length = bs.length := List.length_map _
  obtain ⟨a, cap, w3, hrun, hbk3, hk3⟩ := ((h.bks.keep hk2 (by simp)).keep kk (by simp)).push (Nat.le_trans hs2.size hbw.size) (by rw [hml]; omega) q 52
  rw [hml] at hrun hbk3
  refine ⟨a, cap, w3, hrun, hk3, ?_⟩
  have hf3 := ((h.fam.keep hk2 (by simp [Mine])).keep kk (by simp)).keep hk3 (by simp [Mine])
  have hs3 := (hs2.below hbw).push hk3
  refine (rmark_any hf3 hs3.size (by rw [← h.sim.len]; omega) hr).mono ?_
  rintro e w4 ⟨rfl, hf4, hk4⟩
  refine ⟨rfl, ⟨_, _, nx, ⟨hs3.other hk4 (by simp [Mine]), hf4, ?_, h.sim.marked hb hr rfl rfl rfl rfl rfl, by rw [List.length_append, List.length_singleton]; omega, by have := h.top; omega, fun j d hd => ?_⟩, by rw [List.length_append, List.length_singleton]⟩, hk4⟩
  · rw [List.map_append]
    exact hbk3.keep hk4 (by simp)
  · rcases Nat.lt_or_ge j bs.length with hj | hj
    · rw [List.getElem?_append_left hj] at hd
      have := h.len j d hd; omega
    · rw [List.getElem?_append_right hj] at hd
      have hj0 : j - bs.length = 0 := by
        rcases Nat.eq_zero_or_pos (j - bs.length) with h | h
        · exact h
        · rw [List.getElem?_eq_none (by simp; omega)] at hd; cases hd
      rw [hj0] at hd
      cases hd
      show b.len ≤ _
      have := h.len i b hb; omega
end
end Go.Proofs.Ytmipgpkeegggpaa.P
