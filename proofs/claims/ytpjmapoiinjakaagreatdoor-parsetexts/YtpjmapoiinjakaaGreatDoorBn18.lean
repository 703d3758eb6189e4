/- Texts: QS QA. -/
import Derived.Test.YtpjmapoiinjakaaGreatDoorBn17
import Derived.BigRegion
section
namespace Go.Proofs.YtpjmapoiinjakaaGreatDoor.Rd
open Go.RowKit
open L (tkA own_block own_below intOf info_of size_list FoundT plc rtoken_any)
set_option linter.unusedVariables false
theorem tok_step (src : ByteArray) (p : Nat) (hp : p ≤ src.size) : Lx.run src.data.toList (src.data.toList.length + 1) p = if (Lx.tok src.data.toList p).k = 0 ∨ (Lx.tok src.data.toList p).k = 6 then [Lx.tok src.data.toList p] else Lx.tok src.data.toList p :: Lx.run src.data.toList (src.data.toList.length + 1) (Lx.tok src.data.toList p).e :=
  Lx.all_step _ _ (by rw [size_list]; exact hp)
theorem TokAt.nx {src : ByteArray} {s : Rp.Rt} {E : Nat} (h : TokAt src s E) : ∃ p, p ≤ src.size ∧ s.toks = Lx.run src.data.toList (src.data.toList.length + 1) p ∧ ((Rp.nx s).k ≠ 6 → E = (Rp.nx s).e) ∧ Rp.nx s = Lx.tok src.data.toList p := by
  obtain ⟨p, hp, e, hE⟩ := h
  refine ⟨p, hp, e, hE, ?_⟩
  unfold Rp.nx
  rw [e, tok_step src p hp]
  split <;> rfl
/-- On to the next token, where there is one. -/
theorem TokAt.on {src : ByteArray} {s : Rp.Rt} {E : Nat} (h : TokAt src s E) (h0 : (Rp.nx s).k ≠ 0) (h6 : (Rp.nx s).k ≠ 6) :
    E ≤ src.size ∧ Rp.nx (Rp.move s) = Lx.tok src.data.toList E ∧ (∀ E', ((Lx.tok src.data.toList E).k ≠ 6 → E' = (Lx.tok src.data.toList E).e) → TokAt src (Rp.move s) E') ∧ (Rp.move s).nodes = s.nodes ∧ (Rp.move s).bad = s.bad := by
  obtain ⟨p, hp, e, hE, hn⟩ := h.nx
  have hE := hE h6
  have ht := Lx.tok_ok src.data.toList p (by rw [size_list]; exact hp)
  rw [hn] at h0 h6 hE
  rw [tok_step src p hp, if_neg (by rintro (h | h) <;> contradiction), ← hE] at e
  have hEs : E ≤ src.size := by rw [hE]; have := ht.2.2.1; rwa [size_list] at this
  have hl := (run_len src.data.toList (src.data.toList.length + 1) E).2
  have hm : Rp.move s = { s with toks := Lx.run src.data.toList (src.data.toList.length + 1) E } := by
    unfold Rp.move; rw [if_pos (by rw [e, List.length_cons]; omega), e]; rfl
  have hn' : Rp.nx (Rp.move s) = Lx.tok src.data.toList E := by
    rw [hm]; unfold Rp.nx; show List.headD (Lx.run _ _ E) _ = _; rw [tok_step src E hEs]; split <;> rfl
  exact ⟨hEs, hn', fun E' h' => ⟨E, hEs, by rw [hm], by rw [hn']; exact h'⟩, by rw [hm], by rw [hm]⟩
theorem set6 {w : World} {b : Nat} {x0 x1 x2 x3 x4 x5 x6 x7 x8 x9 : Value} {t : TypeId} (h : w.heap[b]? = some (.cells #[x0, x1, x2, x3, x4, x5, x6, x7, x8, x9] t (0, 0))) (y1 y2 y3 y4 y5 y6 : Value) :
    ((((((w.setCell ⟨b, 1, none⟩ y1).setCell ⟨b, 2, none⟩ y2).setCell ⟨b, 3, none⟩ y3).setCell ⟨b, 4, none⟩ y4).setCell ⟨b, 5, none⟩ y5).setCell ⟨b, 6, none⟩ y6).heap[b]? = some (.cells #[x0, y1, y2, y3, y4, y5, y6, x7, x8, x9] t (0, 0)) := by
  simp [World.setCell, Array.getElem?_modify, h]
theorem set8 {w : World} {b : Nat} {x0 x1 x2 x3 x4 x5 x6 x7 x8 x9 : Value} {t : TypeId} (h : w.heap[b]? = some (.cells #[x0, x1, x2, x3, x4, x5, x6, x7, x8, x9] t (0, 0))) (y : Value) : (w.setCell ⟨b, 8, none⟩ y).heap[b]? = some (.cells #[x0, x1, x2, x3, x4, x5, x6, x7, y, x9] t (0, 0)) := by
  simp [World.setCell, Array.getElem?_modify, h]
theorem set9 {w : World} {b : Nat} {x0 x1 x2 x3 x4 x5 x6 x7 x8 x9 : Value} {t : TypeId} (h : w.heap[b]? = some (.cells #[x0, x1, x2, x3, x4, x5, x6, x7, x8, x9] t (0, 0))) (y : Value) : (w.setCell ⟨b, 9, none⟩ y).heap[b]? = some (.cells #[x0, x1, x2, x3, x4, x5, x6, x7, x8, y] t (0, 0)) := by
  simp [World.setCell, Array.getElem?_modify, h]
theorem set7 {w : World} {b : Nat} {x0 x1 x2 x3 x4 x5 x6 x7 x8 x9 : Value} {t : TypeId} (h : w.heap[b]? = some (.cells #[x0, x1, x2, x3, x4, x5, x6, x7, x8, x9] t (0, 0))) (y : Value) : (w.setCell ⟨b, 7, none⟩ y).heap[b]? = some (.cells #[x0, x1, x2, x3, x4, x5, x6, y, x8, x9] t (0, 0)) := by
  simp [World.setCell, Array.getElem?_modify, h]
section
variable {src : ByteArray} {F : Nat → Prop} {base B dep : Nat} {s s' : Rp.Rt} {nv : Value} {w : World}
theorem Leaves.same (h : RS src F base B dep s nv w) : Leaves src F base B dep nv w s w := ⟨nv, h, Chg.refl _ _ _⟩
/-- What move's store leaves. -/
theorem RS.moved {w1 : World} (h : RS src F base B dep s nv w) (h0 : (Rp.nx s).k ≠ 0) (h6 : (Rp.nx s).k ≠ 6) (E x E' : Nat) (hT : TokAt src s E) (hx : x ≤ 1) (hb : s.bad = false → x = 0)
    (hc : w.heap[B]? = some (.cells (rdA src (Rp.nx s) E nv (dep + x) s.bad) 53 (0, 0))) (hW : Below w.heap.size w w1) (T : Lx.Tk) (hTT : T = Lx.tok src.data.toList E) (hE' : T.k ≠ 6 → E' = T.e) :
    Leaves src F base B dep nv w (Rp.move s) ((((((w1.setCell ⟨B, 1, none⟩ (.int .i64 (T.k : Int))).setCell ⟨B, 2, none⟩ (.string ⟨T.t.toArray⟩)).setCell ⟨B, 3, none⟩ (.int .i64 (T.n : Int))).setCell ⟨B, 4, none⟩ (.int .i64 (T.a : Int))).setCell ⟨B, 5, none⟩ (.bool T.ln)).setCell ⟨B, 6, none⟩ (.int .i64 (E' : Int))) := by
  subst hTT
  obtain ⟨hEs, hn, hat, hnd, hbd⟩ := hT.on h0 h6
  have c0 : ChgB B w w1 := Chg.below _ hW
  have cc : ChgB B w _ := (((((c0.setBB 1 (.int .i64 ((Lx.tok src.data.toList E).k : Int))).setBB 2 (.string ⟨(Lx.tok src.data.toList E).t.toArray⟩)).setBB 3 (.int .i64 ((Lx.tok src.data.toList E).n : Int))).setBB 4 (.int .i64 ((Lx.tok src.data.toList E).a : Int))).setBB 5 (.bool (Lx.tok src.data.toList E).ln)).setBB 6 (.int .i64 (E' : Int))
  refine ⟨nv, h.turn cc hnd h.low (hat E' hE') hx (by rw [hbd]; exact hb) ?_, cc.chg nv⟩
  rw [hn, hbd]
  exact set6 ((hW.block B h.lt).trans hc) _ _ _ _ _ _
set_option maxRecDepth 100000 in
set_option maxHeartbeats 2000000 in
theorem move_any (h : RS src F base B dep s nv w) (h0 : (Rp.nx s).k ≠ 0) (h6 : (Rp.nx s).k ≠ 6) :
    Calls Tryz.prog 63 #[.pointer (some ⟨B, 0, none⟩)] w (Tells src F base B dep nv w (Rp.move s) (.tuple #[])) := by
  obtain ⟨E, x, hT, hx, hb, hc, c0, c1, c2, c3, c4, c5, c6, c7, c8, c9, cf, hlt⟩ := h.cells
  have hEs := (hT.on h0 h6).1
  have hs := h.sm
  have HK : Hid (∀ W, Below w.heap.size w W → Calls Tryz.prog 17 #[.string src, .int .i64 (E : Int)] W fun e w' => ∃ (T : Lx.Tk) (E' : Nat), e = .returned (.agg #[.int .i64 (T.k : Int), .string ⟨T.t.toArray⟩, .int .i64 (T.n : Int), .int .i64 (T.a : Int), .bool T.ln, .int .i64 (E' : Int)]) ∧ Hid (T = Lx.tok src.data.toList E) ∧ Hid (T.k ≠ 6 → E' = T.e) ∧ Hid (Below w.heap.size w w') ∧ B < w'.heap.size ∧ w'.frozen? ⟨B, 1, none⟩ = false ∧ w'.frozen? ⟨B, 2, none⟩ = false ∧ w'.frozen? ⟨B, 3, none⟩ = false ∧ w'.frozen? ⟨B, 4, none⟩ = false ∧ w'.frozen? ⟨B, 5, none⟩ = false ∧ w'.frozen? ⟨B, 6, none⟩ = false ∧ w'.cell? ⟨B, 1, none⟩ = some (.int .i64 ((Rp.nx s).k : Int)) ∧ w'.cell? ⟨B, 2, none⟩ = some (.string ⟨(Rp.nx s).t.toArray⟩) ∧ w'.cell? ⟨B, 3, none⟩ = some (.int .i64 ((Rp.nx s).n : Int)) ∧ w'.cell? ⟨B, 4, none⟩ = some (.int .i64 ((Rp.nx s).a : Int)) ∧ w'.cell? ⟨B, 5, none⟩ = some (.bool (Rp.nx s).ln) ∧ w'.cell? ⟨B, 6, none⟩ = some (.int .i64 (E : Int))) := fun W hW => by
    have hh := rtoken_any src (E : Int) W (by omega)
    rw [show plc (E : Int) src.size = E by unfold plc; omega] at hh
    refine hh.mono ?_
    rintro e w' ⟨⟨E', rfl, hE'⟩, hb'⟩
    have hb2 := hW.trans (hb'.mono hW.size)
    obtain ⟨-, d1, d2, d3, d4, d5, d6, -, -, -, df, dl⟩ := cells10h ((hb2.block B hlt).trans hc)
    exact ⟨_, E', rfl, rfl, hE', hb2, dl, df 1, df 2, df 3, df 4, df 5, df 6, d1, d2, d3, d4, d5, d6⟩
  have HM : Hid (∀ w1 T E', Below w.heap.size w w1 → T = Lx.tok src.data.toList E → (T.k ≠ 6 → E' = T.e) → Leaves src F base B dep nv w (Rp.move s) ((((((w1.setCell ⟨B, 1, none⟩ (.int .i64 (T.k : Int))).setCell ⟨B, 2, none⟩ (.string ⟨T.t.toArray⟩)).setCell ⟨B, 3, none⟩ (.int .i64 (T.n : Int))).setCell ⟨B, 4, none⟩ (.int .i64 (T.a : Int))).setCell ⟨B, 5, none⟩ (.bool T.ln)).setCell ⟨B, 6, none⟩ (.int .i64 (E' : Int)))) := fun w1 T E' h1 h2 h3 => h.moved h0 h6 E x E' hT hx hb hc h1 T h2 h3
  clear h hT hx hb hc h0 h6 hEs hs
  go_enter Tryz.func63, Tryz.ntmps63
  go_region_with ((go_at_call 17; refine Calls.mono (HK.out _ (by repeat (first | with_reducible exact Below.refl _ _ | with_reducible refine Below.drew ?_))) ?_; rintro e w1 ⟨T, E', rfl, hTT, hE', hB1, hl1, f1, f2, f3, f4, f5, f6, d1, d2, d3, d4, d5, d6⟩; try dsimp only))
  all_goals
    go_wp2_with fail
    go_end0
    exact ⟨rfl, HM.out _ _ _ hB1.out hTT.out hE'.out⟩
/-- A change of the state alone, as a part. -/
def up (f : Rp.Rt → Rp.Rt) : Rp.Q Unit := fun r => ((), f r)
theorem isS_k {m : List UInt8} (h : Rp.isS m s = true) : (Rp.nx s).k ≠ 0 ∧ (Rp.nx s).k ≠ 6 := by
  unfold Rp.isS at h
  simp only [Bool.and_eq_true, decide_eq_true_eq] at h
  omega
theorem c_is (h : RS src F base B dep s nv w) (m : List UInt8) : Calls Tryz.prog 35 #[.pointer (some ⟨B, 0, none⟩), .string ⟨m.toArray⟩] w (Tells src F base B dep nv w s (.bool (Rp.isS m s))) := by
  refine (is_any h m).mono ?_
  rintro e w' ⟨rfl, rfl⟩
  exact ⟨rfl, Leaves.same h⟩
set_option maxRecDepth 100000 in
set_option maxHeartbeats 2000000 in
theorem has_any (h : RS src F base B dep s nv w) (m : List UInt8) :
    Calls Tryz.prog 57 #[.pointer (some ⟨B, 0, none⟩), .string ⟨m.toArray⟩] w (Tells src F base B dep nv w (Rp.has m s).2 (.bool (Rp.has m s).1)) := by
  obtain ⟨E, x, -, -, -, -, c0, c1, c2, c3, c4, c5, c6, c7, c8, c9, cf, hlt⟩ := h.cells
  have HI : Hid (_) := is_any h m
  have HS : Hid (_) := Leaves.same h
  by_cases hb : s.bad = true
  · have e : Rp.has m s = (false, s) := by unfold Rp.has; rw [hb]; rfl
    rw [e]
    rw [hb] at c9
    clear h e hb
    go_enter Tryz.func57, Tryz.ntmps57
    go_wp2_with fail
    go_ret
    exact ⟨rfl, HS.out⟩
  have hb' : s.bad = false := by simpa using hb
  rw [hb'] at c9
  by_cases hi : Rp.isS m s = true
  · have e : Rp.has m s = (true, Rp.move s) := by unfold Rp.has; rw [hb', hi]; rfl
    rw [e]
    rw [hi] at HI
    have HM : Hid (_) := move_any h (isS_k hi).1 (isS_k hi).2
    clear h e hb hb' hi HS
    generalize Rp.move s = s1 at *
    go_enter Tryz.func57, Tryz.ntmps57
    go_wp2_with fail
    refine Calls.mono HI.out ?_
    rintro e w1 ⟨rfl, rfl⟩
    go_wp2_with fail
    refine Calls.mono HM.out ?_
    rintro e w2 ⟨rfl, hl⟩
    go_wp2_with fail
    go_ret
    exact ⟨rfl, hl⟩
  have hi' : Rp.isS m s = false := by simpa using hi
  have e : Rp.has m s = (false, s) := by unfold Rp.has; rw [hb', hi']; rfl
  rw [e]
  rw [hi'] at HI
  clear h e hb hb' hi hi'
  go_enter Tryz.func57, Tryz.ntmps57
  go_wp2_with fail
  refine Calls.mono HI.out ?_
  rintro e w1 ⟨rfl, rfl⟩
  go_wp2_with fail
  go_ret
  exact ⟨rfl, HS.out⟩
theorem c_has {m : List UInt8} {b : Bool} (R : Ru (Rp.has m) s b s') (h : RS src F base B dep s nv w) :
    Calls Tryz.prog 57 #[.pointer (some ⟨B, 0, none⟩), .string ⟨m.toArray⟩] w (Tells src F base B dep nv w s' (.bool b)) := by
  have := has_any h m
  rw [R.eq] at this
  exact this
/-- The reader is bad from here on. -/
theorem RS.spoil (h : RS src F base B dep s nv w) : RS src F base B dep (Rp.spoil s) nv (w.setCell ⟨B, 9, none⟩ (.bool true)) ∧ Chg B nv nv w (w.setCell ⟨B, 9, none⟩ (.bool true)) := by
  obtain ⟨E, x, hT, hx, hb, hc, -⟩ := h.cells
  have cc : ChgB B w (w.setCell ⟨B, 9, none⟩ (.bool true)) := Chg.setB B _ w 9 _
  exact ⟨h.turn (st' := Rp.spoil s) (E := E) (x := x) cc rfl h.low (show TokAt src (Rp.spoil s) E from hT) hx (fun e => by cases e) (set9 hc (.bool true)), cc.chg nv⟩
theorem spoil_bad (h : s.bad = true) : Rp.spoil s = s := by
  obtain ⟨a, b, c⟩ := s
  simp only at h
  subst h
  rfl
set_option maxRecDepth 100000 in
set_option maxHeartbeats 2000000 in
theorem c_must {m : List UInt8} {u : Unit} (R : Ru (up (Rp.must m)) s u s') (h : RS src F base B dep s nv w) :
    Calls Tryz.prog 58 #[.pointer (some ⟨B, 0, none⟩), .string ⟨m.toArray⟩] w (Tells src F base B dep nv w s' (.tuple #[])) := by
  have HH : Hid (_) := has_any h m
  have e : Rp.must m s = s' := congrArg Prod.snd R.eq
  unfold Rp.must at e
  clear R h
  generalize Rp.has m s = P at *
  obtain ⟨b, s1⟩ := P
  cases b
  · simp only at e HH
    subst e
    go_enter Tryz.func58, Tryz.ntmps58
    go_wp2_with fail
    refine Calls.mono HH.out ?_
    rintro e w1 ⟨rfl, nv1, hr, hc⟩
    obtain ⟨E, x, -, -, -, -, c0, c1, c2, c3, c4, c5, c6, c7, c8, c9, cf, hlt⟩ := hr.cells
    have HS : Hid (_) := hr.spoil
    have HC : Hid (_) := hc
    clear hr hc
    go_wp2_with fail
    go_end0
    exact ⟨rfl, nv1, HS.out.1, HC.out.trans HS.out.2⟩
  · simp only at e HH
    subst e
    go_enter Tryz.func58, Tryz.ntmps58
    go_wp2_with fail
    refine Calls.mono HH.out ?_
    rintro e w1 ⟨rfl, hl⟩
    go_wp2_with fail
    go_end0
    exact ⟨rfl, hl⟩
set_option maxRecDepth 100000 in
set_option maxHeartbeats 2000000 in
theorem c_name {t : List UInt8} (R : Ru Rp.rname s t s') (h : RS src F base B dep s nv w) :
    Calls Tryz.prog 62 #[.pointer (some ⟨B, 0, none⟩)] w (Tells src F base B dep nv w s' (.string ⟨t.toArray⟩)) := by
  obtain ⟨E, x, -, -, -, -, c0, c1, c2, c3, c4, c5, c6, c7, c8, c9, cf, hlt⟩ := h.cells
  have e := R.eq
  unfold Rp.rname at e
  have HS : Hid (_) := h.spoil
  by_cases hb : s.bad = true
  · rw [hb] at e
    simp only [Bool.true_or, if_true, Prod.mk.injEq] at e
    obtain ⟨rfl, rfl⟩ := e
    rw [hb] at c9
    clear R h hb
    go_enter Tryz.func62, Tryz.ntmps62
    go_wp2_with fail
    go_ret
    exact ⟨rfl, nv, HS.out.1, HS.out.2⟩
  have hb' : s.bad = false := by simpa using hb
  rw [hb'] at c9
  by_cases hk : (Rp.nx s).k = 3
  · have HM : Hid (_) := move_any h (by omega) (by omega)
    rw [hb', if_neg (by simp [hk])] at e
    simp only [Prod.mk.injEq] at e
    obtain ⟨rfl, rfl⟩ := e
    rw [hk] at c1
    clear R h hb hb' HS hk
    generalize Rp.move s = s1 at *
    go_enter Tryz.func62, Tryz.ntmps62
    go_wp2_with fail
    refine Calls.mono HM.out ?_
    rintro e w2 ⟨rfl, hl⟩
    go_wp2_with fail
    go_ret
    exact ⟨rfl, hl⟩
  rw [hb', if_pos (by simp [hk])] at e
  simp only [Prod.mk.injEq] at e
  obtain ⟨rfl, rfl⟩ := e
  have e3 : (((Rp.nx s).k : Int) == 3) = false := by rw [beq_eq_false_iff_ne]; omega
  have e3' : ¬ ((Rp.nx s).k : Int) = 3 := by omega
  clear R h hb hb' hk
  generalize Rp.nx s = T at *
  go_enter Tryz.func62, Tryz.ntmps62
  go_wp2_with fail
  go_ret
  exact ⟨rfl, nv, HS.out.1, HS.out.2⟩
set_option maxRecDepth 100000 in
set_option maxHeartbeats 2000000 in
/-- One deeper, by the cells alone. -/
theorem in_any {T : Lx.Tk} {E D : Nat} {b : Bool} (hc : w.heap[B]? = some (.cells (rdA src T E nv D b) 53 (0, 0))) (hD : D ≤ 50) :
    Calls Tryz.prog 42 #[.pointer (some ⟨B, 0, none⟩)] w fun e w' => e = .returned (.bool (!(b || decide (40 < D + 1)))) ∧ ChgB B w w' ∧ w'.heap[B]? = some (.cells (rdA src T E nv (D + 1) (b || decide (40 < D + 1))) 53 (0, 0)) := by
  obtain ⟨c0, c1, c2, c3, c4, c5, c6, c7, c8, c9, cf, hlt⟩ := cells10h hc
  have HC : Hid (_) := hc
  clear hc
  by_cases h40 : 40 < D + 1
  · have h40' : (40 : Int) < (D : Int) + 1 := by omega
    rw [decide_eq_true h40]
    go_enter Tryz.func42, Tryz.ntmps42
    go_wp2_with fail
    go_ret
    refine ⟨by simp, (Chg.setB B _ w 8 _).setBB 9 _, ?_⟩
    rw [Bool.or_true]
    exact set9 (set8 HC.out _) _
  · have h40' : ¬ (40 : Int) < (D : Int) + 1 := by omega
    rw [decide_eq_false h40, Bool.or_false]
    go_enter Tryz.func42, Tryz.ntmps42
    go_wp2_with fail
    go_ret
    exact ⟨rfl, Chg.setB B _ w 8 _, set8 HC.out _⟩
set_option maxRecDepth 100000 in
set_option maxHeartbeats 2000000 in
theorem out_any {T : Lx.Tk} {E D : Nat} {b : Bool} (hc : w.heap[B]? = some (.cells (rdA src T E nv (D + 1) b) 53 (0, 0))) (hD : D ≤ 50) :
    Calls Tryz.prog 44 #[.pointer (some ⟨B, 0, none⟩)] w fun e w' => e = .returned (.tuple #[]) ∧ ChgB B w w' ∧ w'.heap[B]? = some (.cells (rdA src T E nv D b) 53 (0, 0)) := by
  obtain ⟨c0, c1, c2, c3, c4, c5, c6, c7, c8, c9, cf, hlt⟩ := cells10h hc
  have HC : Hid (_) := hc
  have hm : ((D : Int) + 1 - 1) = D := by omega
  have c8' : w.cell? ⟨B, 8, none⟩ = some (.int .i64 ((D : Int) + 1)) := c8
  clear hc c8
  go_enter Tryz.func44, Tryz.ntmps44
  go_wp2_with fail
  go_end0
  exact ⟨rfl, Chg.setB B _ w 8 _, set8 HC.out _⟩
set_option maxRecDepth 100000 in
set_option maxHeartbeats 2000000 in
theorem c_ende {u : Unit} (R : Ru (up Rp.ende) s u s') (h : RS src F base B dep s nv w) :
    Calls Tryz.prog 61 #[.pointer (some ⟨B, 0, none⟩)] w (Tells src F base B dep nv w s' (.tuple #[])) := by
  have HH : Hid (_) := has_any h [59]
  have e : Rp.ende s = s' := congrArg Prod.snd R.eq
  unfold Rp.ende at e
  clear R h
  generalize Rp.has [59] s = P at *
  obtain ⟨b, s1⟩ := P
  cases b
  · simp only at e HH
    by_cases hb : s1.bad = true
    · rw [if_pos hb] at e
      subst e
      go_enter Tryz.func61, Tryz.ntmps61
      go_wp2_with fail
      refine Calls.mono HH.out ?_
      rintro e w1 ⟨rfl, nv1, hr, hc⟩
      obtain ⟨E, x, -, -, -, -, c0, c1, c2, c3, c4, c5, c6, c7, c8, c9, cf, hlt⟩ := hr.cells
      rw [hb] at c9
      have HC : Hid (_) := hc
      have HR : Hid (_) := hr
      clear hr hc
      go_wp2_with fail
      go_end0
      exact ⟨rfl, nv1, HR.out, HC.out⟩
    have hb' : s1.bad = false := by simpa using hb
    rw [if_neg hb] at e
    go_enter Tryz.func61, Tryz.ntmps61
    go_wp2_with fail
    refine Calls.mono HH.out ?_
    rintro e1 w1 ⟨rfl, nv1, hr, hc⟩
    obtain ⟨E, x, -, -, -, -, c0, c1, c2, c3, c4, c5, c6, c7, c8, c9, cf, hlt⟩ := hr.cells
    rw [hb'] at c9
    have HC : Hid (_) := hc
    have HR : Hid (_) := hr
    have HI : Hid (_) := is_any hr [125]
    have HS : Hid (_) := hr.spoil
    clear hr hc HH
    by_cases hk : (Rp.nx s1).k = 0
    · rw [hk] at c1
      rw [if_neg (by simp [hk])] at e
      subst e
      go_wp2_with fail
      go_end0
      exact ⟨rfl, nv1, HR.out, HC.out⟩
    have e0 : (((Rp.nx s1).k : Int) == 0) = false := by rw [beq_eq_false_iff_ne]; omega
    have e0' : ¬ ((Rp.nx s1).k : Int) = 0 := by omega
    by_cases hi : Rp.isS [125] s1 = true
    · rw [hi] at HI
      rw [if_neg (by simp [hi])] at e
      subst e
      clear hi
      go_wp2_with fail
      refine Calls.mono HI.out ?_
      rintro e2 w2 ⟨rfl, rfl⟩
      go_wp2_with fail
      go_end0
      exact ⟨rfl, nv1, HR.out, HC.out⟩
    have hi' : Rp.isS [125] s1 = false := by simpa using hi
    rw [hi'] at HI
    by_cases hl : (Rp.nx s1).ln = true
    · rw [if_neg (by simp [hl])] at e
      rw [hl] at c5
      subst e
      clear hi hi'
      go_wp2_with fail
      refine Calls.mono HI.out ?_
      rintro e2 w2 ⟨rfl, rfl⟩
      go_wp2_with fail
      go_end0
      exact ⟨rfl, nv1, HR.out, HC.out⟩
    have hl' : (Rp.nx s1).ln = false := by simpa using hl
    rw [if_pos (by simp [hl', hi', hk])] at e
    rw [hl'] at c5
    subst e
    clear hi hi'
    go_wp2_with fail
    refine Calls.mono HI.out ?_
    rintro e2 w2 ⟨rfl, rfl⟩
    go_wp2_with fail
    go_end0
    exact ⟨rfl, nv1, HS.out.1, HC.out.trans HS.out.2⟩
  · simp only at e HH
    subst e
    go_enter Tryz.func61, Tryz.ntmps61
    go_wp2_with fail
    refine Calls.mono HH.out ?_
    rintro e w1 ⟨rfl, hl⟩
    go_wp2_with fail
    go_end0
    exact ⟨rfl, hl⟩
end
end Go.Proofs.YtpjmapoiinjakaaGreatDoor.Rd
end
section
namespace Go.Proofs.YtpjmapoiinjakaaGreatDoor.Rd
open Go.RowKit
open L (tkA own_block own_below intOf info_of size_list)
set_option linter.unusedVariables false
theorem KidsIn.same {W W' : World} {v : Value} {l : List Nat} (h : KidsIn W v l) (hs : W.heap.size ≤ W'.heap.size) (hb : ∀ k, blockOf v = some k → k < W.heap.size → W'.heap[k]? = W.heap[k]?) : KidsIn W' v l := by
  obtain ⟨ad, cap, rfl, hc, h⟩ := h
  refine ⟨ad, cap, rfl, hc, ?_⟩
  rcases h with h | ⟨g, rfl, h1, h2⟩
  · exact .inl h
  · exact .inr ⟨g, rfl, Nat.lt_of_lt_of_le h1 hs, fun j hj => (cell_of_block (hb g rfl h1) j).trans (h2 j hj)⟩
theorem NamesIn.same {W W' : World} {v : Value} {l : List (List UInt8)} (h : NamesIn W v l) (hs : W.heap.size ≤ W'.heap.size) (hb : ∀ k, blockOf v = some k → k < W.heap.size → W'.heap[k]? = W.heap[k]?) : NamesIn W' v l := by
  obtain ⟨ad, cap, rfl, hc, h⟩ := h
  refine ⟨ad, cap, rfl, hc, ?_⟩
  rcases h with h | ⟨g, rfl, h1, h2⟩
  · exact .inl h
  · exact .inr ⟨g, rfl, Nat.lt_of_lt_of_le h1 hs, fun j hj => (cell_of_block (hb g rfl h1) j).trans (h2 j hj)⟩
/-- The reader where only other ones' blocks have changed, and some are new. -/
theorem RS.grow {src : ByteArray} {F F' : Nat → Prop} {base B dep : Nat} {s : Rp.Rt} {nv : Value} {W W' : World} (h : RS src F base B dep s nv W) (hs : W.heap.size ≤ W'.heap.size) (hb : ∀ k, k < W.heap.size → ¬ F k → W'.heap[k]? = W.heap[k]?)
    (hF : ∀ k, F' k → (F k ∨ W.heap.size ≤ k) ∧ k < W'.heap.size) : RS src F' base B dep s nv W' := by
  have hlB := h.lt
  obtain ⟨E, x, g0, g1, g2, h1⟩ := h.rd
  obtain ⟨vs, e, ho, hn⟩ := h.nd
  have nB : ¬ F B := fun hf => (h.far B hf).2.1 rfl
  have ap : ∀ v, Apart F B nv v → (∀ k, blockOf v = some k → k < W.heap.size) → Apart F' B nv v := fun v ha hl k hk => ⟨(ha k hk).1, (ha k hk).2.1, fun hf => by
    rcases (hF k hf).1 with e | e
    · exact (ha k hk).2.2 e
    · have := hl k hk; omega⟩
  have sm : ∀ v, Apart F B nv v → ∀ k, blockOf v = some k → k < W.heap.size → W'.heap[k]? = W.heap[k]? := fun v ha k hk hl => hb k hl (ha k hk).2.2
  have nl := own_block ho
  refine ⟨h.hB, h.sm, h.low, ⟨E, x, g0, g1, g2, (hb B hlB nB).trans h1⟩, ⟨vs, e, own_keep ho (fun k hk => hb k (nl k hk).2 (fun hf => (h.far k hf).2.2 hk)), fun x hx => ?_⟩, h.own, fun k hk => ⟨(hF k hk).2, ?_, ?_⟩⟩
  · have hx' := hn x hx
    exact ⟨hx'.names.same hs (sm _ hx'.anm), hx'.kids.same hs (sm _ hx'.akd), ap _ hx'.anm hx'.lnm, ap _ hx'.akd hx'.lkd, fun k hk => Nat.lt_of_lt_of_le (hx'.lnm k hk) hs, fun k hk => Nat.lt_of_lt_of_le (hx'.lkd k hk) hs⟩
  · rcases (hF k hk).1 with e | e
    · exact (h.far k e).2.1
    · omega
  · rcases (hF k hk).1 with e | e
    · exact (h.far k e).2.2
    · intro e2; have := (nl k e2).2; omega
section
variable {src : ByteArray} {F F' : Nat → Prop} {base B dep : Nat} {s : Rp.Rt} {nv : Value} {W : World}
/-- A store into another one's block keeps the reader. -/
theorem RS.foreign (h : RS src F base B dep s nv W) {X : Nat} (hX : F X) (i : Nat) (u : Value) : RS src F base B dep s nv (W.setCell ⟨X, i, none⟩ u) := by
  have hs : (W.setCell ⟨X, i, none⟩ u).heap.size = W.heap.size := by simp [World.setCell]
  exact h.grow (by rw [hs]; exact Nat.le_refl _) (fun k _ hn => Below.heap_setCell W ⟨X, i, none⟩ u k (by show k ≠ X; rintro rfl; exact hn hX)) (fun k hk => ⟨.inl hk, by rw [hs]; exact (h.far k hk).1⟩)
/-- A new block is another one's. -/
theorem RS.more (h : RS src F base B dep s nv W) (o : Obj) : RS src (fun k => F k ∨ k = W.heap.size) base B dep s nv (W.alloc o) :=
  h.grow (by rw [alloc_size']; omega) (fun k hk _ => Below.heap_alloc W o k hk) (fun k hk => by
    rw [alloc_size']
    rcases hk with hk | rfl
    · exact ⟨.inl hk, by have := (h.far k hk).1; omega⟩
    · exact ⟨.inr (Nat.le_refl _), by omega⟩)
/-- Fewer blocks are other ones'. -/
theorem RS.less (h : RS src F base B dep s nv W) (hF : ∀ k, F' k → F k) : RS src F' base B dep s nv W :=
  h.grow (Nat.le_refl _) (fun _ _ _ => rfl) (fun k hk => ⟨.inl (hF k hk), (h.far k (hF k hk)).1⟩)
/-- The reader with a node more. -/
theorem RS.added {v' : Value} {w' : World} {vs : List (Ps.Nd × Value × Value)} {n : Ps.Nd} {nm kd : Value} (h : RS src F base B dep s nv W) (e : vs.map (·.1) = s.nodes) (hvs : ∀ x ∈ vs, NdIn F W B nv x.1 x.2.1 x.2.2)
    (hA : Added base W nv vs (n, nm, kd) v' w') (hx : NdIn F W B nv n nm kd) :
    RS src F base B dep (Rp.put n s).2 v' (w'.setCell ⟨B, 7, none⟩ v') ∧ Chg B nv v' W (w'.setCell ⟨B, 7, none⟩ v') := by
  have c0 : Chg B nv v' W w' := ⟨hA.os, hA.tape, hA.output, hA.size, fun k h1 _ h3 => hA.block k h1 h3, hA.fresh⟩
  have c := c0.setBB 7 v'
  have hB := h.lt
  obtain ⟨E, x, g0, g1, g2, h1⟩ := h.rd
  have hnB : v'.ownBlock ≠ some B := fun e => by
    rcases hA.fresh B e with e | e
    · exact h.own e
    · omega
  refine ⟨⟨h.hB, h.sm, h.low, ⟨E, x, (show TokAt src (Rp.put n s).2 E from g0), g1, g2, set7 ((hA.block B hB h.own).trans h1) v'⟩, ⟨vs ++ [(n, nm, kd)], ?_, own_keep hA.own (fun k hk => Below.heap_setCell _ _ _ _ (by show k ≠ B; intro e; subst e; exact hnB hk)), fun x hm => ?_⟩, hnB, fun k hk => ⟨Nat.lt_of_lt_of_le (h.far k hk).1 c.size, (h.far k hk).2.1, fun e => by
    rcases hA.fresh k e with e | e
    · exact (h.far k hk).2.2 e
    · have := (h.far k hk).1; omega⟩⟩, c⟩
  · rw [List.map_append, e]; rfl
  · rcases List.mem_append.1 hm with hm | hm
    · exact (hvs x hm).go c
    · rw [List.mem_singleton] at hm
      subst hm
      exact hx.go c
end
/-- What the walk is told behind the append. -/
def AddR (base B : Nat) (w : World) (nv : Value) (vs : List (Ps.Nd × Value × Value)) (x : Ps.Nd × Value × Value) (v' : Value) (w' : World) : Prop :=
  ∃ ad cap, v' = .slice ad (vs.length + 1) cap ∧ Hid (Added base w nv vs x (.slice ad (vs.length + 1) cap) w') ∧ w'.cell? ⟨B, 7, none⟩ = some nv ∧ w'.frozen? ⟨B, 7, none⟩ = false ∧ B < w'.heap.size
set_option maxRecDepth 100000 in
set_option maxHeartbeats 2000000 in
theorem put_any {src : ByteArray} {F : Nat → Prop} {base B dep : Nat} {s : Rp.Rt} {nv : Value} {w : World} (h : RS src F base B dep s nv w) (hlen : s.nodes.length ≤ 1000000000) (n : Ps.Nd) (nm kd : Value) (hx : NdIn F w B nv n nm kd) (h1 : nm.oneCell' = true) (h2 : kd.oneCell' = true) :
    Calls Tryz.prog 19 #[.pointer (some ⟨B, 0, none⟩), .agg (ndA n nm kd)] w (Tells src F base B dep nv w (Rp.put n s).2 (.int .i64 (s.nodes.length : Int))) := by
  have hbw := h.hbw
  obtain ⟨E, x, -, -, -, e1⟩ := h.rd
  obtain ⟨vs, e, ho, hvs⟩ := h.nd
  have hvl : vs.length = s.nodes.length := by rw [← e, List.length_map]
  obtain ⟨q0, q1, q2, q3, q4, q5, q6, q7, q8, q9, f0, hlt⟩ := cells10h e1
  have HP : Hid (∀ W X, Below w.heap.size w W → W.heap[X]? = some (.cells #[.int .i64 (n.k : Int), .int .i64 (n.n : Int), .string ⟨n.t.toArray⟩, nm, kd, .int .i64 (n.a : Int)] 43 (0, 0)) → ∀ ty, ∃ v' w', (Builtin.append_ #[27, 27] ty #[nv, .slice (some ⟨X, 0, none⟩) 1 1]).run Tryz.prog W = .ok v' w' ∧ AddR base B w nv vs (n, nm, kd) v' w') := fun W X hW hX ty => by
    obtain ⟨v', w', hr, hA⟩ := nd_more ho hbw (by omega) (n, nm, kd) h1 h2 ty hW X hX
    obtain ⟨ad, cap, rfl⟩ := hA.form
    obtain ⟨p0, p1, p2, p3, p4, p5, p6, p7, p8, p9, g, hl⟩ := cells10h ((hA.block B hlt h.own).trans e1)
    exact ⟨_, w', hr, ad, cap, rfl, hA, p7, g 7, hl⟩
  have HM : Hid (∀ v' w', Added base w nv vs (n, nm, kd) v' w' → RS src F base B dep (Rp.put n s).2 v' (w'.setCell ⟨B, 7, none⟩ v') ∧ Chg B nv v' w (w'.setCell ⟨B, 7, none⟩ v')) := fun v' w' hA => h.added e hvs hA hx
  have HL : Hid (s.nodes.length = vs.length) := hvl.symm
  have hm : ((vs.length : Int) + 1 - 1) = vs.length := by omega
  have hvb : (vs.length : Int) ≤ 1000000000 := by omega
  clear h e e1 hvs ho hx hvl hlen
  obtain ⟨nk, nn, nt, nms, nks, na⟩ := n
  simp only at HP ⊢
  go_enter Tryz.func19, Tryz.ntmps19
  go_wp2_with fail
  go_region_law ((refine step_append_ex (by rfl) _ _ 27 (by rfl) _ _ (by rfl) (by rfl) (AddR base B w nv vs (⟨nk, nn, nt, nms, nks, na⟩, nm, kd)) (HP.out _ _ (by repeat (first | with_reducible exact Below.refl _ _ | (with_reducible refine Below.drew ?_) | (with_reducible refine Below.alloc ?_ (by first | exact Nat.le_refl _ | (simp; omega) | simp) _))) (by first | exact heap_alloc_new _ _ _ | exact alloc_drew_new _ _ _ | exact alloc2_new _ _ _ _) _) ?_; rintro v' w7 ⟨a7, cap7, rfl, HA7, hc7, hf7, hl7⟩))
  all_goals
    go_wp2_with fail
    go_ret
    exact ⟨congrArg (fun x : Nat => Ending.returned (Value.int .i64 (x : Int))) HL.out.symm, _, by first | exact HM.out _ _ HA7.out | exact HM.out _ _ HA7.out.drew⟩
abbrev nil0 : Value := .slice none 0 0
/-- Kids, names beside the reader. -/
structure KV (F : Nat → Prop) (B : Nat) (nv : Value) (W : World) (v : Value) (K : List Nat) : Prop where
  kids : KidsIn W v K
  ap : Apart F B nv v
  lt : ∀ k, blockOf v = some k → k < W.heap.size
  one : v.oneCell' = true
structure NV (F : Nat → Prop) (B : Nat) (nv : Value) (W : World) (v : Value) (K : List (List UInt8)) : Prop where
  names : NamesIn W v K
  ap : Apart F B nv v
  lt : ∀ k, blockOf v = some k → k < W.heap.size
  one : v.oneCell' = true
theorem KV.nil (F : Nat → Prop) (B : Nat) (nv : Value) (W : World) : KV F B nv W (.slice none 0 0) [] := ⟨⟨none, 0, rfl, Nat.le_refl _, .inl rfl⟩, (fun _ h => nomatch h), (fun _ h => nomatch h), rfl⟩
theorem NV.nil (F : Nat → Prop) (B : Nat) (nv : Value) (W : World) : NV F B nv W (.slice none 0 0) [] := ⟨⟨none, 0, rfl, Nat.le_refl _, .inl rfl⟩, (fun _ h => nomatch h), (fun _ h => nomatch h), rfl⟩
theorem KV.go {F : Nat → Prop} {B : Nat} {nv nv' v : Value} {W W' : World} {K : List Nat} (h : KV F B nv W v K) (c : Chg B nv nv' W W') : KV F B nv' W' v K := ⟨h.kids.go h.ap c, h.ap.go h.lt c, fun k hk => Nat.lt_of_lt_of_le (h.lt k hk) c.size, h.one⟩
theorem NV.go {F : Nat → Prop} {B : Nat} {nv nv' v : Value} {W W' : World} {K : List (List UInt8)} (h : NV F B nv W v K) (c : Chg B nv nv' W W') : NV F B nv' W' v K := ⟨h.names.go h.ap c, h.ap.go h.lt c, fun k hk => Nat.lt_of_lt_of_le (h.lt k hk) c.size, h.one⟩
theorem KV.set {F : Nat → Prop} {B : Nat} {nv v : Value} {W : World} {K : List Nat} (h : KV F B nv W v K) {X : Nat} (hX : F X) (i : Nat) (u : Value) : KV F B nv (W.setCell ⟨X, i, none⟩ u) v K := by
  have hs : (W.setCell ⟨X, i, none⟩ u).heap.size = W.heap.size := by simp [World.setCell]
  exact ⟨h.kids.same (by rw [hs]; exact Nat.le_refl _) (fun k hk _ => Below.heap_setCell W ⟨X, i, none⟩ u k (by show k ≠ X; intro e; exact (h.ap k hk).2.2 (e ▸ hX))), h.ap, fun k hk => by rw [hs]; exact h.lt k hk, h.one⟩
theorem NV.set {F : Nat → Prop} {B : Nat} {nv v : Value} {W : World} {K : List (List UInt8)} (h : NV F B nv W v K) {X : Nat} (hX : F X) (i : Nat) (u : Value) : NV F B nv (W.setCell ⟨X, i, none⟩ u) v K := by
  have hs : (W.setCell ⟨X, i, none⟩ u).heap.size = W.heap.size := by simp [World.setCell]
  exact ⟨h.names.same (by rw [hs]; exact Nat.le_refl _) (fun k hk _ => Below.heap_setCell W ⟨X, i, none⟩ u k (by show k ≠ X; intro e; exact (h.ap k hk).2.2 (e ▸ hX))), h.ap, fun k hk => by rw [hs]; exact h.lt k hk, h.one⟩
theorem KV.less {F F' : Nat → Prop} {B : Nat} {nv v : Value} {W : World} {K : List Nat} (h : KV F B nv W v K) (hF : ∀ k, F' k → F k) : KV F' B nv W v K := ⟨h.kids, fun k hk => ⟨(h.ap k hk).1, (h.ap k hk).2.1, fun e => (h.ap k hk).2.2 (hF k e)⟩, h.lt, h.one⟩
theorem NV.less {F F' : Nat → Prop} {B : Nat} {nv v : Value} {W : World} {K : List (List UInt8)} (h : NV F B nv W v K) (hF : ∀ k, F' k → F k) : NV F' B nv W v K := ⟨h.names, fun k hk => ⟨(h.ap k hk).1, (h.ap k hk).2.1, fun e => (h.ap k hk).2.2 (hF k e)⟩, h.lt, h.one⟩
/-- Kids that are written down in a new block. -/
theorem KV.lit {src : ByteArray} {F : Nat → Prop} {base B dep : Nat} {s : Rp.Rt} {nv : Value} {W : World} (h : RS src F base B dep s nv W) (K : List Nat) (V : Array Value) (n : Nat) (hn : n = K.length) (hV : ∀ j (h : j < K.length), V[j]? = some (.int .i64 (K[j] : Int))) : KV F B nv (W.alloc (.cells V 3)) (.slice (some ⟨W.heap.size, 0, none⟩) n n) K := by
  subst hn
  have hX : (W.alloc (.cells V 3)).heap[W.heap.size]? = some (.cells V 3 (0, 0)) := Array.getElem?_push_size
  refine ⟨⟨_, _, rfl, Nat.le_refl _, .inr ⟨_, rfl, by rw [alloc_size']; omega, fun j hj => ?_⟩⟩, fun j hj => ?_, fun j hj => ?_, rfl⟩
  · unfold World.cell?; rw [hX]; simpa using hV j hj
  · have hj' : W.heap.size = j := by simpa [blockOf] using hj
    subst hj'
    refine ⟨by have := h.lt; omega, fun e => ?_, fun hF => by have := (h.far _ hF).1; omega⟩
    obtain ⟨vs, _, ho, _⟩ := h.nd
    have := (own_block ho _ e).2
    omega
  · have hj' : W.heap.size = j := by simpa [blockOf] using hj
    rw [alloc_size']; omega
theorem c_putV {src : ByteArray} {F : Nat → Prop} {base B dep : Nat} {s s' : Rp.Rt} {nv : Value} {w : World} {r k n a : Nat} {t : List UInt8} {N : List (List UInt8)} {K : List Nat} (E : Ru (Rp.put { k := k, n := n, t := t, names := N, kids := K, a := a }) s r s') (h : RS src F base B dep s nv w) {nmv kv : Value} (hN : NV F B nv w nmv N) (hK : KV F B nv w kv K) :
    Calls Tryz.prog 19 #[.pointer (some ⟨B, 0, none⟩), .agg #[.int .i64 (k : Int), .int .i64 (n : Int), .string ⟨t.toArray⟩, nmv, kv, .int .i64 (a : Int)]] w (Tells src F base B dep nv w s' (.int .i64 (r : Int))) := by
  have e1 : s.nodes.length = r := congrArg Prod.fst E.eq
  have e2 : (Rp.put { k := k, n := n, t := t, names := N, kids := K, a := a } s).2 = s' := congrArg Prod.snd E.eq
  have hs : s.nodes.length ≤ 1000000000 := by
    have := E.small
    rw [← e2] at this
    have h2 : (Rp.put { k := k, n := n, t := t, names := N, kids := K, a := a } s).2.nodes.length = s.nodes.length + 1 := by show (s.nodes ++ [_]).length = _; simp
    omega
  have := put_any h hs { k := k, n := n, t := t, names := N, kids := K, a := a } nmv kv ⟨hN.names, hK.kids, hN.ap, hK.ap, hN.lt, hK.lt⟩ hN.one hK.one
  rw [e1, e2] at this
  exact this
/-- A node whose kids are written down just ahead. -/
theorem c_putL {src : ByteArray} {F : Nat → Prop} {base B dep : Nat} {s s' : Rp.Rt} {nv : Value} {w : World} {r k a : Nat} {t : List UInt8} {K : List Nat} (E : Ru (Rp.put { k := k, t := t, kids := K, a := a }) s r s') (h : RS src F base B dep s nv w) (V : Array Value) (n : Nat) (hn : n = K.length) (hV : ∀ j (h : j < K.length), V[j]? = some (.int .i64 (K[j] : Int))) :
    Calls Tryz.prog 19 #[.pointer (some ⟨B, 0, none⟩), .agg #[.int .i64 (k : Int), .int .i64 0, .string ⟨t.toArray⟩, .slice none 0 0, .slice (some ⟨w.heap.size, 0, none⟩) n n, .int .i64 (a : Int)]] (w.alloc (.cells V 3)) (Tells src F base B dep nv w s' (.int .i64 (r : Int))) := by
  have hb : Below w.heap.size w (w.alloc (.cells V 3)) := (Below.refl _ _).alloc (Nat.le_refl _) _
  refine (c_putV E (h.below hb) (NV.nil _ _ _ _) (KV.lit h K V n hn hV)).mono ?_
  rintro e w' ⟨rfl, nv', hr, hc⟩
  exact ⟨rfl, nv', hr, (Chg.below nv hb).trans hc⟩
/-- A box of a node beside the reader. -/
structure Box (F : Nat → Prop) (W : World) (X : Nat) (x0 x1 x2 x3 x4 x5 : Value) : Prop where
  cells : W.heap[X]? = some (.cells #[x0, x1, x2, x3, x4, x5] 43 (0, 0))
  far : F X
theorem Box.facts {F : Nat → Prop} {W : World} {X : Nat} {x0 x1 x2 x3 x4 x5 : Value} (h : Box F W X x0 x1 x2 x3 x4 x5) :
    (W.cell? ⟨X, 0, none⟩ = some x0 ∧ W.cell? ⟨X, 1, none⟩ = some x1 ∧ W.cell? ⟨X, 2, none⟩ = some x2 ∧ W.cell? ⟨X, 3, none⟩ = some x3 ∧ W.cell? ⟨X, 4, none⟩ = some x4 ∧ W.cell? ⟨X, 5, none⟩ = some x5) ∧ (W.frozen? ⟨X, 1, none⟩ = false ∧ W.frozen? ⟨X, 2, none⟩ = false ∧ W.frozen? ⟨X, 3, none⟩ = false ∧ W.frozen? ⟨X, 4, none⟩ = false) ∧ X < W.heap.size := by
  have hc := h.cells
  exact ⟨by refine ⟨?_, ?_, ?_, ?_, ?_, ?_⟩ <;> simp [World.cell?, hc], by refine ⟨?_, ?_, ?_, ?_⟩ <;> simp [World.frozen?, hc], Nat.lt_of_not_le fun hg => by rw [Array.getElem?_eq_none hg] at hc; cases hc⟩
theorem Box.go {src : ByteArray} {F : Nat → Prop} {base B dep : Nat} {s : Rp.Rt} {nv nv' : Value} {W W' : World} {X : Nat} {x0 x1 x2 x3 x4 x5 : Value} (h : Box F W X x0 x1 x2 x3 x4 x5) (hr : RS src F base B dep s nv W) (c : Chg B nv nv' W W') : Box F W' X x0 x1 x2 x3 x4 x5 :=
  ⟨(c.block X (hr.far X h.far).1 (hr.far X h.far).2.1 (hr.far X h.far).2.2).trans h.cells, h.far⟩
theorem Box.alloc {F : Nat → Prop} {W : World} {X : Nat} {x0 x1 x2 x3 x4 x5 : Value} (h : Box F W X x0 x1 x2 x3 x4 x5) (o : Obj) : Box F (W.alloc o) X x0 x1 x2 x3 x4 x5 := ⟨(Below.heap_alloc W o X h.facts.2.2).trans h.cells, h.far⟩
theorem Box.set1 {F : Nat → Prop} {W : World} {X : Nat} {x0 x1 x2 x3 x4 x5 : Value} (h : Box F W X x0 x1 x2 x3 x4 x5) (u : Value) : Box F (W.setCell ⟨X, 1, none⟩ u) X x0 u x2 x3 x4 x5 := ⟨by have := h.cells; simp [World.setCell, Array.getElem?_modify, this], h.far⟩
theorem Box.set2 {F : Nat → Prop} {W : World} {X : Nat} {x0 x1 x2 x3 x4 x5 : Value} (h : Box F W X x0 x1 x2 x3 x4 x5) (u : Value) : Box F (W.setCell ⟨X, 2, none⟩ u) X x0 x1 u x3 x4 x5 := ⟨by have := h.cells; simp [World.setCell, Array.getElem?_modify, this], h.far⟩
theorem Box.set3 {F : Nat → Prop} {W : World} {X : Nat} {x0 x1 x2 x3 x4 x5 : Value} (h : Box F W X x0 x1 x2 x3 x4 x5) (u : Value) : Box F (W.setCell ⟨X, 3, none⟩ u) X x0 x1 x2 u x4 x5 := ⟨by have := h.cells; simp [World.setCell, Array.getElem?_modify, this], h.far⟩
theorem Box.set4 {F : Nat → Prop} {W : World} {X : Nat} {x0 x1 x2 x3 x4 x5 : Value} (h : Box F W X x0 x1 x2 x3 x4 x5) (u : Value) : Box F (W.setCell ⟨X, 4, none⟩ u) X x0 x1 x2 x3 u x5 := ⟨by have := h.cells; simp [World.setCell, Array.getElem?_modify, this], h.far⟩
/-- A new box, and what is written there. -/
theorem RS.box {src : ByteArray} {F : Nat → Prop} {base B dep : Nat} {s : Rp.Rt} {nv : Value} {W : World} (h : RS src F base B dep s nv W) (y0 y1 y2 y3 y4 y5 : Value) :
    RS src (fun k => F k ∨ k = W.heap.size) base B dep s nv (W.alloc (.cells #[y0, y1, y2, y3, y4, y5] 43)) ∧ Chg B nv nv W (W.alloc (.cells #[y0, y1, y2, y3, y4, y5] 43)) ∧ Box (fun k => F k ∨ k = W.heap.size) (W.alloc (.cells #[y0, y1, y2, y3, y4, y5] 43)) W.heap.size y0 y1 y2 y3 y4 y5 :=
  ⟨h.more _, (Chg.refl B nv W).alloc _, ⟨Array.getElem?_push_size, .inr rfl⟩⟩
section
/-- A row of one's own beside the reader, begun behind w0. -/
structure KO (src : ByteArray) (F : Nat → Prop) (base B dep : Nat) (s : Rp.Rt) (nv : Value) (w0 W : World) (e : TypeId) (v : Value) (n : Nat) (xs : List Value) : Prop where
  rs : RS src (fun k => F k ∨ v.ownBlock = some k) base B dep s nv W
  own : W.ownsRow w0.heap.size e 1 v n xs
  sz : w0.heap.size ≤ W.heap.size
variable {src : ByteArray} {F : Nat → Prop} {base B dep : Nat} {s s' : Rp.Rt} {nv nv' : Value} {w0 W W' : World} {e : TypeId} {v : Value} {n : Nat} {xs : List Value}
theorem KO.nil (h : RS src F base B dep s nv W) (hs : w0.heap.size ≤ W.heap.size) : KO src F base B dep s nv w0 W e (.slice none 0 0) 0 [] :=
  ⟨h.less (fun k hk => by rcases hk with hk | hk; exact hk; simp [Value.ownBlock] at hk), ⟨rfl, .inl ⟨rfl, rfl⟩⟩, hs⟩
theorem KO.go (h : KO src F base B dep s nv w0 W e v n xs) (hr : RS src (fun k => F k ∨ v.ownBlock = some k) base B dep s' nv' W') (c : Chg B nv nv' W W') : KO src F base B dep s' nv' w0 W' e v n xs :=
  ⟨hr, own_keep h.own (fun k hk => c.block k (own_block h.own k hk).2 (h.rs.far k (.inr hk)).2.1 (h.rs.far k (.inr hk)).2.2), Nat.le_trans h.sz c.size⟩
/-- A new row out of what is written down. -/
theorem KO.lit (h : RS src F base B dep s nv W) (hs : w0.heap.size ≤ W.heap.size) (V : Array Value) (m : Nat) (hm : V.size = m) (h64 : m ≤ 100) : KO src F base B dep s nv w0 (W.alloc (.cells V e)) e (.slice (some ⟨W.heap.size, 0, none⟩) m m) m V.toList := by
  subst hm
  have hX : (W.alloc (.cells V e)).heap[W.heap.size]? = some (.cells V e (0, 0)) := Array.getElem?_push_size
  refine ⟨(h.more (.cells V e)).less (fun k hk => ?_), ⟨by simp, .inr ⟨_, _, V, rfl, hs, hX, Nat.le_refl _, by unfold maxLen; omega, by simp, by rw [Nat.mul_one]; exact List.take_of_length_le (by simp)⟩⟩, by rw [alloc_size']; omega⟩
  rcases hk with hk | hk
  · exact .inl hk
  · simp [Value.ownBlock] at hk; exact .inr hk.symm
/-- A row behind another one. -/
theorem KO.cat (h : KO src F base B dep s nv w0 W e v n xs) (t ty : TypeId) {bytes : Nat} {z : Value} {i0 : TypeInfo} (ht : Tryz.prog.underlying t = some (.slice e)) (hi : Tryz.prog.info? e = some i0) (hz0 : i0.zero = some z) (hz1 : i0.size = 1) (hz2 : i0.bytes = bytes) (hz3 : z.cells.size = 1) (hby : bytes ≤ 16)
    {W1 : World} (hW : Below W.heap.size W W1) (ad : Addr) (m c : Nat) (news : List Value) (hl : news.length = m) (hnews : ∀ j u, news[j]? = some u → W1.cell? (ad.add j) = some u) (h1 : ∀ u ∈ news, u.oneCell' = true) (hn : n + m ≤ 1000000) (hm : 1 ≤ m) :
    ∃ a' cap' w3, (Builtin.append_ #[t, t] ty #[v, .slice (some ad) m c]).run Tryz.prog W1 = .ok (.slice a' (n + m) cap') w3 ∧ KO src F base B dep s nv w0 w3 e (.slice a' (n + m) cap') (n + m) (xs ++ news) ∧ (∀ nv0, Chg B nv0 nv w0 W → Chg B nv0 nv w0 w3) := by
  have ho1 := own_below h.own hW
  have nl := own_block h.own
  obtain ⟨v', w3, hr, ho, hg, _, hat⟩ := run_append_own_at (P := Tryz.prog) W1 w0.heap.size t ty e i0 z 1 bytes ht hi hz0 hz1 hz2 hz3 (by decide) v n xs ho1 ad m c news (by omega) hnews h1 (by unfold maxLen; omega) (by
    have : (n + m) * bytes ≤ 1000000 * 16 := Nat.mul_le_mul hn hby
    omega) (Nat.le_trans h.sz hW.size)
  obtain ⟨a, cap, rfl⟩ : ∃ a cap, v' = .slice a (n + m) cap := by
    rcases ho.2 with ⟨_, e⟩ | ⟨g, cap, cur, e, _⟩
    · omega
    · exact ⟨_, _, e⟩
  have hsz : W.heap.size ≤ w3.heap.size := Nat.le_trans hW.size hg.size
  have nl' := own_block ho
  have hbl : ∀ k, k < W.heap.size → v.ownBlock ≠ some k → w3.heap[k]? = W.heap[k]? := fun k hk hne => (hg.block k (Nat.lt_of_lt_of_le hk hW.size) (fun e => hne e.symm)).trans (hW.block k hk)
  refine ⟨a, cap, w3, hr, ⟨h.rs.grow hsz (fun k hk hnf => hbl k hk (fun e => hnf (.inr e))) (fun k hk => ?_), ho, Nat.le_trans h.sz hsz⟩, fun nv0 c0 => ⟨hg.os.trans (hW.os.trans c0.os), hg.tape.trans (hW.tape.trans c0.tape), hg.output.trans (hW.output.trans c0.output), Nat.le_trans c0.size hsz, fun k hk h2 h3 => (hbl k (Nat.lt_of_lt_of_le hk c0.size) (fun e => by have := (nl k e).1; omega)).trans (c0.block k hk h2 h3), c0.fresh⟩⟩
  rcases hk with hk | hk
  · have := (h.rs.far k (.inl hk)).1
    exact ⟨.inl (.inl hk), by omega⟩
  · refine ⟨?_, (nl' k hk).2⟩
    rcases hat with e | e
    · exact .inl (.inr (e ▸ hk))
    · rw [e] at hk
      have hk' : W1.heap.size = k := by simpa using hk
      exact .inr (by have := hW.size; omega)
/-- One more behind a row. -/
theorem KO.more (h : KO src F base B dep s nv w0 W e v n xs) (t ty : TypeId) {bytes : Nat} {z : Value} {i0 : TypeInfo} (ht : Tryz.prog.underlying t = some (.slice e)) (hi : Tryz.prog.info? e = some i0) (hz0 : i0.zero = some z) (hz1 : i0.size = 1) (hz2 : i0.bytes = bytes) (hz3 : z.cells.size = 1) (hby : bytes ≤ 16)
    (x : Value) (h1 : x.oneCell' = true) (hn : n + 1 ≤ 1000000) :
    ∃ a' cap' w3, (Builtin.append_ #[t, t] ty #[v, .slice (some ⟨W.heap.size, 0, none⟩) 1 1]).run Tryz.prog (W.alloc (.cells #[x] e)) = .ok (.slice a' (n + 1) cap') w3 ∧ KO src F base B dep s nv w0 w3 e (.slice a' (n + 1) cap') (n + 1) (xs ++ [x]) ∧ (∀ nv0, Chg B nv0 nv w0 W → Chg B nv0 nv w0 w3) :=
  h.cat t ty ht hi hz0 hz1 hz2 hz3 hby ((Below.refl _ _).alloc (Nat.le_refl _) _) ⟨W.heap.size, 0, none⟩ 1 1 [x] rfl (fun j u hj => by
    have hj0 : j = 0 := by
      rcases Nat.lt_or_ge j 1 with h | h
      · omega
      · rw [List.getElem?_eq_none (by simpa using h)] at hj; cases hj
    subst hj0
    simp at hj; subst hj; simp [Addr.add]) (by intro u hu; simp at hu; subst hu; exact h1) hn (Nat.le_refl _)
theorem infoInt : (Tryz.prog.info? 3).map (fun i => (i.zero, i.size, i.bytes)) = some (some (.int .i64 0), 1, 8) := by kernel_rfl
theorem infoStr : (Tryz.prog.info? 9).map (fun i => (i.zero, i.size, i.bytes)) = some (some (.string ⟨#[]⟩), 1, 16) := by kernel_rfl
/-- Kids, names as cells. -/
abbrev kc (K : List Nat) : List Value := K.map fun k : Nat => Value.int .i64 (k : Int)
abbrev nc (N : List (List UInt8)) : List Value := N.map fun t : List UInt8 => Value.string ⟨t.toArray⟩
theorem KO.kid {K : List Nat} (h : KO src F base B dep s nv w0 W 3 v K.length (kc K)) (x : Nat) (hn : K.length + 1 ≤ 1000000) :
    ∃ a' cap' w3, (Builtin.append_ #[41, 41] 41 #[v, .slice (some ⟨W.heap.size, 0, none⟩) 1 1]).run Tryz.prog (W.alloc (.cells #[.int .i64 (x : Int)] 3)) = .ok (.slice a' (K.length + 1) cap') w3 ∧ KO src F base B dep s nv w0 w3 3 (.slice a' (K.length + 1) cap') (K ++ [x]).length (kc (K ++ [x])) ∧ (∀ nv0, Chg B nv0 nv w0 W → Chg B nv0 nv w0 w3) := by
  obtain ⟨i0, hi, hz0, hz1, hz2⟩ := info_of infoInt
  obtain ⟨a', cap', w3, hr, hk, hc⟩ := h.more 41 41 Tryz.underlying41 hi hz0 hz1 hz2 rfl (by omega) (.int .i64 (x : Int)) rfl hn
  exact ⟨a', cap', w3, hr, by simpa using hk, hc⟩
theorem KO.nm {N : List (List UInt8)} (h : KO src F base B dep s nv w0 W 9 v N.length (nc N)) (x : List UInt8) (hn : N.length + 1 ≤ 1000000) :
    ∃ a' cap' w3, (Builtin.append_ #[35, 35] 35 #[v, .slice (some ⟨W.heap.size, 0, none⟩) 1 1]).run Tryz.prog (W.alloc (.cells #[.string ⟨x.toArray⟩] 9)) = .ok (.slice a' (N.length + 1) cap') w3 ∧ KO src F base B dep s nv w0 w3 9 (.slice a' (N.length + 1) cap') (N ++ [x]).length (nc (N ++ [x])) ∧ (∀ nv0, Chg B nv0 nv w0 W → Chg B nv0 nv w0 w3) := by
  obtain ⟨i0, hi, hz0, hz1, hz2⟩ := info_of infoStr
  obtain ⟨a', cap', w3, hr, hk, hc⟩ := h.more 35 35 Tryz.underlying35 hi hz0 hz1 hz2 rfl (by omega) (.string ⟨x.toArray⟩) rfl hn
  exact ⟨a', cap', w3, hr, by simpa using hk, hc⟩
theorem own_cells (h : W.ownsRow base e 1 v n xs) : ∃ ad cap, v = .slice ad n cap ∧ n ≤ cap ∧ (n = 0 ∨ ∃ g, ad = some ⟨g, 0, none⟩ ∧ g < W.heap.size ∧ ∀ j, j < n → W.cell? ⟨g, j, none⟩ = xs[j]?) ∧ (∀ k, blockOf v = some k → v.ownBlock = some k) ∧ v.oneCell' = true := by
  have nl := own_block h
  rcases h.2 with ⟨rfl, rfl⟩ | ⟨g, cap, cur, rfl, h1, h2, h3, h4, h5, h6⟩
  · exact ⟨none, 0, rfl, Nat.le_refl _, .inl rfl, (fun k hk => nomatch hk), rfl⟩
  · refine ⟨_, cap, rfl, h3, .inr ⟨g, rfl, (nl g rfl).2, fun j hj => ?_⟩, fun k hk => by simpa [blockOf, Value.ownBlock] using hk, rfl⟩
    rw [← h6, List.getElem?_take, if_pos (by omega)]
    simp [World.cell?, h2]
/-- What was gathered, as kids. -/
theorem KO.kv {nv0 : Value} {s0 : Rp.Rt} {K : List Nat} (h0 : RS src F base B dep s0 nv0 w0) (h : KO src F base B dep s nv w0 W 3 v K.length (kc K)) : RS src F base B dep s nv W ∧ KV F B nv W v K := by
  refine ⟨h.rs.less (fun k hk => .inl hk), ?_⟩
  have nl := own_block h.own
  obtain ⟨ad, cap, hv, h1, h2, h3, h4⟩ := own_cells h.own
  refine ⟨⟨ad, cap, hv, h1, ?_⟩, fun k hk => ⟨(h.rs.far k (.inr (h3 k hk))).2.1, (h.rs.far k (.inr (h3 k hk))).2.2, fun hf => by have := (h0.far k hf).1; have := (nl k (h3 k hk)).1; omega⟩, fun k hk => (nl k (h3 k hk)).2, h4⟩
  rcases h2 with h2 | ⟨g, e, hg, hc⟩
  · exact .inl (List.length_eq_zero_iff.1 h2)
  · exact .inr ⟨g, e, hg, fun j hj => (hc j hj).trans (by simp [kc, hj])⟩
theorem KO.nmv {nv0 : Value} {s0 : Rp.Rt} {N : List (List UInt8)} (h0 : RS src F base B dep s0 nv0 w0) (h : KO src F base B dep s nv w0 W 9 v N.length (nc N)) : RS src F base B dep s nv W ∧ NV F B nv W v N := by
  refine ⟨h.rs.less (fun k hk => .inl hk), ?_⟩
  have nl := own_block h.own
  obtain ⟨ad, cap, hv, h1, h2, h3, h4⟩ := own_cells h.own
  refine ⟨⟨ad, cap, hv, h1, ?_⟩, fun k hk => ⟨(h.rs.far k (.inr (h3 k hk))).2.1, (h.rs.far k (.inr (h3 k hk))).2.2, fun hf => by have := (h0.far k hf).1; have := (nl k (h3 k hk)).1; omega⟩, fun k hk => (nl k (h3 k hk)).2, h4⟩
  rcases h2 with h2 | ⟨g, e, hg, hc⟩
  · exact .inl (List.length_eq_zero_iff.1 h2)
  · exact .inr ⟨g, e, hg, fun j hj => (hc j hj).trans (by simp [nc, hj])⟩
end
end Go.Proofs.YtpjmapoiinjakaaGreatDoor.Rd
end
