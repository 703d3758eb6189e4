-- PROVED: Reach tells the addresses to which roots lead (6.2).
import Derived.Test.YtmipgpkeegggpaaHReach
namespace Go.Proofs.Ytmipgpkeegggpaa.P
open Go.RowKit Hq
set_option linter.unusedVariables false
/-- Where a value leads. -/
def to1 (v : Vl) : List Int := if v.kind = 5 ∨ v.kind = 6 then [v.n] else []
def tv (L : List Vl) : List Int := L.flatMap to1
def outC (c : Cl) : List Int := tv c.vals ++ if c.kind = 1 ∨ c.kind = 4 then [c.a] else if c.kind = 3 then [c.b] else []
theorem tv_take (L : List Vl) (j : Nat) (h : j < L.length) : tv (L.take (j + 1)) = tv (L.take j) ++ to1 L[j] := by
  unfold tv
  rw [List.take_add_one, List.getElem?_eq_getElem h, List.flatMap_append]
  simp only [Option.toList, List.flatMap_cons, List.flatMap_nil, List.append_nil]
section
variable {base B rB cl : Nat} {w w' : World} {al : Option Addr} {p : List Bool × List Nat}
theorem wts_mine : ∀ T, T ∈ WTs → Mine T := by simp [WTs, Mine]
set_option maxRecDepth 100000 in
set_option maxHeartbeats 2000000 in
theorem followAll_any (h : Wk base w B rB al cl p) {v : Value} {L : List Vl} (hv : Vals base w v L) (hL : L.length ≤ 100000) : Calls Try.prog 39 #[.pointer (some ⟨B, 0, none⟩), v] w fun e w' => e = .returned (.tuple #[]) ∧ Hid (Wk base w' B rB al cl (goA p (tv L))) ∧ Hid (Keep WTs base w w') := by
  have HV : Hid (Vals base w v L) := hv
  obtain ⟨a, cap, rfl, -, -⟩ := hv
  have HW0 : Hid (Wk base w B rB al cl p) := h
  clear h
  go_enter Try.func39, Try.ntmps39
  go_wp2_with fail
  go_loopw [8] (fun i wr => ∃ j : Nat, i = .int .i64 (j : Int) ∧ j ≤ L.length ∧ Hid (Wk base wr B rB al cl (goA p (tv (L.take j)))) ∧ Hid (Keep WTs base w wr)) (fun i _ => L.length - (intOf i).toNat)
  case atStart => exact ⟨0, rfl, by omega, HW0, Keep.refl _ _ _⟩
  case round =>
    clear HW0
    obtain ⟨j, rfl, hj, HW, HK⟩ := hrel
    by_cases hlt : j < L.length
    · have hlt' : (j : Int) < (L.length : Int) := by omega
      have hv' := HV.out.keep HK.out wts_mine
      obtain ⟨a', cap', e, hcap, h3⟩ := hv'
      injection e with e1 _ e2
      subst e1 e2
      rcases h3 with h3 | ⟨b, off, rfl, hf, hc⟩
      · omega
      obtain ⟨c0, c1, c2⟩ := hc j hlt
      have lb := hf.lt
      have HT : Hid (tv (L.take (j + 1)) = tv (L.take j) ++ to1 L[j]) := tv_take L j hlt
      have hal : Below wr.heap.size wr (wr.alloc (.cells #[.int .i64 L[j].kind, .int .i64 L[j].n, .string L[j].s] 46)) := (Below.refl _ _).alloc (Nat.le_refl _) _
      have hkk := HK.out.below HW.out.size hal
      have HK1 : Hid (Keep WTs base w (wr.alloc (.cells #[.int .i64 L[j].kind, .int .i64 L[j].n, .string L[j].s] 46))) := hkk
      have HW1 : Hid (Wk base (wr.alloc (.cells #[.int .i64 L[j].kind, .int .i64 L[j].n, .string L[j].s] 46)) B rB al cl (goA p (tv (L.take j)))) := HW.out.keep (S := []) (keepB HW.out.size hal) (by simp)
      have HG : Hid (_) := goTo_any HW1.out L[j].n
      clear hal hkk HW HK hf hc hj
      by_cases h5 : L[j].kind = 5 ∨ L[j].kind = 6
      · have HO : Hid (to1 L[j] = [L[j].n]) := (show _ = _ from by unfold to1; rw [if_pos h5])
        generalize L[j] = x at *
        obtain ⟨k, n, s⟩ := x
        simp only at c0 c1 c2 h5 HO HG HK1 HW1
        rcases h5 with h5 | h5
        all_goals
          subst h5
          go_wp2_with fail
          refine Calls.mono HG.out ?_
          rintro e w2 ⟨rfl, HW2, HK2⟩
          go_wp2_with fail
          go_roundw
          case rel => exact ⟨j + 1, by go_num, by omega, by rw [HT.out, HO.out, goA_app]; exact HW2, HK1.out.trans HK2.out⟩
          case measure => simp [intOf]; omega
      · have HO : Hid (to1 L[j] = []) := (show _ = _ from by unfold to1; rw [if_neg h5])
        obtain ⟨h5, h6⟩ := not_or.mp h5
        generalize L[j] = x at *
        obtain ⟨k, n, s⟩ := x
        simp only at c0 c1 c2 h5 h6 HO HG HK1 HW1
        have h5' : (k == 5) = false := by simp [h5]
        have h6' : (k == 6) = false := by simp [h6]
        go_wp2_with fail
        go_roundw
        case rel => exact ⟨j + 1, by go_num, by omega, by rw [HT.out, HO.out, List.append_nil]; exact HW1, HK1⟩
        case measure => simp [intOf]; omega
    · have hj2 : j = L.length := by omega
      subst hj2
      rw [List.take_length] at HW
      go_wp2_with fail
      go_end0
      exact ⟨rfl, HW, HK⟩
set_option maxRecDepth 100000 in
set_option maxHeartbeats 2000000 in
theorem leave_any (h : Wk base w B rB al cl p) {c : Cl} {aK : Option Addr} {nK kK : Nat} {vV : Value} (hv : Vals base w vV c.vals) (hL : c.vals.length ≤ 100000) : Calls Try.prog 41 #[.pointer (some ⟨B, 0, none⟩), .agg #[.int .i64 c.kind, .int .i64 c.a, .int .i64 c.b, .slice aK nK kK, vV]] w fun e w' => e = .returned (.tuple #[]) ∧ Hid (Wk base w' B rB al cl (goA p (outC c))) ∧ Hid (Keep WTs base w w') := by
  obtain ⟨aV, kV, rfl, -⟩ := id hv
  have hal : Below w.heap.size w (w.alloc (.cells #[.int .i64 c.kind, .int .i64 c.a, .int .i64 c.b, .slice aK nK kK, .slice aV c.vals.length kV] 30)) := (Below.refl _ _).alloc (Nat.le_refl _) _
  have HF : Hid (_) := followAll_any (h.keep (S := []) (keepB h.size hal) (by simp)) (hv.keep (S := []) (keepB h.size hal) (by simp)) hL
  have HK0 : Hid (Keep WTs base w (w.alloc (.cells #[.int .i64 c.kind, .int .i64 c.a, .int .i64 c.b, .slice aK nK kK, .slice aV c.vals.length kV] 30))) := (keepB h.size hal).mono (by simp)
  have hx := heap_alloc_new w (.cells #[.int .i64 c.kind, .int .i64 c.a, .int .i64 c.b, .slice aK nK kK, .slice aV c.vals.length kV] 30)
  have HX : Hid (_) := hx
  obtain ⟨x0, x1, x2, x3, x4, y0, y1, y2, y3, y4, lx⟩ := blk5 hx
  have HO : Hid (outC c = tv c.vals ++ if c.kind = 1 ∨ c.kind = 4 then [c.a] else if c.kind = 3 then [c.b] else []) := rfl
  clear h hv hal hx
  obtain ⟨k, ca, cb, keys, vals⟩ := c
  simp only at HF HK0 HX x0 x1 x2 x3 x4 HO hL ⊢
  generalize outC ⟨k, ca, cb, keys, vals⟩ = out at *
  generalize vals.length = n at *
  go_enter Try.func41, Try.ntmps41
  go_wp2_with fail
  refine Calls.mono HF.out ?_
  rintro e w2 ⟨rfl, HW2, HK2⟩
  have hx := (HK2.out.same _ _ _ _ HX.out (by simp [WTs])).trans HX.out
  clear x0 x1 x2 x3 x4 y0 y1 y2 y3 y4 lx HX HF
  have HK3 : Hid (Keep WTs base w w2) := HK0.out.trans HK2.out
  clear HK0 HK2
  generalize w.heap.size = q at *
  obtain ⟨x0, x1, x2, x3, x4, y0, y1, y2, y3, y4, lx⟩ := blk5 hx
  clear hx
  have HA : Hid (_) := goTo_any HW2.out ca
  have HB : Hid (_) := goTo_any HW2.out cb
  by_cases h1 : k = 1 ∨ k = 4
  · rw [if_pos h1] at HO
    have HE : Hid (goA p out = go1 (goA p (tv vals)) ca) := (show _ = _ from by rw [HO.out, goA_app]; rfl)
    clear HO
    rcases h1 with rfl | rfl
    all_goals
      go_wp2_with fail
      refine Calls.mono HA.out ?_
      rintro e w3 ⟨rfl, HW3, HK4⟩
      go_wp2_with fail
      go_end0
      rw [HE.out]
      exact ⟨rfl, HW3, HK3.out.trans HK4.out⟩
  · rw [if_neg h1] at HO
    obtain ⟨h1, h4⟩ := not_or.mp h1
    have h1' : (k == 1) = false := by simp [h1]
    have h4' : (k == 4) = false := by simp [h4]
    by_cases h3 : k = 3
    · rw [if_pos h3] at HO
      have HE : Hid (goA p out = go1 (goA p (tv vals)) cb) := (show _ = _ from by rw [HO.out, goA_app]; rfl)
      clear HO h1 h4 h1' h4'
      subst h3
      go_wp2_with fail
      refine Calls.mono HB.out ?_
      rintro e w3 ⟨rfl, HW3, HK4⟩
      go_wp2_with fail
      go_end0
      rw [HE.out]
      exact ⟨rfl, HW3, HK3.out.trans HK4.out⟩
    · rw [if_neg h3, List.append_nil] at HO
      have h3' : (k == 3) = false := by simp [h3]
      go_wp2_with fail
      go_end0
      rw [HO.out]
      exact ⟨rfl, HW2, HK3⟩
set_option maxRecDepth 100000 in
set_option maxHeartbeats 2000000 in
theorem addresses_any (h : Wk base w B rB al cl p) : Calls Try.prog 42 #[.pointer (some ⟨B, 0, none⟩)] w fun e w' => ∃ v, e = .returned v ∧ Hid (w'.ownsRow base 3 1 v (addrs p.1).length (nums (addrs p.1))) ∧ Hid (Below base w w') := by
  obtain ⟨vt, h1, h2⟩ := h.head
  obtain ⟨a0, a1, a2, f0, f1, f2, la⟩ := blk3 h1
  have hfew := h.few.1
  have HFL : Hid (Fl w rB p.1) := h.fl
  have HSZ : Hid (base ≤ w.heap.size) := h.size
  have HAL : Hid (addT p.1 p.1.length = addrs p.1) := rfl
  clear h h1 h2
  generalize addrs p.1 = A at *
  go_enter Try.func42, Try.ntmps42
  go_wp2_with fail
  go_loopw [3, 11] (fun o i wr => ∃ j : Nat, i = .int .i64 (j : Int) ∧ j ≤ p.1.length ∧ Hid (wr.ownsRow base 3 1 o (addT p.1 j).length (nums (addT p.1 j))) ∧ Hid (Fl wr rB p.1) ∧ Hid (Below base w wr) ∧ Hid (base ≤ wr.heap.size)) (fun _ i _ => p.1.length - (intOf i).toNat)
  case atStart => exact ⟨0, rfl, by omega, World.ownsRow_nil _ _ _ _, HFL, Below.refl _ _, HSZ⟩
  case round =>
    clear HFL a0 a1 a2 f0 f1 f2 la HSZ
    obtain ⟨j, rfl, hj, HO, HFL, HB, HSZ⟩ := hrel
    by_cases hlt : j < p.1.length
    · have hlt' : (j : Int) < (p.1.length : Int) := by omega
      have hx := List.getElem?_eq_getElem hlt
      obtain ⟨d1, d2, d3⟩ := HFL.out.at_ hx
      have hS := addT_succ p.1 j
      rw [hx] at hS
      have hle := addT_le p.1 j
      generalize p.1[j] = x at *
      cases x
      · have HS : Hid (addT p.1 (j + 1) = addT p.1 j) := (show _ = _ from by rw [hS]; simp)
        clear hS hx
        go_wp2_with fail
        go_roundw
        case rel => exact ⟨j + 1, by go_num, by omega, by rw [HS.out]; exact HO, HFL, HB, HSZ⟩
        case measure => simp [intOf]; omega
      · have HS : Hid (addT p.1 (j + 1) = addT p.1 j ++ [j + 1]) := (show _ = _ from by rw [hS]; simp)
        clear hS hx
        obtain ⟨a, cap, w3, hr, ho, hk⟩ := nums_push2 HO.out HSZ.out (by omega) (j + 1) 23
        rw [show ((j + 1 : Nat) : Int) = (j : Int) + 1 by push_cast; rfl] at hr
        have HR : Hid (_) := hr
        have HO3 : Hid (w3.ownsRow base 3 1 (.slice a ((addT p.1 j).length + 1) cap) (addT p.1 (j + 1)).length (nums (addT p.1 (j + 1)))) := (show World.ownsRow _ _ _ _ _ _ _ from by rw [HS.out, List.length_append]; exact ho)
        have HF3 : Hid (Fl w3 rB p.1) := HFL.out.keep hk (by simp)
        have HB3 : Hid (Below base w w3) := HB.out.trans hk.bel
        have HZ3 : Hid (base ≤ w3.heap.size) := Nat.le_trans HSZ.out hk.size
        clear hr ho hk HO HFL HB HSZ HS
        generalize (addT p.1 j).length = m at *
        go_wp2_with (at_builtin; refine wpList_append_run _ _ 23 rfl rfl _ _ _ _ rfl rfl HR.out ?_)
        go_roundw
        case rel => exact ⟨j + 1, by go_num, by omega, HO3, HF3, HB3, HZ3⟩
        case measure => simp [intOf]; omega
    · have hj2 : j = p.1.length := by omega
      subst hj2
      rw [HAL.out] at HO
      go_wp2_with fail
      go_ret
      exact ⟨_, rfl, HO, HB⟩
/-- Cells that were there before: what of them leads. -/
def Cs (base : Nat) (w : World) (v : Value) (L : List Cl) : Prop :=
  ∃ a cap, v = .slice a L.length cap ∧ (L.length = 0 ∨ ∃ b off, a = some ⟨b, off, none⟩ ∧ b < base ∧ b < w.heap.size ∧ ∀ j (h : j < L.length), ∃ aK nK kK vV,
    w.cell? ⟨b, off + j * 5, none⟩ = some (.int .i64 L[j].kind) ∧ w.cell? ⟨b, off + j * 5 + 1, none⟩ = some (.int .i64 L[j].a) ∧ w.cell? ⟨b, off + j * 5 + 2, none⟩ = some (.int .i64 L[j].b) ∧ w.cell? ⟨b, off + j * 5 + 3, none⟩ = some (.slice aK nK kK) ∧ w.cell? ⟨b, off + j * 5 + 4, none⟩ = some vV ∧ Vals base w vV L[j].vals)
theorem Cs.keep {S : List TypeId} {v : Value} {L : List Cl} (h : Cs base w v L) (k : Keep S base w w') (hS : ∀ T, T ∈ S → Mine T) : Cs base w' v L := by
  obtain ⟨a, cap, h1, h2⟩ := h
  refine ⟨a, cap, h1, h2.imp id ?_⟩
  rintro ⟨b, off, h3, h4, h5, h6⟩
  refine ⟨b, off, h3, h4, Nat.lt_of_lt_of_le h5 k.size, fun j hj => ?_⟩
  obtain ⟨aK, nK, kK, vV, c0, c1, c2, c3, c4, c5⟩ := h6 j hj
  have e : ∀ i, w'.cell? ⟨b, i, none⟩ = w.cell? ⟨b, i, none⟩ := fun i => k.bel.cell h4
  exact ⟨aK, nK, kK, vV, by rw [e, c0], by rw [e, c1], by rw [e, c2], by rw [e, c3], by rw [e, c4], c5.keep k hS⟩
def outL (L : List Cl) (y : Nat) : List Int := outC (L.getD (y - 1) Cl.zero)
/-- How much is left to do, as memory says it. -/
def cntF (w : World) (rB : Nat) : Nat := match w.heap[rB]? with
  | some (.cells arr _ _) => arr.toList.countP fun v => match v with | .bool false => true | _ => false
  | _ => 0
def lenT (w : World) (B : Nat) : Nat := match w.cell? ⟨B, 2, none⟩ with
  | some (.slice _ n _) => n
  | _ => 0
def okN : Value → Nat
  | .bool true => 1
  | _ => 0
theorem countF : ∀ S : List Bool, (S.map Value.bool).countP (fun v => match v with | .bool false => true | _ => false) = S.count false
  | [] => rfl
  | b :: S => by
    rw [List.map_cons, List.countP_cons, List.count_cons, countF S]
    cases b <;> rfl
theorem Wk.mz (h : Wk base w B rB al cl p) : 2 * cntF w rB + lenT w B = 2 * p.1.count false + p.2.length := by
  obtain ⟨vt, h1, h2⟩ := h.head
  have e1 : cntF w rB = p.1.count false := by
    unfold cntF
    rw [show w.heap[rB]? = _ from h.fl]
    exact countF p.1
  have e2 : lenT w B = p.2.length := by
    unfold lenT
    rw [(blk3 h1).2.2.1]
    rcases h2.2 with ⟨e, e'⟩ | ⟨g, cap, cur, e, _⟩
    · rw [e, e']
    · rw [e]
  rw [e1, e2]
/-- What was taken, and what is left. -/
def Rl (L : List Cl) (R : List Vl) (base : Nat) (B rB : Nat) (al : Option Addr) (cl : Nat) (a o : Value) (w : World) : Prop :=
  (∃ S : List Bool, a = .int .i64 0 ∧ o = .bool false ∧ Wk base w B rB al cl (S, []) ∧ Inv L.length (tv R) (outL L) (S, [])) ∨
  ∃ (S : List Bool) (T : List Nat) (x : Nat), a = .int .i64 (x : Int) ∧ o = .bool true ∧ Wk base w B rB al cl (S, T) ∧ Inv L.length (tv R) (outL L) (S, T ++ [x])
theorem take_any {L : List Cl} {R : List Vl} (h : Wk base w B rB al cl p) (hi : Inv L.length (tv R) (outL L) p) :
    Calls Try.prog 40 #[.pointer (some ⟨B, 2, none⟩)] w fun e w' => ∃ a o, e = .returned (.tuple #[a, o]) ∧ Hid (Rl L R base B rB al cl a o w') ∧ Hid (2 * cntF w' rB + lenT w' B + okN o = 2 * p.1.count false + p.2.length) ∧ Hid (Keep WTs base w w') := by
  obtain ⟨S, T⟩ := p
  rcases List.eq_nil_or_concat T with rfl | ⟨T, x, rfl⟩
  · refine (take_none (p := (S, [])) h).mono ?_
    rintro e w' ⟨rfl, rfl⟩
    exact ⟨_, _, rfl, .inl ⟨S, rfl, rfl, h, hi⟩, h.mz, Keep.refl _ _ _⟩
  · rw [List.concat_eq_append] at *
    refine (take_some h).mono ?_
    rintro e w' ⟨rfl, h1, h2⟩
    refine ⟨_, _, rfl, .inr ⟨S, T, x, rfl, rfl, h1.out, hi⟩, ?_, h2⟩
    have h3 : 2 * cntF w' rB + lenT w' B = 2 * S.count false + T.length := h1.out.mz
    show 2 * cntF w' rB + lenT w' B + 1 = 2 * S.count false + (T ++ [x]).length
    rw [List.length_append, List.length_singleton, h3]
    omega
set_option maxRecDepth 100000 in
set_option maxHeartbeats 2000000 in
theorem reach_any {v u : Value} {L : List Cl} {R : List Vl} (hB : base = w.heap.size) (hv : Cs base w v L) (hl : L.length ≤ 100000) (hL : ∀ c, c ∈ L → c.vals.length ≤ 100000) (hu : Vals base w u R) (hR : R.length ≤ 100000) :
    Calls Try.prog 20 #[v, u] w fun e w' => ∃ r A, e = .returned r ∧ Hid (w'.ownsRow base 3 1 r A.length (nums A)) ∧ Hid (∃ S : List Bool, A = addrs S ∧ S.length = L.length ∧ ∀ x, On S x ↔ Rch L.length (tv R) (outL L) x) ∧ Hid (Below base w w') := by
  obtain ⟨al, cl, rfl, -⟩ := id hv
  obtain ⟨au, cu, rfl, -⟩ := id hu
  have hmk := makeF w L.length (by omega)
  have k0 : Below base w ((w.alloc (.cells (Array.replicate L.length (.bool false)) 4)).alloc (.cells #[.slice al L.length cl, .slice (some ⟨w.heap.size, 0, none⟩) L.length L.length, .slice none 0 0] 74)) :=
    ((Below.refl _ _).alloc (by rw [hB]; exact Nat.le_refl _) _).alloc (by simp [hB]) _
  have kk : Keep [] base w ((w.alloc (.cells (Array.replicate L.length (.bool false)) 4)).alloc (.cells #[.slice al L.length cl, .slice (some ⟨w.heap.size, 0, none⟩) L.length L.length, .slice none 0 0] 74)) := by
    have := keepB (Nat.le_refl _) (hB ▸ k0)
    rw [hB]; exact this
  have e1 := heap_alloc_new w (.cells (Array.replicate L.length (.bool false)) 4)
  have e2 := Below.heap_alloc (w.alloc (.cells (Array.replicate L.length (.bool false)) 4)) (.cells #[.slice al L.length cl, .slice (some ⟨w.heap.size, 0, none⟩) L.length L.length, .slice none 0 0] 74) w.heap.size (by simp)
  have e3 := heap_alloc_new (w.alloc (.cells (Array.replicate L.length (.bool false)) 4)) (.cells #[.slice al L.length cl, .slice (some ⟨w.heap.size, 0, none⟩) L.length L.length, .slice none 0 0] 74)
  have HW : Hid (Wk base ((w.alloc (.cells (Array.replicate L.length (.bool false)) 4)).alloc (.cells #[.slice al L.length cl, .slice (some ⟨w.heap.size, 0, none⟩) L.length L.length, .slice none 0 0] 74)) (w.heap.size + 1) w.heap.size al cl (List.replicate L.length false, [])) := (show Wk _ _ _ _ _ _ _ from
    ⟨by omega, by omega, ⟨.slice none 0 0, (by simpa using e3), World.ownsRow_nil _ _ _ _⟩, (by unfold Fl; rw [e2, e1]; simp), ⟨by simpa using hl, by simp⟩, by simp; omega⟩)
  have HF : Hid (_) := followAll_any HW.out (hu.keep kk (by simp)) hR
  have HV1 : Hid (Cs base ((w.alloc (.cells (Array.replicate L.length (.bool false)) 4)).alloc (.cells #[.slice al L.length cl, .slice (some ⟨w.heap.size, 0, none⟩) L.length L.length, .slice none 0 0] 74)) (.slice al L.length cl) L) := hv.keep kk (by simp)
  have HB0 : Hid (_) := k0
  have HL : Hid (∀ c, c ∈ L → c.vals.length ≤ 100000) := hL
  clear k0 kk e1 e2 e3 HW hu hL hv
  go_enter Try.func20, Try.ntmps20
  go_wp2_with fail
  clear hmk
  generalize ((w.alloc (.cells (Array.replicate L.length (.bool false)) 4)).alloc (.cells #[.slice al L.length cl, .slice (some ⟨w.heap.size, 0, none⟩) L.length L.length, .slice none 0 0] 74)) = w1 at *
  rw [← hB] at *
  generalize base + 1 = B at *
  refine Calls.mono HF.out ?_
  rintro e w2 ⟨rfl, HW2, HK2⟩
  have HT : Hid (_) := take_any HW2.out (Inv.start L.length (tv R) (outL L))
  clear HF
  go_wp2_with fail
  refine Calls.mono HT.out ?_
  rintro e w3 ⟨a, o, rfl, HR3, HM3, HK3⟩
  have HB3 : Hid (Below base w w3) := (HB0.out.trans HK2.out.bel).trans HK3.out.bel
  have HV3 : Hid (Cs base w3 (.slice al L.length cl) L) := (HV1.out.keep HK2.out wts_mine).keep HK3.out wts_mine
  clear HT HW2 HK2 HK3 HM3 HB0 HV1
  go_wp2_with fail
  go_loopw [6, 7] (fun a o wr => Hid (Rl L R base B base al cl a o wr) ∧ Hid (Cs base wr (.slice al L.length cl) L) ∧ Hid (Below base w wr)) (fun _ o wr => 2 * cntF wr base + lenT wr B + okN o)
  case atStart => exact ⟨HR3, HV3, HB3⟩
  case round =>
    clear HR3 HV3 HB3
    obtain ⟨HR, HV, HBr⟩ := hrel
    rcases HR.out with ⟨S, rfl, rfl, hw, hi⟩ | ⟨S, T, x, rfl, rfl, hw, hi⟩
    · have HA : Hid (_) := addresses_any hw
      have HD : Hid (∃ S' : List Bool, addrs S = addrs S' ∧ S'.length = L.length ∧ ∀ x, On S' x ↔ Rch L.length (tv R) (outL L) x) := (show Exists _ from ⟨S, rfl, hi.len, hi.done⟩)
      clear hw hi HR
      go_wp2_with fail
      refine Calls.mono HA.out ?_
      rintro e w4 ⟨r, rfl, HO4, HB4⟩
      go_wp2_with fail
      go_ret
      exact ⟨r, _, rfl, HO4, HD, HBr.out.trans HB4.out⟩
    · have hon := hi.todo x (by simp)
      have hx0 := hon.1
      have hx1 : x ≤ L.length := by have := hon.le; rw [show S.length = L.length from hi.len] at this; exact this
      obtain ⟨k, rfl⟩ : ∃ k, x = k + 1 := ⟨x - 1, by omega⟩
      have hk : k < L.length := by omega
      obtain ⟨a', cap', e, h3⟩ := HV.out
      injection e with e1' _ e2'
      subst e1' e2'
      rcases h3 with h3 | ⟨b, off, rfl, hb0, hb1, hc⟩
      · omega
      obtain ⟨aK, nK, kK, vV, c0, c1, c2, c3, c4, c5⟩ := hc k hk
      obtain ⟨aV, kV, rfl, -⟩ := id c5
      have HLV : Hid (_) := leave_any hw (aK := aK) (nK := nK) (kK := kK) c5 (HL.out _ (List.getElem_mem hk))
      have HOL : Hid (outL L (k + 1) = outC L[k]) := (show _ = _ from by unfold outL; rw [Nat.add_sub_cancel, List.getD_eq_getElem?_getD, List.getElem?_eq_getElem hk]; rfl)
      have HI : Hid (Inv L.length (tv R) (outL L) (goA (S, T) (outL L (k + 1)))) := hi.step
      have HMS : Hid (_) := Inv.meas (n := L.length) (R := tv R) (out := outL L) (S := S) (T := T) (x := k + 1)
      have HM : Hid (_) := hw.mz
      rw [HOL.out] at HI HMS
      clear hw hi HR hon c5 hc HOL
      have hkl : (k : Int) + 1 - 1 = (k : Int) := by omega
      rw [show ((k + 1 : Nat) : Int) = (k : Int) + 1 by push_cast; rfl]
      have hkn : (k : Int) < (L.length : Int) := by omega
      generalize L[k] = c at *
      generalize c.vals.length = nV at *
      go_wp2_with fail
      refine Calls.mono HLV.out ?_
      rintro e w4 ⟨rfl, HW4, HK4⟩
      have HT : Hid (_) := take_any HW4.out HI.out
      clear HLV c0 c1 c2 c3 c4
      go_wp2_with fail
      refine Calls.mono HT.out ?_
      rintro e w5 ⟨a, o, rfl, HR5, HM5, HK5⟩
      have HV5 : Hid (Cs base w5 (.slice (some ⟨b, off, none⟩) L.length cl) L) := (HV.out.keep HK4.out wts_mine).keep HK5.out wts_mine
      have HB5 : Hid (Below base w w5) := (HBr.out.trans HK4.out.bel).trans HK5.out.bel
      have HME : Hid (2 * cntF w5 base + lenT w5 B + okN o < 2 * cntF wr base + lenT wr B + okN (.bool true)) := (show _ < _ from by
        have h1 := HM5.out
        have h2 := HMS.out
        have h3 := HM.out
        simp at h2 h3
        rw [h1, h3]
        simp only [okN]
        omega)
      clear HT HM5 HMS HM HV HBr HK4 HK5 HW4
      go_wp2_with fail
      go_roundw
      case rel => exact ⟨HR5, HV5, HB5⟩
      case measure => exact HME.out
end
end Go.Proofs.Ytmipgpkeegggpaa.P
