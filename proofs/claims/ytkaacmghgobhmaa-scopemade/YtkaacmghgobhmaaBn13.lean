/- Texts: QP ScV ScN ScK ScF. -/
import Derived.Test.YtkaacmghgobhmaaBn12
import Derived.Test.YtkaacmghgobhmaaBn00
import Derived.Deep.QuietTactic
import Derived.BigQuiet
import Derived.Maps.OwnSet
section
namespace Go.Proofs.Ytkaacmghgobhmaa.Rd
open Go.RowKit
open L (tkA own_block own_below intOf info_of size_list wpList_append_run plc rtoken_any)
set_option linter.unusedVariables false
section
variable {src : ByteArray} {F : Nat → Prop} {base B dep : Nat} {s s' : Rp.Rt} {nv : Value} {w : World}
set_option maxRecDepth 100000 in
set_option maxHeartbeats 2000000 in
theorem p_full (hd : dep = 40) (hb : s.bad = false) (h : RS src F base B dep s nv w) : Calls Try.prog 72 #[.pointer (some ⟨B, 0, none⟩)] w (Tells src F base B dep nv w (Rp.spoil s) (.int .i64 0)) := by
  have HI : Hid (_) := c_inFull h hb hd
  clear h hb
  go_enter Try.func72, Try.ntmps72
  go_wp2_with fail
  refine Calls.mono HI.out ?_
  rintro e w1 ⟨rfl, hr1, hc1⟩
  go_wp2_with fail
  go_ret
  exact ⟨rfl, nv, hr1, hc1⟩
end
/-- Every level is what it is to be. -/
theorem lvC (src : ByteArray) (base B : Nat) : ∀ (d dep : Nat), d + dep = 40 → ∀ F, LvC src F base B dep (Rp.rl d)
  | 0, dep, hd, F => by
    have h40 : dep = 40 := by omega
    refine ⟨fun E h => ?_, fun E h => ?_, fun hb E h => ?_, fun E h => ?_⟩
    all_goals
      have e := E.eq
      obtain ⟨rfl, rfl⟩ := Prod.mk.inj (show (0, Rp.spoil _) = (_, _) from e)
    · exact e_full h40 h
    · exact u_full h40 h
    · exact p_full h40 hb h
    · exact s_full h40 h
  | d + 1, dep, hd, F => by
    have h40 : dep < 40 := by omega
    have hL := lvC src base B d (dep + 1) (by omega)
    have hP := lvP d
    exact ⟨fun E h => e_part h40 (fun E h => c_assign hL hP E h) E h, fun E h => u_part h40 hL hP E h, fun hb E h => p_part h40 hL hP hb E h, fun E h => s_part h40 (fun E h => c_one hL hP E h) E h⟩
/-- A tree as it lies, told. -/
def Told (W : World) (v : Value) (ns : List Ps.Nd) : Prop := ∃ (vs : List (Ps.Nd × Value × Value)) (ad : Option Addr) (cap : Nat), vs.map (·.1) = ns ∧ v = .slice ad ns.length cap ∧ ns.length ≤ cap ∧ (ns = [] ∨ ∃ g, ad = some ⟨g, 0, none⟩ ∧ g < W.heap.size ∧ ∀ j (h : j < vs.length) i, i < 6 → W.cell? ⟨g, j * 6 + i, none⟩ = (ndA vs[j].1 vs[j].2.1 vs[j].2.2)[i]?) ∧ ∀ x ∈ vs, NamesIn W x.2.1 x.1.names ∧ KidsIn W x.2.2 x.1.kids
theorem Told.nil (W : World) : Told W (.slice none 0 0) [] := ⟨[], none, 0, rfl, rfl, Nat.le_refl _, .inl rfl, by simp⟩
theorem NamesIn.below {W W' : World} {v : Value} {l : List (List UInt8)} (h : NamesIn W v l) (hb : Below W.heap.size W W') : NamesIn W' v l := h.same hb.size (fun k _ hk => hb.block k hk)
theorem KidsIn.below {W W' : World} {v : Value} {l : List Nat} (h : KidsIn W v l) (hb : Below W.heap.size W W') : KidsIn W' v l := h.same hb.size (fun k _ hk => hb.block k hk)
theorem Told.below {W W' : World} {v : Value} {ns : List Ps.Nd} (h : Told W v ns) (hb : Below W.heap.size W W') : Told W' v ns := by
  obtain ⟨vs, ad, cap, h1, h2, h3, h4, h5⟩ := h
  refine ⟨vs, ad, cap, h1, h2, h3, ?_, fun x hx => ⟨(h5 x hx).1.below hb, (h5 x hx).2.below hb⟩⟩
  rcases h4 with h4 | ⟨g, e, hg, hc⟩
  · exact .inl h4
  · exact .inr ⟨g, e, Nat.lt_of_lt_of_le hg hb.size, fun j hj i hi => (hb.cell (p := ⟨g, j * 6 + i, none⟩) hg).trans (hc j hj i hi)⟩
theorem ndCells_ati : ∀ (vs : List (Ps.Nd × Value × Value)) (j : Nat) (h : j < vs.length) (i : Nat), i < 6 → (ndCells vs)[j * 6 + i]? = (ndA vs[j].1 vs[j].2.1 vs[j].2.2)[i]?
  | [], j, h, i, hi => by simp at h
  | x :: vs, 0, h, i, hi => by
    rw [show ndCells (x :: vs) = (ndA x.1 x.2.1 x.2.2).toList ++ ndCells vs from rfl, List.getElem?_append_left (by simp; omega)]
    simp
  | x :: vs, j + 1, h, i, hi => by
    have ih := ndCells_ati vs j (by simpa using h) i hi
    rw [show ndCells (x :: vs) = (ndA x.1 x.2.1 x.2.2).toList ++ ndCells vs from rfl, List.getElem?_append_right (by simp; omega)]
    rw [show (j + 1) * 6 + i - (ndA x.1 x.2.1 x.2.2).toList.length = j * 6 + i by simp; omega]
    simpa using ih
theorem RS.told {src : ByteArray} {F : Nat → Prop} {base B dep : Nat} {s : Rp.Rt} {nv : Value} {W : World} (h : RS src F base B dep s nv W) : Told W nv s.nodes := by
  obtain ⟨vs, e, ho, hn⟩ := h.nd
  have hl : vs.length = s.nodes.length := by rw [← e, List.length_map]
  have nl := own_block ho
  have hn' : ∀ x ∈ vs, NamesIn W x.2.1 x.1.names ∧ KidsIn W x.2.2 x.1.kids := fun x hx => ⟨(hn x hx).names, (hn x hx).kids⟩
  rcases ho.2 with ⟨hv, h0⟩ | ⟨g, cap, cur, hv, hb, hg, hcap, hcs, hm, ht⟩
  · have hs : s.nodes = [] := List.length_eq_zero_iff.1 (by omega)
    exact ⟨vs, none, 0, e, by rw [hv, hs]; rfl, by omega, .inl hs, hn'⟩
  · refine ⟨vs, some ⟨g, 0, none⟩, cap, e, by rw [hv, hl], by omega, .inr ⟨g, rfl, (nl g (by rw [hv]; rfl)).2, fun j hj i hi => ?_⟩, hn'⟩
    rw [← ndCells_ati vs j hj i hi]
    subst hv
    exact ho.cellAt (j * 6 + i) (by omega)

/-- The state behind the last statement. -/
def fin (l : List UInt8) : List Nat × Rp.Rt := Rp.list (Rp.rl 40) true ⟨Lx.all l, [], false⟩
theorem rparse_fin (l : List UInt8) : Rp.rparse l = if 4096 < l.length then ([], 0, false) else if (fin l).2.bad then ([], (Rp.nx (fin l).2).a, false) else ((Rp.put { k := 33, kids := (fin l).1 } (fin l).2).2.nodes, 0, true) := rfl
set_option maxRecDepth 100000 in
set_option maxHeartbeats 2000000 in
theorem rParse_any (l : List UInt8) (w : World) (hsm : l.length ≤ 4096 → (fin l).2.nodes.length ≤ 999999999) :
    Calls Try.prog 12 #[.string ⟨l.toArray⟩] w fun e w' => ∃ v, e = .returned (.agg #[v, .int .i64 ((Rp.rparse l).2.1 : Int), .bool (Rp.rparse l).2.2]) ∧ Told w' v (Rp.rparse l).1 ∧ Below w.heap.size w w' := by
  have hsz : (⟨l.toArray⟩ : ByteArray).size = l.length := rfl
  rw [rparse_fin]
  by_cases hlen : 4096 < l.length
  · have hli : (4096 : Int) < (⟨l.toArray⟩ : ByteArray).size := by rw [hsz]; omega
    rw [if_pos hlen]
    clear hsm
    go_enter Try.func12, Try.ntmps12
    go_wp2_with fail
    refine bodyPost_ret (v := .agg #[.slice none 0 0, .int .i64 0, .bool false]) (by simp [results, Try.results12, go_sem, *]) rfl ⟨_, rfl, Told.nil _, ?_⟩
    repeat (first | with_reducible exact Below.refl _ _ | (with_reducible refine Below.setCell ?_ (by first | exact Nat.le_refl _ | omega | simp) _) | (with_reducible refine Below.alloc ?_ (by first | exact Nat.le_refl _ | omega | simp | (simp; omega)) _))
  have hli : ¬ (4096 : Int) < (⟨l.toArray⟩ : ByteArray).size := by rw [hsz]; omega
  rw [if_neg hlen]
  have hn := hsm (by omega)
  rcases eF : fin l with ⟨K, s1⟩
  rw [eF] at hn
  simp only at hn ⊢
  obtain ⟨ns, at0, ok, hres⟩ : ∃ ns at0 ok, (if s1.bad = true then (([] : List Ps.Nd), (Rp.nx s1).a, false) else ((Rp.put { k := 33, kids := K } s1).2.nodes, 0, true)) = (ns, at0, ok) := ⟨_, _, _, rfl⟩
  rw [hres]
  have HRES : Hid (_ = (ns, at0, ok)) := hres
  have E1 : Ru (Rp.list (Rp.rl 40) true) ⟨Lx.all l, [], false⟩ K s1 := ⟨eF, Nat.le_trans hn (by omega)⟩
  have HNN : Hid (s1.nodes.length ≤ 999999999) := hn
  have HTK : Hid (∀ W, Calls Try.prog 21 #[.string ⟨l.toArray⟩, .int .i64 0] W fun e w' => ∃ (T : Lx.Tk) (E' : Nat), e = .returned (.agg #[.int .i64 (T.k : Int), .string ⟨T.t.toArray⟩, .int .i64 (T.n : Int), .int .i64 (T.a : Int), .bool T.ln, .int .i64 (E' : Int)]) ∧ Hid (T = Lx.tok l 0) ∧ Hid (T.k ≠ 6 → E' = T.e) ∧ Hid (Below W.heap.size W w')) := fun W => by
    have hh := rtoken_any ⟨l.toArray⟩ 0 W (by rw [hsz]; omega)
    rw [show plc 0 (⟨l.toArray⟩ : ByteArray).size = 0 by unfold plc; omega] at hh
    refine hh.mono ?_
    rintro e w' ⟨⟨E', rfl, hE'⟩, hb'⟩
    exact ⟨_, E', rfl, rfl, hE', hb'⟩
  have HLEN : Hid (l.length ≤ 4096) := (show _ ≤ _ by omega)
  clear hsm hn eF hlen hres
  go_enter Try.func12, Try.ntmps12
  go_wp2_with fail
  refine Calls.mono (HTK.out _) ?_
  rintro e w1 ⟨T, E', rfl, hT, hE, hb1⟩
  have hw1 := hb1.out.size
  rw [alloc_size'] at hw1
  have hR0 : RS ⟨l.toArray⟩ (fun k => k = w.heap.size) w1.heap.size w1.heap.size 0 ⟨Lx.all l, [], false⟩ (.slice none 0 0) (w1.alloc (.cells #[.string ⟨l.toArray⟩, .int .i64 (T.k : Int), .string ⟨T.t.toArray⟩, .int .i64 (T.n : Int), .int .i64 (T.a : Int), .bool T.ln, .int .i64 (E' : Int), .slice none 0 0, .int .i64 0, .bool false] 59)) := by
    have hnx : Rp.nx ⟨Lx.all l, [], false⟩ = T := by
      rw [hT.out]
      unfold Rp.nx Lx.all
      rw [Lx.all_step l 0 (Nat.zero_le _)]
      split <;> rfl
    refine ⟨Nat.le_refl _, by rw [hsz]; exact HLEN.out, by omega, ⟨E', 0, ⟨0, Nat.zero_le _, rfl, by rw [hnx]; exact hE.out⟩, by omega, fun _ => rfl, ?_⟩, ⟨[], rfl, ⟨rfl, .inl ⟨rfl, rfl⟩⟩, by simp⟩, by simp [Value.ownBlock], fun k hk => ?_⟩
    · rw [hnx]; exact Array.getElem?_push_size
    · subst hk
      rw [alloc_size']
      exact ⟨by omega, by omega, by simp [Value.ownBlock]⟩
  have HR0 : Hid (_) := hR0
  have HB1 : Hid (Below w.heap.size w w1) := ((Below.refl w.heap.size w).alloc (Nat.le_refl _) _).trans (hb1.out.mono (by rw [alloc_size']; omega))
  have HW1 : Hid (w.heap.size + 1 ≤ w1.heap.size) := hw1
  have HRC : Hid (w1.heap[w.heap.size]? = _) := (hb1.out.block w.heap.size (by rw [alloc_size']; omega)).trans Array.getElem?_push_size
  clear hR0 hb1 hT hE hw1 HTK
  go_wp2_with fail
  refine Calls.mono (c_list (lvC _ _ _ 40 0 rfl) (lvP 40) E1 HR0.out) ?_
  rintro e w2 ⟨ak, ck, rfl, nv2, hr2, hc2, hk2⟩
  have hRC2 := (hc2.block w.heap.size (by rw [alloc_size']; have := HW1.out; omega) (by have := HW1.out; omega) (by simp [Value.ownBlock])).trans ((Below.heap_alloc w1 _ w.heap.size (by have := HW1.out; omega)).trans HRC.out)
  have FB : ∀ {nv9 : Value} {w9 : World}, Chg w1.heap.size (.slice none 0 0) nv9 (w1.alloc (.cells #[.string ⟨l.toArray⟩, .int .i64 (T.k : Int), .string ⟨T.t.toArray⟩, .int .i64 (T.n : Int), .int .i64 (T.a : Int), .bool T.ln, .int .i64 (E' : Int), .slice none 0 0, .int .i64 0, .bool false] 59)) w9 → Below w.heap.size w w9 := fun hc =>
    (HB1.out.alloc (by have := HW1.out; omega) _).trans (hc.toBelow (by have := HW1.out; omega) (fun k hk => by simp [Value.ownBlock] at hk) (by rw [alloc_size']; have := HW1.out; omega))
  have HFB : Hid (∀ {nv9 : Value} {w9 : World}, Chg w1.heap.size (.slice none 0 0) nv9 (w1.alloc (.cells #[.string ⟨l.toArray⟩, .int .i64 (T.k : Int), .string ⟨T.t.toArray⟩, .int .i64 (T.n : Int), .int .i64 (T.a : Int), .bool T.ln, .int .i64 (E' : Int), .slice none 0 0, .int .i64 0, .bool false] 59)) w9 → Below w.heap.size w w9) := FB
  clear FB HB1 HRC HR0
  obtain ⟨c0, c1, c2, c3, c4, c5, c7, c9, cf, hlt⟩ := hr2.cl
  have q0 : w2.cell? ⟨w.heap.size, 0, none⟩ = some (.slice none 0 0) := by simp [World.cell?, hRC2]
  have q1 : w2.cell? ⟨w.heap.size, 1, none⟩ = some (.int .i64 0) := by simp [World.cell?, hRC2]
  have q2 : w2.cell? ⟨w.heap.size, 2, none⟩ = some (.bool false) := by simp [World.cell?, hRC2]
  have qf : ∀ i, w2.frozen? ⟨w.heap.size, i, none⟩ = false := fun i => by simp [World.frozen?, hRC2]
  have ql : w.heap.size < w2.heap.size := Nat.lt_of_not_le fun hg => by rw [Array.getElem?_eq_none hg] at hRC2; cases hRC2
  have HR2 : Hid (_) := hr2
  have HC2 : Hid (_) := hc2
  have HK2 : Hid (_) := hk2
  have hres := HRES.out
  clear hr2 hc2 hk2 hRC2
  cases hb : s1.bad
  · rw [hb] at hres c9
    simp only [Bool.false_eq_true, if_false, Prod.mk.injEq] at hres
    obtain ⟨rfl, rfl, rfl⟩ := hres
    have R3 : Ru (Rp.put { k := 33, kids := K }) s1 s1.nodes.length (Rp.put { k := 33, kids := K } s1).2 := ⟨rfl, by have := HNN.out; show (s1.nodes ++ [_]).length ≤ _; simp; omega⟩
    obtain ⟨s3, hs3⟩ : ∃ s3, (Rp.put { k := 33, kids := K } s1).2 = s3 := ⟨_, rfl⟩
    rw [hs3] at R3
    have HS3 : Hid (_ = s3) := hs3
    clear hb HRES hs3
    go_wp2_with fail
    refine Calls.mono (c_putV (k := 33) (n := 0) (t := []) (N := []) (K := K) (a := 0) R3 HR2.out (NV.nil _ _ _ _) HK2.out) ?_
    rintro e w3 ⟨rfl, nv3, hr3, hc3⟩
    have hk := HR2.out.keepF hc3 (g := w.heap.size) rfl
    have u0 := (cell_of_block hk 0).trans q0
    have u1 := (cell_of_block hk 1).trans q1
    have u2 := (cell_of_block hk 2).trans q2
    have uf : ∀ i, w3.frozen? ⟨w.heap.size, i, none⟩ = false := fun i => by have := qf i; unfold World.frozen? at this ⊢; rw [hk]; exact this
    have ul := Nat.lt_of_lt_of_le ql hc3.size
    clear c0 c1 c2 c3 c4 c5 c7 c9 cf hlt q0 q1 q2 qf ql hk
    obtain ⟨c0, c1, c2, c3, c4, c5, c7, c9, cf, hlt⟩ := hr3.cl
    have HT : Hid (∀ x y z, Told (((w3.setCell ⟨w.heap.size, 0, none⟩ x).setCell ⟨w.heap.size, 1, none⟩ y).setCell ⟨w.heap.size, 2, none⟩ z) nv3 s3.nodes) := fun x y z => (((hr3.foreign (X := w.heap.size) rfl 0 x).foreign (X := w.heap.size) rfl 1 y).foreign (X := w.heap.size) rfl 2 z).told
    have HBW : Hid (Below w.heap.size w w3) := HFB.out (HC2.out.trans hc3)
    have HN3 : Hid (∃ ad cap, nv3 = .slice ad s3.nodes.length cap) := by
      obtain ⟨vs, ad, cap, _, h, _⟩ := hr3.told
      exact ⟨ad, cap, h⟩
    clear hr3 hc3 HR2 HC2 HK2 HFB
    obtain ⟨ad, cap, rfl⟩ := Hid.out HN3
    generalize s3.nodes.length = nl at *
    go_wp2_with fail
    refine bodyPost_ret (v := .agg #[.slice ad nl cap, .int .i64 0, .bool true]) (by simp [results, Try.results12, go_sem, *]) rfl ⟨_, rfl, ?_, ?_⟩
    · rw [HS3.out]; exact HT.out _ _ _
    · exact ((HBW.out.setCell (p := ⟨w.heap.size, 0, none⟩) (Nat.le_refl _) _).setCell (p := ⟨w.heap.size, 1, none⟩) (Nat.le_refl _) _).setCell (p := ⟨w.heap.size, 2, none⟩) (Nat.le_refl _) _
  · rw [hb] at hres c9
    simp only [if_true, Prod.mk.injEq] at hres
    obtain ⟨rfl, rfl, rfl⟩ := hres
    have HBW : Hid (Below w.heap.size w w2) := HFB.out HC2.out
    clear hb HRES HR2 HC2 HK2 HFB
    go_wp2_with fail
    refine bodyPost_ret (v := .agg #[.slice none 0 0, .int .i64 ((Rp.nx s1).a : Int), .bool false]) (by simp [results, Try.results12, go_sem, *]) rfl ⟨_, rfl, Told.nil _, ?_⟩
    exact ((HBW.out.setCell (p := ⟨w.heap.size, 0, none⟩) (Nat.le_refl _) _).setCell (p := ⟨w.heap.size, 1, none⟩) (Nat.le_refl _) _).setCell (p := ⟨w.heap.size, 2, none⟩) (Nat.le_refl _) _
end Go.Proofs.Ytkaacmghgobhmaa.Rd
end
section
namespace Go.Proofs.Ytkaacmghgobhmaa.Rd
open Go.RowKit
open L (tkA own_block own_below intOf info_of)
set_option linter.unusedVariables false
theorem Told.both {W : World} {ad : Option Addr} {n cap : Nat} {ns : List Ps.Nd} (h : Told W (.slice ad n cap) ns) (hn : ns ≠ []) : ∃ g, ad = some ⟨g, 0, none⟩ ∧ n = ns.length ∧ g < W.heap.size ∧ ns.length ≤ cap ∧ ∀ j (h : j < ns.length), ∃ (an ak : Option Addr) (cn ck : Nat), (∀ i, i < 6 → W.cell? ⟨g, j * 6 + i, none⟩ = (ndA ns[j] (.slice an ns[j].names.length cn) (.slice ak ns[j].kids.length ck))[i]?) ∧ NamesIn W (.slice an ns[j].names.length cn) ns[j].names ∧ KidsIn W (.slice ak ns[j].kids.length ck) ns[j].kids := by
  obtain ⟨vs, ad', cap', e1, e2, h3, h4, h5⟩ := h
  simp only [Value.slice.injEq] at e2
  obtain ⟨rfl, rfl, rfl⟩ := e2
  obtain ⟨g, rfl, hg, hc⟩ := h4.resolve_left hn
  refine ⟨g, rfl, rfl, hg, h3, fun j hj => ?_⟩
  subst e1
  rw [List.length_map] at hj
  have hm := h5 vs[j] (List.getElem_mem _)
  have e : (vs.map (·.1))[j]'(by rw [List.length_map]; exact hj) = vs[j].1 := by simp
  rw [e]
  have hci := hc j hj
  generalize vs[j] = x at *
  obtain ⟨nd, nm, kd⟩ := x
  simp only at hm hci ⊢
  obtain ⟨⟨an, cn, rfl, hN⟩, ⟨ak, ck, rfl, hK⟩⟩ := hm
  exact ⟨an, ak, cn, ck, hci, ⟨an, cn, rfl, hN⟩, ⟨ak, ck, rfl, hK⟩⟩
theorem Told.slice {W : World} {v : Value} {ns : List Ps.Nd} (h : Told W v ns) : ∃ ad cap, v = .slice ad ns.length cap := by
  obtain ⟨_, ad, cap, _, e, _⟩ := h
  exact ⟨ad, cap, e⟩
/-- A node as it lies, with its kids. -/
theorem Told.node {W : World} {v : Value} {l : List Ps.Nd} (h : Told W v l) (a : Nat) (ha : a < l.length) : ∃ (g cap : Nat) (an ak : Option Addr) (cn ck : Nat), v = .slice (some ⟨g, 0, none⟩) l.length cap ∧ g < W.heap.size ∧ l.length ≤ cap ∧
    (∀ i, i < 6 → W.cell? ⟨g, a * 6 + i, none⟩ = (ndA l[a] (.slice an l[a].names.length cn) (.slice ak l[a].kids.length ck))[i]?) ∧ NamesIn W (.slice an l[a].names.length cn) l[a].names ∧ l[a].kids.length ≤ ck ∧ (l[a].kids = [] ∨ ∃ gk, ak = some ⟨gk, 0, none⟩ ∧ gk < W.heap.size ∧ ∀ j (h : j < l[a].kids.length), W.cell? ⟨gk, j, none⟩ = some (.int .i64 (l[a].kids[j] : Int))) := by
  obtain ⟨ad, cap, rfl⟩ := h.slice
  obtain ⟨g, rfl, _, hg, hc, H⟩ := h.both (fun e => by simp [e] at ha)
  obtain ⟨an, ak, cn, ck, h1, h2, h3⟩ := H a ha
  obtain ⟨ad, cp, e, k1, k2⟩ := h3
  simp only [Value.slice.injEq] at e
  obtain ⟨rfl, _, rfl⟩ := e
  exact ⟨g, cap, an, ak, cn, ck, rfl, hg, hc, h1, h2, k1, k2⟩
/-- A kid's place and whether it is one. -/
def kidV (r : Option Nat) : Value := .tuple #[.int .i64 ((r.getD 0 : Nat) : Int), .bool r.isSome]
set_option maxRecDepth 100000 in
set_option maxHeartbeats 1000000 in
theorem kid_some (b g gk n cap m ck a p x : Nat) (w : World) (ha : a < n) (hn : n ≤ cap) (hm : m ≤ ck) (hp : p < m) (hx : x ≤ 1000000000) (hnn : n ≤ 1000000000) (hmm : m ≤ 1000000000)
    (hb : b < w.heap.size) (hg : g < w.heap.size) (hgk : gk < w.heap.size) (c0 : w.cell? ⟨b, 0, none⟩ = some (.slice (some ⟨g, 0, none⟩) n cap)) (c1 : w.cell? ⟨g, a * 6 + 4, none⟩ = some (.slice (some ⟨gk, 0, none⟩) m ck)) (c2 : w.cell? ⟨gk, p, none⟩ = some (.int .i64 (x : Int))) :
    Calls Try.prog 55 #[.pointer (some ⟨b, 0, none⟩), .int .i64 (a : Int), .int .i64 (p : Int)] w fun e w' => e = .returned (kidV (if x < a then some x else none)) ∧ Below w.heap.size w w' := by
  have ha' : (a : Int) < n := by omega
  have ha0 : (0 : Int) ≤ a := by omega
  have hp' : (p : Int) < m := by omega
  have hp0 : (0 : Int) ≤ p := by omega
  have hx0 : (0 : Int) ≤ x := by omega
  go_enter Try.func55, Try.ntmps55
  by_cases h : x < a
  · have h' : (x : Int) < a := by omega
    rw [if_pos h]
    go_wp2_with fail
    go_ret2
    exact ⟨rfl, Below.refl _ _⟩
  · have h' : ¬ (x : Int) < a := by omega
    rw [if_neg h]
    go_wp2_with fail
    go_ret2
    exact ⟨rfl, Below.refl _ _⟩
set_option maxRecDepth 100000 in
set_option maxHeartbeats 1000000 in
theorem kid_none (b g n cap m ck a p : Nat) (ak : Option Addr) (w : World) (ha : a < n) (hn : n ≤ cap) (hm : m ≤ ck) (hp : ¬ p < m) (hnn : n ≤ 1000000000) (hmm : m ≤ 1000000000)
    (hb : b < w.heap.size) (hg : g < w.heap.size) (c0 : w.cell? ⟨b, 0, none⟩ = some (.slice (some ⟨g, 0, none⟩) n cap)) (c1 : w.cell? ⟨g, a * 6 + 4, none⟩ = some (.slice ak m ck)) :
    Calls Try.prog 55 #[.pointer (some ⟨b, 0, none⟩), .int .i64 (a : Int), .int .i64 (p : Int)] w fun e w' => e = .returned (kidV none) ∧ Below w.heap.size w w' := by
  have ha' : (a : Int) < n := by omega
  have ha0 : (0 : Int) ≤ a := by omega
  have hp' : ¬ (p : Int) < m := by omega
  have hp0 : (0 : Int) ≤ p := by omega
  go_enter Try.func55, Try.ntmps55
  go_wp2_with fail
  go_ret2
  exact ⟨rfl, Below.refl _ _⟩
/-- What the walks know of a tree: it lies where the finder says, and is not too big. -/
structure Lies (W : World) (b : Nat) (l : List Ps.Nd) : Prop where
  ne : l ≠ []
  few : l.length ≤ 1000000
  small : ∀ x ∈ l, x.names.length ≤ 1000000 ∧ x.kids.length ≤ 1000000 ∧ ∀ k ∈ x.kids, k ≤ 1000000
  kinds : ∀ x ∈ l, x.k ≤ 1000000000
  hb : b < W.heap.size
  nv : ∃ v, W.cell? ⟨b, 0, none⟩ = some v ∧ Told W v l
theorem Lies.below {W W' : World} {b : Nat} {l : List Ps.Nd} (h : Lies W b l) (hw : Below W.heap.size W W') : Lies W' b l := by
  obtain ⟨v, h1, h2⟩ := h.nv
  exact ⟨h.ne, h.few, h.small, h.kinds, Nat.lt_of_lt_of_le h.hb hw.size, v, (hw.cell (p := ⟨b, 0, none⟩) h.hb).trans h1, h2.below hw⟩
theorem kid_any {l : List Ps.Nd} {b : Nat} {w : World} (h : Lies w b l) (a p : Nat) (ha : a < l.length) (hp : p ≤ 1000000000) :
    Calls Try.prog 55 #[.pointer (some ⟨b, 0, none⟩), .int .i64 (a : Int), .int .i64 (p : Int)] w fun e w' => e = .returned (kidV (Sc.kid l a p)) ∧ Below w.heap.size w w' := by
  obtain ⟨v, c0, ht⟩ := h.nv
  obtain ⟨g, cap, an, ak, cn, ck, rfl, hg, hc, hn, _, hk1, hk2⟩ := ht.node a ha
  have hs := h.small _ (List.getElem_mem ha)
  have hf := h.few
  have c1 := hn 4 (by omega)
  unfold Sc.kid
  rw [List.getElem?_eq_getElem ha]
  simp only [Option.bind_some]
  by_cases hm : p < l[a].kids.length
  · rw [List.getElem?_eq_getElem hm]
    rcases hk2 with hk2 | ⟨gk, rfl, hgk, hk2⟩
    · rw [hk2] at hm; simp at hm
    · have := hs.2.2 _ (List.getElem_mem hm)
      exact kid_some b g gk l.length cap l[a].kids.length ck a p l[a].kids[p] w ha hc hk1 hm (by omega) (by omega) (by omega) h.hb hg hgk c0 c1 (hk2 p hm)
  · rw [List.getElem?_eq_none (by omega)]
    exact kid_none b g l.length cap l[a].kids.length ck a p ak w ha hc hk1 hm (by omega) (by omega) h.hb hg c0 c1
/-- A name and whether there is one. -/
def nameV (r : Option (List UInt8)) : Value := .tuple #[.string ⟨(r.getD []).toArray⟩, .bool r.isSome]
set_option maxRecDepth 100000 in
set_option maxHeartbeats 1000000 in
theorem makes_core (b g n cap a k x5 x1 m1 m2 cn ck : Nat) (an ak : Option Addr) (t : List UInt8) (r : Option Nat) (tf : Nat → List UInt8) (w : World) (ha : a < n) (hn : n ≤ cap) (hnn : n ≤ 1000000000) (hk : k ≤ 1000000000)
    (hb : b < w.heap.size) (hg : g < w.heap.size) (c0 : w.cell? ⟨b, 0, none⟩ = some (.slice (some ⟨g, 0, none⟩) n cap)) (c1 : ∀ i, i < 6 → w.cell? ⟨g, a * 6 + i, none⟩ = (#[.int .i64 (k : Int), .int .i64 (x1 : Int), .string ⟨t.toArray⟩, .slice an m1 cn, .slice ak m2 ck, .int .i64 (x5 : Int)] : Array Value)[i]?)
    (HK : Hid (∀ W, Below w.heap.size w W → Calls Try.prog 55 #[.pointer (some ⟨b, 0, none⟩), .int .i64 (a : Int), .int .i64 0] W fun e w' => e = .returned (kidV r) ∧ Below w.heap.size w w'))
    (HF : Hid (∀ f, r = some f → f < n ∧ w.cell? ⟨g, f * 6 + 2, none⟩ = some (.string ⟨(tf f).toArray⟩))) :
    Calls Try.prog 43 #[.pointer (some ⟨b, 0, none⟩), .int .i64 (a : Int)] w fun e w' => e = .returned (nameV (if k = 21 ∨ k = 22 then some t else if k = 23 then r.map tf else none)) ∧ Below w.heap.size w w' := by
  have ha' : (a : Int) < n := by omega
  have ha0 : (0 : Int) ≤ a := by omega
  have d0 := c1 0 (by omega)
  have d1 := c1 1 (by omega)
  have d2 := c1 2 (by omega)
  have d3 := c1 3 (by omega)
  have d4 := c1 4 (by omega)
  have d5 := c1 5 (by omega)
  clear c1
  simp only [Nat.add_zero, List.getElem?_toArray, List.getElem?_cons_zero, List.getElem?_cons_succ] at d0 d1 d2 d3 d4 d5
  go_enter Try.func43, Try.ntmps43
  by_cases h1 : k = 21
  · subst h1
    go_wp2_with fail
    go_ret2
    exact ⟨rfl, Below.alloc (Below.refl _ _) (Nat.le_refl _) _⟩
  by_cases h2 : k = 22
  · subst h2
    go_wp2_with fail
    go_ret2
    exact ⟨rfl, Below.alloc (Below.refl _ _) (Nat.le_refl _) _⟩
  have h1' : ¬ (k : Int) = 21 := by omega
  have h2' : ¬ (k : Int) = 22 := by omega
  rw [if_neg (by omega)]
  by_cases h3 : k = 23
  · subst h3
    rw [if_pos rfl]
    go_wp2_with fail
    refine Calls.mono (HK.out _ (Below.alloc (Below.refl _ _) (Nat.le_refl _) _)) ?_
    rintro e w1 ⟨rfl, hb1⟩
    have HB : Hid (Below w.heap.size w w1) := hb1
    cases r with
    | none =>
      simp only [kidV, Option.getD_none, Option.isSome_none]
      go_wp2_with fail
      go_ret2
      exact ⟨rfl, HB.out⟩
    | some f =>
      obtain ⟨hf, cf⟩ := HF.out f rfl
      have e0 := (hb1.cell (p := ⟨b, 0, none⟩) hb).trans c0
      have e1 := (hb1.cell (p := ⟨g, f * 6 + 2, none⟩) hg).trans cf
      have g1 := Nat.lt_of_lt_of_le hg hb1.size
      have g2 := Nat.lt_of_lt_of_le hb hb1.size
      have hf' : (f : Int) < n := by omega
      have hf0 : (0 : Int) ≤ f := by omega
      clear c0 d0 d1 d2 d3 d4 d5 cf hb1 HK HF
      simp only [kidV, Option.getD_some, Option.isSome_some]
      go_wp2_with fail
      go_ret2
      exact ⟨rfl, HB.out⟩
  · have h3' : ¬ (k : Int) = 23 := by omega
    rw [if_neg h3]
    go_wp2_with fail
    go_ret2
    exact ⟨rfl, Below.alloc (Below.refl _ _) (Nat.le_refl _) _⟩
theorem makes_any {l : List Ps.Nd} {b : Nat} {w : World} (h : Lies w b l) (a : Nat) (ha : a < l.length) :
    Calls Try.prog 43 #[.pointer (some ⟨b, 0, none⟩), .int .i64 (a : Int)] w fun e w' => e = .returned (nameV (Sc.makes l a)) ∧ Below w.heap.size w w' := by
  obtain ⟨v, c0, ht⟩ := id h.nv
  obtain ⟨g, cap, an, ak, cn, ck, rfl, hg, hc, hn, _, _, _⟩ := ht.node a ha
  have hf := h.few
  have e : Sc.makes l a = if l[a].k = 21 ∨ l[a].k = 22 then some l[a].t else if l[a].k = 23 then (Sc.kid l a 0).map (fun f => (l.getD f {}).t) else none := by
    unfold Sc.makes
    rw [List.getElem?_eq_getElem ha]
    simp only
    have : ((Sc.kid l a 0).bind fun f => (l[f]?).map (fun m => m.t)) = (Sc.kid l a 0).map (fun f => (l.getD f {}).t) := by
      cases hk : Sc.kid l a 0 with
      | none => rfl
      | some f =>
        have := Sc.kid_lt hk
        rw [Option.bind_some, Option.map_some, List.getD_eq_getElem?_getD, List.getElem?_eq_getElem (by omega)]
        rfl
    rw [this]
  rw [e]
  have hkd : l[a].k ≤ 1000000000 := h.kinds _ (List.getElem_mem ha)
  refine makes_core b g l.length cap a l[a].k l[a].a l[a].n l[a].names.length l[a].kids.length cn ck an ak l[a].t (Sc.kid l a 0) _ w ha hc (by omega) hkd h.hb hg c0 hn (fun W hW => ?_) (fun f hk => ?_)
  · refine (kid_any (h.below hW) a 0 ha (by omega)).mono ?_
    rintro e w' ⟨rfl, hb⟩
    exact ⟨rfl, hW.trans (hb.mono hW.size)⟩
  · have hfa := Sc.kid_lt hk
    have hfl : f < l.length := by omega
    refine ⟨hfl, ?_⟩
    obtain ⟨g', cap', an', ak', cn', ck', e', _, _, hn', _⟩ := ht.node f hfl
    simp only [Value.slice.injEq, Option.some.injEq, Addr.mk.injEq, and_true] at e'
    obtain ⟨rfl, _, rfl⟩ := e'
    rw [hn' 2 (by omega), List.getD_eq_getElem?_getD, List.getElem?_eq_getElem hfl]
    rfl
end Go.Proofs.Ytkaacmghgobhmaa.Rd
end
section
namespace Go.Proofs.Ytkaacmghgobhmaa.Sc
theorem madeFrom_snoc (l : List Ps.Nd) (a : Nat) : ∀ (n p : Nat), madeFrom l a p (n + 1) = madeFrom l a p n ++ (one l a (p + n)).toList
  | 0, p => by simp [madeFrom]
  | n + 1, p => by
    have h := madeFrom_snoc l a n (p + 1)
    show (one l a p).toList ++ madeFrom l a (p + 1) (n + 1) = ((one l a p).toList ++ madeFrom l a (p + 1) n) ++ _
    rw [h, List.append_assoc, show p + 1 + n = p + (n + 1) by omega]
theorem madeFrom_len (l : List Ps.Nd) (a : Nat) : ∀ (n p : Nat), (madeFrom l a p n).length ≤ n
  | 0, p => by simp [madeFrom]
  | n + 1, p => by
    have h := madeFrom_len l a n (p + 1)
    show ((one l a p).toList ++ madeFrom l a (p + 1) n).length ≤ _
    rw [List.length_append]
    have : (one l a p).toList.length ≤ 1 := by cases one l a p <;> simp
    omega
end Go.Proofs.Ytkaacmghgobhmaa.Sc
namespace Go.Proofs.Ytkaacmghgobhmaa.Rd
open Go.RowKit
open L (tkA own_block own_below info_of wpList_append_run)
set_option linter.unusedVariables false
/-- Names in a row of one's own. -/
structure OwnN (w0 W : World) (v : Value) (N : List (List UInt8)) : Prop where
  own : W.ownsRow w0.heap.size 9 1 v N.length (nc N)
  bel : Below w0.heap.size w0 W
theorem OwnN.nil {w0 W : World} (h : Below w0.heap.size w0 W) : OwnN w0 W (.slice none 0 0) [] := ⟨⟨rfl, .inl ⟨rfl, rfl⟩⟩, h⟩
theorem OwnN.below {w0 W W' : World} {v : Value} {N : List (List UInt8)} (h : OwnN w0 W v N) (hb : Below W.heap.size W W') : OwnN w0 W' v N := ⟨own_below h.own hb, h.bel.trans (hb.mono h.bel.size)⟩
theorem OwnN.more {w0 W : World} {v : Value} {N : List (List UInt8)} (h : OwnN w0 W v N) (x : List UInt8) (hn : N.length + 1 ≤ 10000000) :
    ∃ a' cap' w3, (Builtin.append_ #[35, 35] 35 #[v, .slice (some ⟨W.heap.size, 0, none⟩) 1 1]).run Try.prog (W.alloc (.cells #[.string ⟨x.toArray⟩] 9)) = .ok (.slice a' (N.length + 1) cap') w3 ∧ OwnN w0 w3 (.slice a' (N ++ [x]).length cap') (N ++ [x]) := by
  obtain ⟨i0, hi, hz0, hz1, hz2⟩ := info_of infoStr
  have hW : Below W.heap.size W (W.alloc (.cells #[.string ⟨x.toArray⟩] 9)) := (Below.refl _ _).alloc (Nat.le_refl _) _
  have ho1 := own_below h.own hW
  have nl := own_block h.own
  have hnews : ∀ j u, [Value.string ⟨x.toArray⟩][j]? = some u → (W.alloc (.cells #[.string ⟨x.toArray⟩] 9)).cell? ((⟨W.heap.size, 0, none⟩ : Addr).add j) = some u := fun j u hj => by
    have hj0 : j = 0 := by
      rcases Nat.lt_or_ge j 1 with h | h
      · omega
      · rw [List.getElem?_eq_none (by simpa using h)] at hj; cases hj
    subst hj0
    simp at hj; subst hj; simp [Addr.add]
  obtain ⟨v', w3, hr, ho, hg, _, hat⟩ := run_append_own_at (P := Try.prog) (W.alloc (.cells #[.string ⟨x.toArray⟩] 9)) w0.heap.size 35 35 9 i0 _ 1 16 Try.underlying35 hi hz0 hz1 hz2 rfl (by decide) v N.length (nc N) ho1 ⟨W.heap.size, 0, none⟩ 1 1 [.string ⟨x.toArray⟩] rfl hnews (by intro u hu; simp at hu; subst hu; rfl) (by unfold maxLen; omega) (by omega) (Nat.le_trans h.bel.size hW.size)
  obtain ⟨a, cap, rfl⟩ : ∃ a cap, v' = .slice a (N.length + 1) cap := by
    rcases ho.2 with ⟨_, e⟩ | ⟨g, cap, cur, e, _⟩
    · omega
    · exact ⟨_, _, e⟩
  have hl : (N ++ [x]).length = N.length + 1 := by simp
  refine ⟨a, cap, w3, hr, ?_, ?_⟩
  · rw [hl]; simpa using ho
  · refine ⟨hg.os.trans (hW.os.trans h.bel.os), hg.tape.trans (hW.tape.trans h.bel.tape), hg.output.trans (hW.output.trans h.bel.output), Nat.le_trans h.bel.size (Nat.le_trans hW.size hg.size), fun k hk => ?_⟩
    have hks := Nat.lt_of_lt_of_le hk h.bel.size
    refine ((hg.block k (Nat.lt_of_lt_of_le hks hW.size) (fun e => ?_)).trans (hW.block k hks)).trans (h.bel.block k hk)
    have := (nl k e.symm).1
    omega
set_option maxRecDepth 100000 in
set_option maxHeartbeats 1000000 in
theorem made_core (b g n cap m ck a : Nat) (ak : Option Addr) (l : List Ps.Nd) (w : World) (ha : a < n) (hn : n ≤ cap) (hm : m ≤ ck) (hnn : n ≤ 1000000000) (hmm : m ≤ 1000000)
    (hb : b < w.heap.size) (hg : g < w.heap.size) (c0 : w.cell? ⟨b, 0, none⟩ = some (.slice (some ⟨g, 0, none⟩) n cap)) (c1 : w.cell? ⟨g, a * 6 + 4, none⟩ = some (.slice ak m ck))
    (HK : Hid (∀ W p, Below w.heap.size w W → p < m → Calls Try.prog 55 #[.pointer (some ⟨b, 0, none⟩), .int .i64 (a : Int), .int .i64 (p : Int)] W fun e w' => e = .returned (kidV (Sc.kid l a p)) ∧ Below W.heap.size W w'))
    (HM : Hid (∀ W k, Below w.heap.size w W → k < a → Calls Try.prog 43 #[.pointer (some ⟨b, 0, none⟩), .int .i64 (k : Int)] W fun e w' => e = .returned (nameV (Sc.makes l k)) ∧ Below W.heap.size W w')) :
    Calls Try.prog 53 #[.pointer (some ⟨b, 0, none⟩), .int .i64 (a : Int)] w fun e w' => ∃ v, e = .returned v ∧ OwnN w w' v (Sc.madeFrom l a 0 m) := by
  have ha' : (a : Int) < n := by omega
  have ha0 : (0 : Int) ≤ a := by omega
  have HZ : Hid (Below w.heap.size w w) := (show Below _ _ _ from Below.refl _ _)
  go_enter Try.func53, Try.ntmps53
  go_wp2_with fail
  go_loopw [4, 19] (fun v i W => ∃ (k : Nat) (ad : Option Addr) (cp : Nat), k ≤ m ∧ i = .int .i64 (k : Int) ∧ v = .slice ad (Sc.madeFrom l a 0 k).length cp ∧ Hid (OwnN w W (.slice ad (Sc.madeFrom l a 0 k).length cp) (Sc.madeFrom l a 0 k))) (fun _ i _ => m - (L.intOf i).toNat)
  case atStart => exact ⟨0, none, 0, by omega, rfl, rfl, (show OwnN _ _ _ _ from OwnN.nil HZ.out)⟩
  case round =>
    obtain ⟨k, ad, cp, hk, rfl, rfl, HO⟩ := hrel
    by_cases hkm : k < m
    · have hkm' : (k : Int) < m := by omega
      have hk0 : (0 : Int) ≤ k := by omega
      go_wp2_with fail
      refine Calls.mono (HK.out _ k HO.out.bel hkm) ?_
      rintro e w1 ⟨rfl, hb1⟩
      have HO1 : Hid (_) := HO.out.below hb1
      clear hb1 HO
      have es := Sc.madeFrom_snoc l a k 0
      rw [Nat.zero_add] at es
      unfold Sc.one at es
      cases hq : Sc.kid l a k with
      | none =>
        rw [hq, Option.bind_none, Option.toList_none, List.append_nil] at es
        simp only [kidV, Option.getD_none, Option.isSome_none]
        have HO2 : Hid (OwnN w w1 (.slice ad (Sc.madeFrom l a 0 (k + 1)).length cp) (Sc.madeFrom l a 0 (k + 1))) := (show OwnN _ _ _ _ from by rw [es]; exact HO1.out)
        rw [← es]
        clear HO1 es hq
        go_wp2_with fail
        go_roundw
        case rel => exact ⟨k + 1, ad, cp, by omega, by go_num, rfl, HO2⟩
        case measure => simp [L.intOf] <;> omega
      | some f =>
        rw [hq, Option.bind_some] at es
        simp only [kidV, Option.getD_some, Option.isSome_some]
        go_wp2_with fail
        refine Calls.mono (HM.out _ f HO1.out.bel (Sc.kid_lt hq)) ?_
        rintro e w2 ⟨rfl, hb2⟩
        have HO2 : Hid (_) := HO1.out.below hb2
        clear hb2 HO1 hq
        cases hx : Sc.makes l f with
        | none =>
          rw [hx, Option.toList_none, List.append_nil] at es
          simp only [nameV, Option.getD_none, Option.isSome_none]
          have HO3 : Hid (OwnN w w2 (.slice ad (Sc.madeFrom l a 0 (k + 1)).length cp) (Sc.madeFrom l a 0 (k + 1))) := (show OwnN _ _ _ _ from by rw [es]; exact HO2.out)
          rw [← es]
          clear HO2 es hx
          go_wp2_with fail
          go_roundw
          case rel => exact ⟨k + 1, ad, cp, by omega, by go_num, rfl, HO3⟩
          case measure => simp [L.intOf] <;> omega
        | some x =>
          rw [hx, Option.toList_some] at es
          simp only [nameV, Option.getD_some, Option.isSome_some]
          have hlen := Sc.madeFrom_len l a k 0
          obtain ⟨a3, cap3, w3, hap, ho3⟩ := HO2.out.more x (by omega)
          have HRn : Hid (_) := hap
          have HO3 : Hid (OwnN w w3 (.slice a3 (Sc.madeFrom l a 0 (k + 1)).length cap3) (Sc.madeFrom l a 0 (k + 1))) := (show OwnN _ _ _ _ from by rw [es]; exact ho3)
          have hlen3 : (Sc.madeFrom l a 0 k).length + 1 = (Sc.madeFrom l a 0 (k + 1)).length := by rw [es]; simp
          clear HO2 es hx hap ho3
          go_wp2_with (at_builtin; refine wpList_append_run _ _ 35 rfl rfl _ _ _ _ rfl rfl HRn.out ?_)
          go_roundw
          case rel => exact ⟨k + 1, a3, cap3, by omega, by go_num, rfl, HO3⟩
          case measure => simp [L.intOf] <;> omega
    · have hkm' : ¬ (k : Int) < m := by omega
      have : k = m := by omega
      subst this
      go_wp2_with fail
      go_ret
      exact ⟨_, rfl, HO.out⟩
theorem made_any {l : List Ps.Nd} {b : Nat} {w : World} (h : Lies w b l) (a : Nat) (ha : a < l.length) :
    Calls Try.prog 53 #[.pointer (some ⟨b, 0, none⟩), .int .i64 (a : Int)] w fun e w' => ∃ v, e = .returned v ∧ OwnN w w' v (Sc.made l a) := by
  obtain ⟨v, c0, ht⟩ := id h.nv
  obtain ⟨g, cap, an, ak, cn, ck, rfl, hg, hc, hn, _, hk1, _⟩ := ht.node a ha
  have hf := h.few
  have hs := h.small _ (List.getElem_mem ha)
  have e : Sc.made l a = Sc.madeFrom l a 0 l[a].kids.length := by unfold Sc.made Sc.kidsOf; rw [List.getElem?_eq_getElem ha]; rfl
  rw [e]
  exact made_core b g l.length cap l[a].kids.length ck a ak l w ha hc hk1 (by omega) hs.2.1 h.hb hg c0 (hn 4 (by omega)) (fun W p hW hp => kid_any (h.below hW) a p ha (by have := hs.2.1; omega)) (fun W k hW hk => makes_any (h.below hW) k (by omega))
end Go.Proofs.Ytkaacmghgobhmaa.Rd
end
section
namespace Go.Proofs.Ytkaacmghgobhmaa.Rd
open Go.RowKit
open L (tkA own_block own_below info_of wpList_append_run)
set_option linter.unusedVariables false
theorem zero3 (w : World) : (zeroValue 3).run Try.prog w = .ok (.int .i64 0) w := by kernel_rfl
abbrev kl (x : List UInt8) : Lit := .string x
/-- Block b is a map that has of each of the names the place of the first one alike. -/
def MapAt (W : World) (b : Nat) (N : List (List UInt8)) : Prop := ∃ (n : Nat) (D : DataW Unit), W.ownsMap Try.prog 9 (plainElem Try.prog 3) b n D ∧ n ≤ N.length ∧ N.length ≤ 1000000000 ∧ ∀ (x : List UInt8) (z : DataW Unit), D.atKey (.string x) z = match N.idxOf? x with | some k => .lit (.int .i64 (k : Int)) | none => z
theorem MapAt.made (W : World) : MapAt (W.alloc (.map #[] 0)) W.heap.size [] :=
  ⟨0, .map [], World.ownsMap_made W Try.prog _ _, Nat.le_refl _, by simp, fun x z => rfl⟩
theorem MapAt.lt {W : World} {b : Nat} {N : List (List UInt8)} (h : MapAt W b N) : b < W.heap.size := by
  obtain ⟨n, D, h1, _⟩ := h
  exact h1.lt
theorem MapAt.keep {W W' : World} {b : Nat} {N : List (List UInt8)} (h : MapAt W b N) (hb : W'.heap[b]? = W.heap[b]?) : MapAt W' b N := by
  obtain ⟨n, D, ⟨es, clock, e1, e2⟩, h2⟩ := h
  exact ⟨n, D, ⟨es, clock, hb.trans e1, e2⟩, h2⟩
theorem keyed9 : Maps.Keyed Try.prog 9 := Maps.string_keyed Try.underlying9
theorem bytes_list (x : List UInt8) : (⟨x.toArray⟩ : ByteArray).data.toList = x := by simp
theorem key_of (x : List UInt8) (hx : x.length ≤ 1000000) : keyOf Try.prog 9 (.string ⟨x.toArray⟩) = some (.string x) := by
  have := WideMaps.keyOf_string_mk (P := Try.prog) Try.underlying9 (s := ⟨x.toArray⟩) (by show x.toArray.size ≤ _; unfold maxLen; simp; omega)
  rw [bytes_list] at this
  exact this
theorem wf64 (k : Nat) (h : k ≤ 1000000000) : (Lit.int .i64 (k : Int)).wf = true := by
  have e1 : IntKind.i64.min = -9223372036854775808 := by decide
  have e2 : IntKind.i64.max = 9223372036854775807 := by decide
  simp only [Lit.wf, e1, e2, Bool.and_eq_true, decide_eq_true_eq]; omega
/-- What 'v, ok := m[x]' tells. -/
theorem MapAt.look {W : World} {b : Nat} {N : List (List UInt8)} (h : MapAt W b N) (x : List UInt8) (hx : x.length ≤ 1000000) :
    (Instr.lookup 69 (.map (some b)) (.string ⟨x.toArray⟩) true).run Try.prog W = .ok (.tuple #[.int .i64 (((N.idxOf? x).getD 0 : Nat) : Int), .bool (N.idxOf? x).isSome]) W := by
  obtain ⟨n, D, h1, h2, h3, h4⟩ := h
  obtain ⟨v, ps, hr, hv⟩ := h1.look_ok keyed9 Try.underlying69 (zero3 W) (plainElem_int Try.underlying3 (by decide)) (key_of x hx)
  obtain ⟨c, rfl, hc, _⟩ := plainElem_int_inv Try.underlying3 hv
  simp only [Prod.mk.injEq] at hc
  rw [hr]
  have h5 := h4 x
  cases hi : N.idxOf? x with
  | none =>
    rw [hi] at h5
    simp only at h5
    rw [Maps.has_false_of_atKey h5]
    have := hc.1
    rw [h5] at this
    simp only [DataW.lit.injEq, Lit.int.injEq, true_and] at this
    rw [← this]; rfl
  | some k =>
    rw [hi] at h5
    simp only at h5
    rw [Maps.has_true_of_atKey h5]
    have := hc.1
    rw [h5] at this
    simp only [DataW.lit.injEq, Lit.int.injEq, true_and] at this
    rw [← this]; rfl
theorem idxOf_snoc (N : List (List UInt8)) (x y : List UInt8) : (N ++ [x]).idxOf? y = match N.idxOf? y with | some k => some k | none => if y = x then some N.length else none := by
  induction N with
  | nil =>
    by_cases e : x = y
    · subst e; simp
    · rw [if_neg (Ne.symm e)]
      simp [List.idxOf?_cons, beq_eq_false_iff_ne.2 e]
  | cons a N ih =>
    rw [List.cons_append, List.idxOf?_cons, List.idxOf?_cons, ih]
    by_cases e : (a == y) = true
    · rw [if_pos e, if_pos e]
    · rw [if_neg e, if_neg e]
      cases N.idxOf? y with
      | some k => rfl
      | none =>
        by_cases e : y = x
        · rw [if_pos e]; simp [e]
        · rw [if_neg e]; simp [e]
theorem MapAt.dup {W : World} {b : Nat} {N : List (List UInt8)} (h : MapAt W b N) (x : List UInt8) {k : Nat} (hx : N.idxOf? x = some k) (hl : N.length + 1 ≤ 1000000000) : MapAt W b (N ++ [x]) := by
  obtain ⟨n, D, h1, h2, h3, h4⟩ := h
  refine ⟨n, D, h1, by simp; omega, by simp; omega, fun y z => ?_⟩
  rw [h4 y z, idxOf_snoc]
  cases hy : N.idxOf? y with
  | some j => rfl
  | none =>
    by_cases e : y = x
    · rw [e] at hy; rw [hy] at hx; cases hx
    · rw [if_neg e]
/-- 'm[x] = (the names' number)', of a name that it has not. -/
theorem MapAt.store {W : World} {b : Nat} {N : List (List UInt8)} (h : MapAt W b N) (x : List UInt8) (hx : x.length ≤ 1000000) (hn : N.idxOf? x = none) (hl : N.length + 1 ≤ 1000000000) :
    ∃ w', (Instr.mapUpdate 69 (.map (some b)) (.string ⟨x.toArray⟩) (.int .i64 (N.length : Int))).run Try.prog W = .ok () w' ∧ MapAt w' b (N ++ [x]) ∧ W.mapTurned w' b := by
  obtain ⟨n, D, h1, h2, h3, h4⟩ := h
  obtain ⟨w', hr, ho, ht⟩ := h1.store keyed9 Try.underlying69 (by unfold maxLen; omega) (key_of x hx) (plainElem_int Try.underlying3 (wf64 N.length (by omega)))
  refine ⟨w', hr, ⟨n + 1, _, ho, by simp; omega, by simp; omega, fun y z => ?_⟩, ht⟩
  rw [idxOf_snoc]
  by_cases e : y = x
  · subst e
    rw [hn, Maps.atKey_put_same h1.isMap (keyed9.key (key_of y hx))]
    simp
  · rw [Maps.atKey_put_other (by simpa using e), h4 y z]
    cases N.idxOf? y with
    | some j => rfl
    | none => rw [if_neg e]
end Go.Proofs.Ytkaacmghgobhmaa.Rd
end
section
namespace Go.Proofs.Ytkaacmghgobhmaa.Rd
open Go.RowKit
open L (tkA own_block own_below info_of wpList_append_run)
set_option linter.unusedVariables false
/-- A scope's three cells. -/
abbrev spA (p : Sc.Sp) (m : Nat) : Array Value := #[.int .i64 p.around, .map (some m), .int .i64 (p.names.length : Int)]
def spCells : List Sc.Sp → List Nat → List Value
  | p :: S, m :: mb => (spA p m).toList ++ spCells S mb
  | _, _ => []
theorem spCells_len : ∀ (S : List Sc.Sp) (mb : List Nat), mb.length = S.length → (spCells S mb).length = S.length * 3
  | [], [], _ => rfl
  | p :: S, m :: mb, h => by
    have ih := spCells_len S mb (by simpa using h)
    show ((spA p m).toList ++ spCells S mb).length = _
    rw [List.length_append, ih]; simp; omega
  | [], _ :: _, h => by simp at h
  | _ :: _, [], h => by simp at h
theorem spCells_snoc : ∀ (S : List Sc.Sp) (mb : List Nat) (p : Sc.Sp) (m : Nat), mb.length = S.length → spCells S mb ++ (spA p m).toList = spCells (S ++ [p]) (mb ++ [m])
  | [], [], p, m, _ => by simp [spCells]
  | q :: S, k :: mb, p, m, h => by
    have ih := spCells_snoc S mb p m (by simpa using h)
    show ((spA q k).toList ++ spCells S mb) ++ _ = (spA q k).toList ++ spCells (S ++ [p]) (mb ++ [m])
    rw [← ih, List.append_assoc]
  | [], _ :: _, _, _, h => by simp at h
  | _ :: _, [], _, _, h => by simp at h
theorem spCells_ati : ∀ (S : List Sc.Sp) (mb : List Nat) (j : Nat) (h : j < S.length) (h' : j < mb.length) (i : Nat), i < 3 → (spCells S mb)[j * 3 + i]? = (spA S[j] mb[j])[i]?
  | p :: S, m :: mb, 0, h, h', i, hi => by
    rw [show spCells (p :: S) (m :: mb) = (spA p m).toList ++ spCells S mb from rfl, List.getElem?_append_left (by simp; omega)]
    simp
  | p :: S, m :: mb, j + 1, h, h', i, hi => by
    have ih := spCells_ati S mb j (by simpa using h) (by simpa using h') i hi
    rw [show spCells (p :: S) (m :: mb) = (spA p m).toList ++ spCells S mb from rfl, List.getElem?_append_right (by simp; omega)]
    rw [show (j + 1) * 3 + i - (spA p m).toList.length = j * 3 + i by simp; omega]
    simpa using ih
  | [], _, _, h, _, _, _ => by simp at h
  | _ :: _, [], _, _, h', _, _ => by simp at h'
/-- A row of scopes, each with its map. -/
structure SRow (base : Nat) (W : World) (sv : Value) (S : List Sc.Sp) (mb : List Nat) : Prop where
  len : mb.length = S.length
  own : W.ownsRow base 71 3 sv S.length (spCells S mb)
  map : ∀ j (h : j < S.length) (h' : j < mb.length), MapAt W mb[j] S[j].names
  nd : mb.Nodup
  low : ∀ m ∈ mb, base ≤ m ∧ sv.ownBlock ≠ some m
theorem SRow.lt {base : Nat} {W : World} {sv : Value} {S : List Sc.Sp} {mb : List Nat} (h : SRow base W sv S mb) {m : Nat} (hm : m ∈ mb) : m < W.heap.size := by
  obtain ⟨j, hj, rfl⟩ := List.getElem_of_mem hm
  exact (h.map j (by have := h.len; omega) hj).lt
/-- What leaves the row's and the maps' blocks leaves the row. -/
theorem SRow.keep {base : Nat} {W W' : World} {sv : Value} {S : List Sc.Sp} {mb : List Nat} (h : SRow base W sv S mb) (hb : ∀ k, (sv.ownBlock = some k ∨ k ∈ mb) → W'.heap[k]? = W.heap[k]?) : SRow base W' sv S mb :=
  ⟨h.len, own_keep h.own (fun k hk => hb k (.inl hk)), fun j hj hj' => (h.map j hj hj').keep (hb _ (.inr (List.getElem_mem _))), h.nd, h.low⟩
theorem SRow.below {base : Nat} {W W' : World} {sv : Value} {S : List Sc.Sp} {mb : List Nat} (h : SRow base W sv S mb) (hb : Below W.heap.size W W') : SRow base W' sv S mb :=
  h.keep fun k hk => by
    rcases hk with hk | hk
    · exact hb.block k (own_block h.own k hk).2
    · exact hb.block k (h.lt hk)
/-- A scope as it lies. -/
theorem SRow.at_ {base : Nat} {W : World} {sv : Value} {S : List Sc.Sp} {mb : List Nat} (h : SRow base W sv S mb) (j : Nat) (hj : j < S.length) : ∃ g cap m, sv = .slice (some ⟨g, 0, none⟩) S.length cap ∧ S.length ≤ cap ∧ base ≤ g ∧ g < W.heap.size ∧ (∀ hj', mb[j]'hj' = m) ∧ m ∈ mb ∧ MapAt W m S[j].names ∧ m ≠ g ∧
    W.cell? ⟨g, j * 3, none⟩ = some (.int .i64 S[j].around) ∧ W.cell? ⟨g, j * 3 + 1, none⟩ = some (.map (some m)) ∧ W.cell? ⟨g, j * 3 + 2, none⟩ = some (.int .i64 (S[j].names.length : Int)) ∧ ∀ i, W.frozen? ⟨g, i, none⟩ = false := by
  have hj' : j < mb.length := by have := h.len; omega
  rcases h.own.2 with ⟨_, h0⟩ | ⟨g, cap, cur, hv, hb, hg, hcap, hcs, hm, ht⟩
  · omega
  · have hlt := (own_block h.own g (by rw [hv]; rfl)).2
    have hc : ∀ i, i < 3 → W.cell? ⟨g, j * 3 + i, none⟩ = (spA S[j] mb[j])[i]? := fun i hi => by
      rw [← spCells_ati S mb j hj hj' i hi]
      have ho := h.own
      rw [hv] at ho
      exact ho.cellAt (j * 3 + i) (by omega)
    refine ⟨g, cap, mb[j], hv, by omega, hb, hlt, fun _ => rfl, List.getElem_mem _, h.map j hj hj', fun e => (h.low _ (List.getElem_mem hj')).2 (by rw [hv, e]; rfl), hc 0 (by omega), hc 1 (by omega), hc 2 (by omega), fun i => by simp [World.frozen?, hg]⟩
/-- Where a name is, as it is told. -/
def foundV (r : Option (Nat × Nat)) : Value := .tuple #[.int .i64 (((r.map (·.1)).getD 0 : Nat) : Int), .int .i64 (((r.map (·.2)).getD 0 : Nat) : Int), .bool r.isSome]
set_option maxRecDepth 100000 in
set_option maxHeartbeats 1000000 in
theorem find_core {base : Nat} {w : World} {sv : Value} {S : List Sc.Sp} {mb : List Nat} (h : SRow base w sv S mb) (hS : S.length ≤ 10000000) (hup : ∀ k (h : k < S.length), -1 ≤ (S[k]).around ∧ (S[k]).around < k) (x : List UInt8) (hx : x.length ≤ 1000000) (num : Int) (h0 : -1 ≤ num) (h1 : num < S.length) (R : Option (Nat × Nat)) (hR : Sc.find S x (S.length + 1) num 0 = R) :
    Calls Try.prog 44 #[sv, .int .i64 num, .string ⟨x.toArray⟩] w fun e w' => e = .returned (foundV R) ∧ w' = w := by
  have HR : Hid (SRow base w sv S mb) := h
  have HU : Hid (∀ k (h : k < S.length), -1 ≤ (S[k]).around ∧ (S[k]).around < k) := hup
  have HN : Hid (-1 ≤ num ∧ num < S.length) := ⟨h0, h1⟩
  have HRR : Hid (Sc.find S x (S.length + 1) num 0 = R) := hR
  clear h hup h0 h1 hR
  go_enter Try.func44, Try.ntmps44
  go_wp2_with fail
  go_loopw [1, 6] (fun a b W => ∃ (f d : Nat) (z : Int), a = .int .i64 z ∧ b = .int .i64 (d : Int) ∧ -1 ≤ z ∧ z < S.length ∧ z + 2 ≤ f ∧ d + f ≤ S.length + 1 ∧ Hid (Sc.find S x f z d = R) ∧ W = w) (fun a _ _ => (L.intOf a + 1).toNat)
  case atStart => exact ⟨S.length + 1, 0, num, rfl, rfl, HN.out.1, HN.out.2, by have := HN.out.2; omega, by omega, HRR, rfl⟩
  case round =>
    obtain ⟨f, d, z, rfl, rfl, hz0, hz1, hzf, hdf, HF, rfl⟩ := hrel
    clear HRR HN
    by_cases hz : z = -1
    · subst hz
      have hf := HF.out
      obtain ⟨f, rfl⟩ : ∃ f', f = f' + 1 := ⟨f - 1, by omega⟩
      unfold Sc.find at hf
      rw [if_pos rfl] at hf
      subst hf
      go_wp2_with fail
      go_ret3
      exact ⟨rfl, rfl⟩
    · obtain ⟨k, rfl⟩ : ∃ k : Nat, z = (k : Int) := ⟨z.toNat, by omega⟩
      have hk : k < S.length := by omega
      have hk0 : (0 : Int) ≤ k := by omega
      have hu := HU.out k hk
      obtain ⟨g, cap, m, rfl, hcap, _, hg, _, _, hm, _, c0, c1, c2, _⟩ := HR.out.at_ k hk
      have hl := hm.look x hx
      have hf := HF.out
      obtain ⟨f, rfl⟩ : ∃ f', f = f' + 1 := ⟨f - 1, by omega⟩
      unfold Sc.find at hf
      rw [if_neg hz, Int.toNat_natCast, List.getElem?_eq_getElem hk] at hf
      simp only at hf
      clear hm HF HR HU c2
      generalize S[k].names.idxOf? x = I at *
      generalize S[k].around = ar at *
      cases I with
      | some j =>
        simp only at hf
        subst hf
        simp only [Option.getD_some, Option.isSome_some] at hl
        go_wp2_with fail
        go_ret3
        exact ⟨rfl, rfl⟩
      | none =>
        simp only at hf
        have HF2 : Hid (_ = R) := hf
        clear hf
        simp only [Option.getD_none, Option.isSome_none] at hl
        go_wp2_with fail
        go_roundw
        case rel => exact ⟨f, d + 1, ar, rfl, by go_num, by omega, by omega, by omega, by omega, HF2, by first | rfl | trivial⟩
        case measure => simp [L.intOf] <;> omega
theorem find_any {base : Nat} {w : World} {sv : Value} {S : List Sc.Sp} {mb : List Nat} (h : SRow base w sv S mb) (hS : S.length ≤ 10000000) (hup : ∀ k (h : k < S.length), -1 ≤ (S[k]).around ∧ (S[k]).around < k) (x : List UInt8) (hx : x.length ≤ 1000000) (num : Int) (h0 : -1 ≤ num) (h1 : num < S.length) :
    Calls Try.prog 44 #[sv, .int .i64 num, .string ⟨x.toArray⟩] w fun e w' => e = .returned (foundV (Sc.find S x (S.length + 1) num 0)) ∧ w' = w :=
  find_core h hS hup x hx num h0 h1 _ rfl
end Go.Proofs.Ytkaacmghgobhmaa.Rd
end
