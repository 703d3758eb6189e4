/- Texts: QP RpB RpW. -/
import Derived.Test.YtpjmapoiinjakaaGreatDoorQN
import Derived.Test.YtpjmapoiinjakaaGreatDoorBn17
import Derived.Test.YtpjmapoiinjakaaGreatDoorBn06
section
namespace Go.Proofs.YtpjmapoiinjakaaGreatDoor.Rd
open Go.RowKit
open L (tkA own_block own_below intOf info_of size_list wpList_append_run plc rtoken_any)
set_option linter.unusedVariables false
section
variable {src : ByteArray} {F : Nat → Prop} {base B dep : Nat} {s s' : Rp.Rt} {nv : Value} {w : World}
set_option maxRecDepth 100000 in
set_option maxHeartbeats 2000000 in
theorem p_full (hd : dep = 40) (hb : s.bad = false) (h : RS src F base B dep s nv w) : Calls Tryz.prog 119 #[.pointer (some ⟨B, 0, none⟩)] w (Tells src F base B dep nv w (Rp.spoil s) (.int .i64 0)) := by
  have HI : Hid (_) := c_inFull h hb hd
  clear h hb
  go_enter Tryz.func119, Tryz.ntmps119
  go_wp2_with fail
  refine Calls.mono HI.out ?_
  rintro e w1 ⟨rfl, hr1, hc1⟩
  go_wp2_with fail
  go_ret
  exact ⟨rfl, nv, hr1, hc1⟩
end
/-- Every level is what it is to be. -/
theorem lvC (src : ByteArray) (base B : Nat) : ∀ (d dep : Nat), d + dep = 40 → ∀ F, LvC src F base B dep (Rp.rl d)
  | 0, dep, hd, F => by
    have h40 : dep = 40 := by omega
    refine ⟨fun E h => ?_, fun E h => ?_, fun hb E h => ?_, fun E h => ?_⟩
    all_goals
      have e := E.eq
      obtain ⟨rfl, rfl⟩ := Prod.mk.inj (show (0, Rp.spoil _) = (_, _) from e)
    · exact e_full h40 h
    · exact u_full h40 h
    · exact p_full h40 hb h
    · exact s_full h40 h
  | d + 1, dep, hd, F => by
    have h40 : dep < 40 := by omega
    have hL := lvC src base B d (dep + 1) (by omega)
    have hP := lvP d
    exact ⟨fun E h => e_part h40 (fun E h => c_assign hL hP E h) E h, fun E h => u_part h40 hL hP E h, fun hb E h => p_part h40 hL hP hb E h, fun E h => s_part h40 (fun E h => c_one hL hP E h) E h⟩
/-- A tree as it lies, told. -/
def Told (W : World) (v : Value) (ns : List Ps.Nd) : Prop := ∃ (vs : List (Ps.Nd × Value × Value)) (ad : Option Addr) (cap : Nat), vs.map (·.1) = ns ∧ v = .slice ad ns.length cap ∧ ns.length ≤ cap ∧ (ns = [] ∨ ∃ g, ad = some ⟨g, 0, none⟩ ∧ g < W.heap.size ∧ ∀ j (h : j < vs.length) i, i < 6 → W.cell? ⟨g, j * 6 + i, none⟩ = (ndA vs[j].1 vs[j].2.1 vs[j].2.2)[i]?) ∧ ∀ x ∈ vs, NamesIn W x.2.1 x.1.names ∧ KidsIn W x.2.2 x.1.kids
theorem Told.nil (W : World) : Told W (.slice none 0 0) [] := ⟨[], none, 0, rfl, rfl, Nat.le_refl _, .inl rfl, by simp⟩
theorem NamesIn.below {W W' : World} {v : Value} {l : List (List UInt8)} (h : NamesIn W v l) (hb : Below W.heap.size W W') : NamesIn W' v l := h.same hb.size (fun k _ hk => hb.block k hk)
theorem KidsIn.below {W W' : World} {v : Value} {l : List Nat} (h : KidsIn W v l) (hb : Below W.heap.size W W') : KidsIn W' v l := h.same hb.size (fun k _ hk => hb.block k hk)
theorem Told.below {W W' : World} {v : Value} {ns : List Ps.Nd} (h : Told W v ns) (hb : Below W.heap.size W W') : Told W' v ns := by
  obtain ⟨vs, ad, cap, h1, h2, h3, h4, h5⟩ := h
  refine ⟨vs, ad, cap, h1, h2, h3, ?_, fun x hx => ⟨(h5 x hx).1.below hb, (h5 x hx).2.below hb⟩⟩
  rcases h4 with h4 | ⟨g, e, hg, hc⟩
  · exact .inl h4
  · exact .inr ⟨g, e, Nat.lt_of_lt_of_le hg hb.size, fun j hj i hi => (hb.cell (p := ⟨g, j * 6 + i, none⟩) hg).trans (hc j hj i hi)⟩
theorem ndCells_ati : ∀ (vs : List (Ps.Nd × Value × Value)) (j : Nat) (h : j < vs.length) (i : Nat), i < 6 → (ndCells vs)[j * 6 + i]? = (ndA vs[j].1 vs[j].2.1 vs[j].2.2)[i]?
  | [], j, h, i, hi => by simp at h
  | x :: vs, 0, h, i, hi => by
    rw [show ndCells (x :: vs) = (ndA x.1 x.2.1 x.2.2).toList ++ ndCells vs from rfl, List.getElem?_append_left (by simp; omega)]
    simp
  | x :: vs, j + 1, h, i, hi => by
    have ih := ndCells_ati vs j (by simpa using h) i hi
    rw [show ndCells (x :: vs) = (ndA x.1 x.2.1 x.2.2).toList ++ ndCells vs from rfl, List.getElem?_append_right (by simp; omega)]
    rw [show (j + 1) * 6 + i - (ndA x.1 x.2.1 x.2.2).toList.length = j * 6 + i by simp; omega]
    simpa using ih
theorem RS.told {src : ByteArray} {F : Nat → Prop} {base B dep : Nat} {s : Rp.Rt} {nv : Value} {W : World} (h : RS src F base B dep s nv W) : Told W nv s.nodes := by
  obtain ⟨vs, e, ho, hn⟩ := h.nd
  have hl : vs.length = s.nodes.length := by rw [← e, List.length_map]
  have nl := own_block ho
  have hn' : ∀ x ∈ vs, NamesIn W x.2.1 x.1.names ∧ KidsIn W x.2.2 x.1.kids := fun x hx => ⟨(hn x hx).names, (hn x hx).kids⟩
  rcases ho.2 with ⟨hv, h0⟩ | ⟨g, cap, cur, hv, hb, hg, hcap, hcs, hm, ht⟩
  · have hs : s.nodes = [] := List.length_eq_zero_iff.1 (by omega)
    exact ⟨vs, none, 0, e, by rw [hv, hs]; rfl, by omega, .inl hs, hn'⟩
  · refine ⟨vs, some ⟨g, 0, none⟩, cap, e, by rw [hv, hl], by omega, .inr ⟨g, rfl, (nl g (by rw [hv]; rfl)).2, fun j hj i hi => ?_⟩, hn'⟩
    rw [← ndCells_ati vs j hj i hi]
    subst hv
    exact ho.cellAt (j * 6 + i) (by omega)

/-- The state behind the last statement. -/
def fin (l : List UInt8) : List Nat × Rp.Rt := Rp.list (Rp.rl 40) true ⟨Lx.all l, [], false⟩
theorem rparse_fin (l : List UInt8) : Rp.rparse l = if 4096 < l.length then ([], 0, false) else if (fin l).2.bad then ([], (Rp.nx (fin l).2).a, false) else ((Rp.put { k := 33, kids := (fin l).1 } (fin l).2).2.nodes, 0, true) := rfl
set_option maxRecDepth 100000 in
set_option maxHeartbeats 2000000 in
theorem rParse_any (l : List UInt8) (w : World) (hsm : l.length ≤ 4096 → (fin l).2.nodes.length ≤ 999999999) :
    Calls Tryz.prog 10 #[.string ⟨l.toArray⟩] w fun e w' => ∃ v, e = .returned (.agg #[v, .int .i64 ((Rp.rparse l).2.1 : Int), .bool (Rp.rparse l).2.2]) ∧ Told w' v (Rp.rparse l).1 ∧ Below w.heap.size w w' := by
  have hsz : (⟨l.toArray⟩ : ByteArray).size = l.length := rfl
  rw [rparse_fin]
  by_cases hlen : 4096 < l.length
  · have hli : (4096 : Int) < (⟨l.toArray⟩ : ByteArray).size := by rw [hsz]; omega
    rw [if_pos hlen]
    clear hsm
    go_enter Tryz.func10, Tryz.ntmps10
    go_wp2_with fail
    refine bodyPost_ret (v := .agg #[.slice none 0 0, .int .i64 0, .bool false]) (by simp [results, Tryz.results10, go_sem, *]) rfl ⟨_, rfl, Told.nil _, ?_⟩
    repeat (first | with_reducible exact Below.refl _ _ | (with_reducible refine Below.setCell ?_ (by first | exact Nat.le_refl _ | omega | simp) _) | (with_reducible refine Below.alloc ?_ (by first | exact Nat.le_refl _ | omega | simp | (simp; omega)) _))
  have hli : ¬ (4096 : Int) < (⟨l.toArray⟩ : ByteArray).size := by rw [hsz]; omega
  rw [if_neg hlen]
  have hn := hsm (by omega)
  rcases eF : fin l with ⟨K, s1⟩
  rw [eF] at hn
  simp only at hn ⊢
  obtain ⟨ns, at0, ok, hres⟩ : ∃ ns at0 ok, (if s1.bad = true then (([] : List Ps.Nd), (Rp.nx s1).a, false) else ((Rp.put { k := 33, kids := K } s1).2.nodes, 0, true)) = (ns, at0, ok) := ⟨_, _, _, rfl⟩
  rw [hres]
  have HRES : Hid (_ = (ns, at0, ok)) := hres
  have E1 : Ru (Rp.list (Rp.rl 40) true) ⟨Lx.all l, [], false⟩ K s1 := ⟨eF, Nat.le_trans hn (by omega)⟩
  have HNN : Hid (s1.nodes.length ≤ 999999999) := hn
  have HTK : Hid (∀ W, Calls Tryz.prog 17 #[.string ⟨l.toArray⟩, .int .i64 0] W fun e w' => ∃ (T : Lx.Tk) (E' : Nat), e = .returned (.agg #[.int .i64 (T.k : Int), .string ⟨T.t.toArray⟩, .int .i64 (T.n : Int), .int .i64 (T.a : Int), .bool T.ln, .int .i64 (E' : Int)]) ∧ Hid (T = Lx.tok l 0) ∧ Hid (T.k ≠ 6 → E' = T.e) ∧ Hid (Below W.heap.size W w')) := fun W => by
    have hh := rtoken_any ⟨l.toArray⟩ 0 W (by rw [hsz]; omega)
    rw [show plc 0 (⟨l.toArray⟩ : ByteArray).size = 0 by unfold plc; omega] at hh
    refine hh.mono ?_
    rintro e w' ⟨⟨E', rfl, hE'⟩, hb'⟩
    exact ⟨_, E', rfl, rfl, hE', hb'⟩
  have HLEN : Hid (l.length ≤ 4096) := (show _ ≤ _ by omega)
  clear hsm hn eF hlen hres
  go_enter Tryz.func10, Tryz.ntmps10
  go_wp2_with fail
  refine Calls.mono (HTK.out _) ?_
  rintro e w1 ⟨T, E', rfl, hT, hE, hb1⟩
  have hw1 := hb1.out.size
  rw [alloc_size'] at hw1
  have hR0 : RS ⟨l.toArray⟩ (fun k => k = w.heap.size) w1.heap.size w1.heap.size 0 ⟨Lx.all l, [], false⟩ (.slice none 0 0) (w1.alloc (.cells #[.string ⟨l.toArray⟩, .int .i64 (T.k : Int), .string ⟨T.t.toArray⟩, .int .i64 (T.n : Int), .int .i64 (T.a : Int), .bool T.ln, .int .i64 (E' : Int), .slice none 0 0, .int .i64 0, .bool false] 53)) := by
    have hnx : Rp.nx ⟨Lx.all l, [], false⟩ = T := by
      rw [hT.out]
      unfold Rp.nx Lx.all
      rw [Lx.all_step l 0 (Nat.zero_le _)]
      split <;> rfl
    refine ⟨Nat.le_refl _, by rw [hsz]; exact HLEN.out, by omega, ⟨E', 0, ⟨0, Nat.zero_le _, rfl, by rw [hnx]; exact hE.out⟩, by omega, fun _ => rfl, ?_⟩, ⟨[], rfl, ⟨rfl, .inl ⟨rfl, rfl⟩⟩, by simp⟩, by simp [Value.ownBlock], fun k hk => ?_⟩
    · rw [hnx]; exact Array.getElem?_push_size
    · subst hk
      rw [alloc_size']
      exact ⟨by omega, by omega, by simp [Value.ownBlock]⟩
  have HR0 : Hid (_) := hR0
  have HB1 : Hid (Below w.heap.size w w1) := ((Below.refl w.heap.size w).alloc (Nat.le_refl _) _).trans (hb1.out.mono (by rw [alloc_size']; omega))
  have HW1 : Hid (w.heap.size + 1 ≤ w1.heap.size) := hw1
  have HRC : Hid (w1.heap[w.heap.size]? = _) := (hb1.out.block w.heap.size (by rw [alloc_size']; omega)).trans Array.getElem?_push_size
  clear hR0 hb1 hT hE hw1 HTK
  go_wp2_with fail
  refine Calls.mono (c_list (lvC _ _ _ 40 0 rfl) (lvP 40) E1 HR0.out) ?_
  rintro e w2 ⟨ak, ck, rfl, nv2, hr2, hc2, hk2⟩
  have hRC2 := (hc2.block w.heap.size (by rw [alloc_size']; have := HW1.out; omega) (by have := HW1.out; omega) (by simp [Value.ownBlock])).trans ((Below.heap_alloc w1 _ w.heap.size (by have := HW1.out; omega)).trans HRC.out)
  have FB : ∀ {nv9 : Value} {w9 : World}, Chg w1.heap.size (.slice none 0 0) nv9 (w1.alloc (.cells #[.string ⟨l.toArray⟩, .int .i64 (T.k : Int), .string ⟨T.t.toArray⟩, .int .i64 (T.n : Int), .int .i64 (T.a : Int), .bool T.ln, .int .i64 (E' : Int), .slice none 0 0, .int .i64 0, .bool false] 53)) w9 → Below w.heap.size w w9 := fun hc =>
    (HB1.out.alloc (by have := HW1.out; omega) _).trans (hc.toBelow (by have := HW1.out; omega) (fun k hk => by simp [Value.ownBlock] at hk) (by rw [alloc_size']; have := HW1.out; omega))
  have HFB : Hid (∀ {nv9 : Value} {w9 : World}, Chg w1.heap.size (.slice none 0 0) nv9 (w1.alloc (.cells #[.string ⟨l.toArray⟩, .int .i64 (T.k : Int), .string ⟨T.t.toArray⟩, .int .i64 (T.n : Int), .int .i64 (T.a : Int), .bool T.ln, .int .i64 (E' : Int), .slice none 0 0, .int .i64 0, .bool false] 53)) w9 → Below w.heap.size w w9) := FB
  clear FB HB1 HRC HR0
  obtain ⟨c0, c1, c2, c3, c4, c5, c7, c9, cf, hlt⟩ := hr2.cl
  have q0 : w2.cell? ⟨w.heap.size, 0, none⟩ = some (.slice none 0 0) := by simp [World.cell?, hRC2]
  have q1 : w2.cell? ⟨w.heap.size, 1, none⟩ = some (.int .i64 0) := by simp [World.cell?, hRC2]
  have q2 : w2.cell? ⟨w.heap.size, 2, none⟩ = some (.bool false) := by simp [World.cell?, hRC2]
  have qf : ∀ i, w2.frozen? ⟨w.heap.size, i, none⟩ = false := fun i => by simp [World.frozen?, hRC2]
  have ql : w.heap.size < w2.heap.size := Nat.lt_of_not_le fun hg => by rw [Array.getElem?_eq_none hg] at hRC2; cases hRC2
  have HR2 : Hid (_) := hr2
  have HC2 : Hid (_) := hc2
  have HK2 : Hid (_) := hk2
  have hres := HRES.out
  clear hr2 hc2 hk2 hRC2
  cases hb : s1.bad
  · rw [hb] at hres c9
    simp only [Bool.false_eq_true, if_false, Prod.mk.injEq] at hres
    obtain ⟨rfl, rfl, rfl⟩ := hres
    have R3 : Ru (Rp.put { k := 33, kids := K }) s1 s1.nodes.length (Rp.put { k := 33, kids := K } s1).2 := ⟨rfl, by have := HNN.out; show (s1.nodes ++ [_]).length ≤ _; simp; omega⟩
    obtain ⟨s3, hs3⟩ : ∃ s3, (Rp.put { k := 33, kids := K } s1).2 = s3 := ⟨_, rfl⟩
    rw [hs3] at R3
    have HS3 : Hid (_ = s3) := hs3
    clear hb HRES hs3
    go_wp2_with fail
    refine Calls.mono (c_putV (k := 33) (n := 0) (t := []) (N := []) (K := K) (a := 0) R3 HR2.out (NV.nil _ _ _ _) HK2.out) ?_
    rintro e w3 ⟨rfl, nv3, hr3, hc3⟩
    have hk := HR2.out.keepF hc3 (g := w.heap.size) rfl
    have u0 := (cell_of_block hk 0).trans q0
    have u1 := (cell_of_block hk 1).trans q1
    have u2 := (cell_of_block hk 2).trans q2
    have uf : ∀ i, w3.frozen? ⟨w.heap.size, i, none⟩ = false := fun i => by have := qf i; unfold World.frozen? at this ⊢; rw [hk]; exact this
    have ul := Nat.lt_of_lt_of_le ql hc3.size
    clear c0 c1 c2 c3 c4 c5 c7 c9 cf hlt q0 q1 q2 qf ql hk
    obtain ⟨c0, c1, c2, c3, c4, c5, c7, c9, cf, hlt⟩ := hr3.cl
    have HT : Hid (∀ x y z, Told (((w3.setCell ⟨w.heap.size, 0, none⟩ x).setCell ⟨w.heap.size, 1, none⟩ y).setCell ⟨w.heap.size, 2, none⟩ z) nv3 s3.nodes) := fun x y z => (((hr3.foreign (X := w.heap.size) rfl 0 x).foreign (X := w.heap.size) rfl 1 y).foreign (X := w.heap.size) rfl 2 z).told
    have HBW : Hid (Below w.heap.size w w3) := HFB.out (HC2.out.trans hc3)
    have HN3 : Hid (∃ ad cap, nv3 = .slice ad s3.nodes.length cap) := by
      obtain ⟨vs, ad, cap, _, h, _⟩ := hr3.told
      exact ⟨ad, cap, h⟩
    clear hr3 hc3 HR2 HC2 HK2 HFB
    obtain ⟨ad, cap, rfl⟩ := Hid.out HN3
    generalize s3.nodes.length = nl at *
    go_wp2_with fail
    refine bodyPost_ret (v := .agg #[.slice ad nl cap, .int .i64 0, .bool true]) (by simp [results, Tryz.results10, go_sem, *]) rfl ⟨_, rfl, ?_, ?_⟩
    · rw [HS3.out]; exact HT.out _ _ _
    · exact ((HBW.out.setCell (p := ⟨w.heap.size, 0, none⟩) (Nat.le_refl _) _).setCell (p := ⟨w.heap.size, 1, none⟩) (Nat.le_refl _) _).setCell (p := ⟨w.heap.size, 2, none⟩) (Nat.le_refl _) _
  · rw [hb] at hres c9
    simp only [if_true, Prod.mk.injEq] at hres
    obtain ⟨rfl, rfl, rfl⟩ := hres
    have HBW : Hid (Below w.heap.size w w2) := HFB.out HC2.out
    clear hb HRES HR2 HC2 HK2 HFB
    go_wp2_with fail
    refine bodyPost_ret (v := .agg #[.slice none 0 0, .int .i64 ((Rp.nx s1).a : Int), .bool false]) (by simp [results, Tryz.results10, go_sem, *]) rfl ⟨_, rfl, Told.nil _, ?_⟩
    exact ((HBW.out.setCell (p := ⟨w.heap.size, 0, none⟩) (Nat.le_refl _) _).setCell (p := ⟨w.heap.size, 1, none⟩) (Nat.le_refl _) _).setCell (p := ⟨w.heap.size, 2, none⟩) (Nat.le_refl _) _
end Go.Proofs.YtpjmapoiinjakaaGreatDoor.Rd
end
section
namespace Go.Proofs.YtpjmapoiinjakaaGreatDoor.Rp
open Lx
set_option linter.unusedVariables false
/-- What is bad is bad, and its tokens stay. -/
def Ba (r t : Rt) : Prop := r.bad = true → t.bad = true ∧ t.toks = r.toks
theorem Ba.refl (r : Rt) : Ba r r := fun h => ⟨h, rfl⟩
theorem Ba.trans {a b c : Rt} (h : Ba a b) (k : Ba b c) : Ba a c := fun e => ⟨(k (h e).1).1, ((k (h e).1).2).trans (h e).2⟩
def Sb {α : Type} (g : Q α) : Prop := ∀ r, Ba r (g r).2
theorem Ba.then {α : Type} {g : Q α} {a b : Rt} (h : Ba a b) (k : Sb g) : Ba a (g b).2 := h.trans (k b)
theorem ba_spoil (r : Rt) : Ba r (spoil r) := fun h => ⟨rfl, rfl⟩
theorem Ba.spoil {a b : Rt} (h : Ba a b) : Ba a (spoil b) := h.trans (ba_spoil b)
theorem sb_has (m : List UInt8) : Sb (has m) := fun r h => by
  unfold has; rw [h]; exact ⟨h, rfl⟩
theorem has_bad {m : List UInt8} {r : Rt} (h : r.bad = true) : has m r = (false, r) := by unfold has; rw [h]; rfl
theorem ba_must (m : List UInt8) (r : Rt) : Ba r (must m r) := fun h => by
  unfold must; rw [has_bad h]; exact ⟨rfl, rfl⟩
theorem Ba.must {a b : Rt} (h : Ba a b) (m : List UInt8) : Ba a (must m b) := h.trans (ba_must m b)
theorem sb_rname : Sb rname := fun r h => by
  unfold rname; rw [h]; exact ⟨rfl, rfl⟩
theorem sb_put (n : Ps.Nd) : Sb (put n) := fun r h => ⟨h, rfl⟩
theorem ba_ende (r : Rt) : Ba r (ende r) := fun h => by
  unfold ende; rw [has_bad h]; simp only; rw [if_pos h]; exact ⟨h, rfl⟩
theorem Ba.ende {a b : Rt} (h : Ba a b) : Ba a (ende b) := h.trans (ba_ende b)
structure SbL (L : Lr) : Prop where
  e : Sb L.e
  u : Sb L.u
  p : Sb L.p
  s : Sb L.s
theorem sb_listLoop (L : Lr) (last : Bool) : ∀ (f : Nat) (l : List Nat), Sb (listLoop L last f l)
  | 0, l, r => Ba.refl r
  | f + 1, l, r => fun h => by
    unfold listLoop; rw [if_pos h]; exact ⟨h, rfl⟩
theorem sb_list (L : Lr) (last : Bool) : Sb (list L last) := fun r => sb_listLoop L last _ _ r
theorem sb_body (L : Lr) : Sb (body L) := fun r => by
  have h1 := (ba_must [123] r).then (sb_list L false)
  unfold body
  simp only []
  exact h1.must [125]
theorem sb_block (L : Lr) : Sb (block L) := fun r => by
  have h1 := sb_body L r
  unfold block
  simp only []
  exact h1.then (sb_put _)
theorem sb_inner (L : Lr) : Sb (inner L) := fun r h => by
  unfold inner
  simp only []
  split
  · rw [if_pos (show (spoil r).bad = true from rfl)]; exact ⟨rfl, rfl⟩
  · exact ⟨h, rfl⟩
theorem sb_namesLoop : ∀ (f : Nat) (l : List (List UInt8)), Sb (namesLoop f l)
  | 0, l, r => Ba.refl r
  | f + 1, l, r => fun h => by
    unfold namesLoop; rw [has_bad h]; exact ⟨h, rfl⟩
theorem sb_func (L : Lr) (named : Bool) : Sb (func L named) := fun r => by
  unfold func
  simp only []
  have h1 := (ba_must [102, 117, 110, 99, 116, 105, 111, 110] r).then (sb_has [42])
  generalize has [42] (must [102, 117, 110, 99, 116, 105, 111, 110] r) = g at *
  have h2 : Ba r (if (named || decide ((nx g.2).k = 3)) = true then rname g.2 else ([], g.2)).2 := by
    split
    · exact h1.then sb_rname
    · exact h1
  generalize (if (named || decide ((nx g.2).k = 3)) = true then rname g.2 else ([], g.2)) = nm at *
  have h3 := h2.must [40]
  generalize must [40] nm.2 = r3 at *
  have h4 : Ba r (if isS [41] r3 = true then ([], r3) else namesLoop (rname r3).2.toks.length [(rname r3).1] (rname r3).2).2 := by
    split
    · exact h3
    · exact (h3.then sb_rname).then (sb_namesLoop _ _)
  generalize (if isS [41] r3 = true then ([], r3) else namesLoop (rname r3).2.toks.length [(rname r3).1] (rname r3).2) = ps at *
  have h5 := (h4.must [41]).then (sb_body L)
  exact h5.then (sb_put _)
theorem sb_commasLoop (L : Lr) : ∀ (f : Nat) (l : List Nat), Sb (commasLoop L f l)
  | 0, l, r => Ba.refl r
  | f + 1, l, r => fun h => by
    unfold commasLoop; rw [has_bad h]; exact ⟨h, rfl⟩
theorem sb_commas {L : Lr} (h : SbL L) (m : List UInt8) : Sb (commas L m) := fun r => by
  intro hb
  unfold commas
  rw [has_bad hb]
  simp only
  have h1 := (h.e r).then (sb_commasLoop L (L.e r).2.toks.length [(L.e r).1])
  exact (h1.must m) hb
theorem sb_binLoop (row : List (List UInt8)) (sub : Q Nat) : ∀ (f k : Nat), Sb (binLoop row sub f k)
  | 0, k, r => Ba.refl r
  | f + 1, k, r => fun h => by
    unfold binLoop; rw [h]; exact ⟨h, rfl⟩
theorem bin_cons (L : Lr) (row : List (List UInt8)) (R : List (List (List UInt8))) (r : Rt) : bin L (row :: R) r = binLoop row (bin L R) (bin L R r).2.toks.length (bin L R r).1 (bin L R r).2 := rfl
theorem sb_bin {L : Lr} (h : SbL L) (R : List (List (List UInt8))) : Sb (bin L R) := by
  induction R with
  | nil => exact h.u
  | cons row R ih =>
    intro r
    rw [bin_cons]
    exact (ih r).then (sb_binLoop row (bin L R) (bin L R r).2.toks.length (bin L R r).1)
theorem sb_cond {L : Lr} (h : SbL L) : Sb (cond L) := fun r hb => by
  have h1 := sb_bin h rrows r hb
  unfold cond
  simp only []
  rw [if_pos h1.1]
  exact h1
theorem sb_assign {L : Lr} (h : SbL L) : Sb (assign L) := fun r hb => by
  have h1 := sb_cond h r hb
  unfold assign
  simp only []
  rw [has_bad hb]
  simp only
  generalize cond L r = k at *
  rw [if_pos h1.1]
  exact h1
theorem sb_postLoop (L : Lr) : ∀ (f k : Nat), Sb (postLoop L f k)
  | 0, k, r => Ba.refl r
  | f + 1, k, r => fun h => by
    unfold postLoop; rw [if_pos h]; exact ⟨h, rfl⟩
theorem sb_deeper (g : Q Nat) : Sb (deeper g) := fun r h => by
  unfold deeper; rw [if_pos h]; exact ⟨h, rfl⟩
theorem sb_rl : ∀ d, SbL (rl d)
  | 0 => ⟨fun r => ba_spoil r, fun r => ba_spoil r, fun r => ba_spoil r, fun r => ba_spoil r⟩
  | d + 1 => ⟨sb_deeper _, sb_deeper _, sb_deeper _, sb_deeper _⟩
end Go.Proofs.YtpjmapoiinjakaaGreatDoor.Rp
end
section
namespace Go.Proofs.YtpjmapoiinjakaaGreatDoor.Ps.H2
open Lx
set_option linter.unusedVariables false
/-- There is a token, and the last one is an end or bad. -/
structure Good (s : St) : Prop where
  one : 1 ≤ s.toks.length
  last : ∀ T, s.toks.getLast? = some T → T.k = 0 ∨ T.k = 6
  kw : ∀ t ∈ s.toks, (t.k = 4 → t.t ∈ Lx.words) ∧ (t.k = 5 → t.t ∈ Lx.signs)
theorem kw_bad : ∀ t ∈ [bad], (t.k = 4 → t.t ∈ Lx.words) ∧ (t.k = 5 → t.t ∈ Lx.signs) := fun t h => by
  have : t = bad := by simpa using h
  subst this
  exact ⟨fun e => (by cases e), fun e => (by cases e)⟩
/-- No more tokens than there were; what failed has failed. -/
structure Le (s t : St) : Prop where
  good : Good t
  le : t.toks.length ≤ s.toks.length
  fl : s.failed = true → t.failed = true
theorem Le.refl {s : St} (g : Good s) : Le s s := ⟨g, Nat.le_refl _, id⟩
theorem Le.trans {a b c : St} (h : Le a b) (k : Le b c) : Le a c := ⟨k.good, Nat.le_trans k.le h.le, fun e => k.fl (h.fl e)⟩
def Sh {α : Type} (f : M α) : Prop := ∀ s, Good s → Le s (f s).2
theorem Le.then {α : Type} {f : M α} {a b : St} (h : Le a b) (k : Sh f) : Le a (f b).2 := h.trans (k b h.good)
/-- It failed, or there are fewer tokens. -/
def Fw (s t : St) : Prop := t.failed = true ∨ t.toks.length < s.toks.length
theorem Fw.le {a b c : St} (h : Fw a b) (k : Le b c) : Fw a c := by
  rcases h with h | h
  · exact .inl (k.fl h)
  · exact .inr (Nat.lt_of_le_of_lt k.le h)
theorem Le.fw {a b c : St} (h : Le a b) (k : Fw b c) : Fw a c := by
  rcases k with k | k
  · exact .inl k
  · exact .inr (Nat.lt_of_lt_of_le k h.le)
def Go {α : Type} (f : M α) : Prop := ∀ s, Good s → Fw s (f s).2
theorem sh_skip : Sh skip := fun s g => by
  unfold skip
  simp only []
  split
  · rename_i h
    obtain ⟨T, L, e⟩ : ∃ T L, s.toks = T :: L := by
      cases hs : s.toks with
      | nil => rw [hs] at h; simp at h
      | cons T L => exact ⟨T, L, rfl⟩
    refine ⟨⟨by simp; omega, fun U hU => g.last U ?_, fun t ht => g.kw t (List.mem_of_mem_tail ht)⟩, by simp, id⟩
    rw [e] at hU ⊢
    rw [List.getLast?_cons, show L.getLast? = some U from hU]; rfl
  · exact Le.refl g
/-- Where a kind is not an end's or bad, more stands behind. -/
theorem more_of {s : St} (g : Good s) (h : ¬ ((nxt s).k = 0 ∨ (nxt s).k = 6)) : 1 < s.toks.length := by
  rcases Nat.lt_or_ge 1 s.toks.length with h1 | h1
  · exact h1
  · have h2 := g.one
    obtain ⟨T, e⟩ : ∃ T, s.toks = [T] := by
      cases hs : s.toks with
      | nil => rw [hs] at h2; simp at h2
      | cons T L =>
        cases L with
        | nil => exact ⟨T, rfl⟩
        | cons a b => rw [hs] at h1; simp at h1
    exact absurd (g.last T (by rw [e]; rfl)) (by
      have : nxt s = T := by unfold nxt; rw [e]; rfl
      rw [this] at h; exact h)
theorem fw_skip {s : St} (g : Good s) (h : ¬ ((nxt s).k = 0 ∨ (nxt s).k = 6)) : Fw s (skip s).2 := by
  have h1 := more_of g h
  refine .inr ?_
  unfold skip
  simp only []
  rw [if_pos h1]
  simp; omega
theorem mark_kind {s : St} (h : mark s ≠ []) : ¬ ((nxt s).k = 0 ∨ (nxt s).k = 6) := by
  unfold mark at h
  split at h
  · omega
  · exact absurd rfl h
theorem fw_mark {s : St} (g : Good s) (h : mark s ≠ []) : Fw s (skip s).2 := fw_skip g (mark_kind h)
theorem sh_take (m : List UInt8) : Sh (take m) := fun s g => by
  unfold take
  split
  · exact sh_skip s g
  · exact Le.refl g
theorem fw_take {s : St} (g : Good s) {m : List UInt8} (hm : m ≠ []) (h : (take m s).1 = true) : Fw s (take m s).2 := by
  unfold take at h ⊢
  split
  · rename_i e
    exact fw_mark g (by rw [e]; exact hm)
  · rename_i e
    rw [if_neg e] at h; cases h
theorem sh_add (n : Nd) : Sh (add n) := fun s g => ⟨⟨g.one, g.last, g.kw⟩, Nat.le_refl _, id⟩
theorem bad_good (s : St) : Good { s with toks := [bad] } := ⟨Nat.le_refl _, fun T h => by
  have : T = bad := by simpa using h.symm
  subst this; exact .inr rfl, kw_bad⟩
theorem sh_fail : Sh fail := fun s g => by
  unfold fail
  split
  · exact sh_add _ s g
  · refine (sh_add _ { s with failed := true, at_ := (nxt s).a, toks := [bad] } ⟨Nat.le_refl _, fun T h => by
      have : T = bad := by simpa using h.symm
      subst this; exact .inr rfl, kw_bad⟩).good |> fun h => ⟨h, g.one, fun _ => rfl⟩
theorem failed_fail (s : St) : (fail s).2.failed = true := by
  unfold fail
  split
  · rename_i h; exact h
  · rfl
theorem go_fail : Go fail := fun s _ => .inl (failed_fail s)
theorem sh_want (m : List UInt8) : Sh (want m) := fun s g => by
  unfold want
  have h := sh_take m s g
  generalize take m s = P at *
  obtain ⟨b, s'⟩ := P
  simp only at h
  cases b
  · exact h.then sh_fail
  · exact h
theorem fw_want {s : St} (g : Good s) {m : List UInt8} (hm : m ≠ []) : Fw s (want m s).2 := by
  unfold want
  have h := @fw_take s g m hm
  generalize take m s = P at *
  obtain ⟨b, s'⟩ := P
  simp only at h
  cases b
  · exact .inl (failed_fail _)
  · exact h rfl
theorem sh_textOf (k : List Nat) : Sh (textOf k) := fun s g => by
  unfold textOf
  split
  · exact sh_skip s g
  · exact sh_fail s g
theorem sh_name : Sh name := sh_textOf _
theorem sh_over (n : Nd) (k : List Nat) : Sh (over n k) := fun s g => sh_add _ s g
theorem sh_itemsLoop {α : Type} {item : M α} (hi : Sh item) : ∀ (f : Nat) (l : List α), Sh (itemsLoop item f l)
  | 0, l, s, g => Le.refl g
  | f + 1, l, s, g => by
    unfold itemsLoop
    have h := sh_take [44] s g
    generalize take [44] s = P at *
    obtain ⟨b, s'⟩ := P
    simp only at h
    cases b
    · exact h
    · exact (h.then hi).then (sh_itemsLoop hi f _)
theorem sh_items {α : Type} {item : M α} (hi : Sh item) (m : List UInt8) : Sh (items m item) := fun s g => by
  unfold items
  have h := sh_take m s g
  generalize take m s = P at *
  obtain ⟨b, s'⟩ := P
  simp only at h
  cases b
  · exact ((h.then hi).then (sh_itemsLoop hi _ _)).then (sh_want m)
  · exact h
theorem sh_chainLoop {lv : List UInt8 → Option Nd} {sub : M Nat} (hs : Sh sub) : ∀ (f left : Nat), Sh (chainLoop lv sub f left)
  | 0, l, s, g => Le.refl g
  | f + 1, l, s, g => by
    unfold chainLoop
    split
    · exact Le.refl g
    · exact (((sh_skip s g).then hs).then (sh_over _ _)).then (sh_chainLoop hs f _)
theorem sh_chain {part : M Nat} (hp : Sh part) : ∀ (row : List (List UInt8 → Option Nd)), Sh (chain part row)
  | [], s, g => hp s g
  | lv :: row, s, g => (sh_chain hp row s g).then (sh_chainLoop (sh_chain hp row) _ _)
theorem go_chain {part : M Nat} (hp : Sh part) (hg : Go part) : ∀ (row : List (List UInt8 → Option Nd)), Go (chain part row)
  | [], s, g => hg s g
  | lv :: row, s, g => (go_chain hp hg row s g).le (sh_chainLoop (sh_chain hp row) _ _ _ (sh_chain hp row s g).good)
structure ShL (L : Lv) : Prop where
  e : Sh L.e
  u : Sh L.u
  p : Sh L.p
  s : Sh L.s
  ge : Go L.e
  gu : Go L.u
  gp : Go L.p
  gs : Go L.s
theorem sh_choice {L : Lv} (h : ShL L) : Sh (choice L) := fun s g => by
  unfold choice
  have h1 := sh_chain (sh_chain h.u binaries) logics s g
  have h2 := h1.then (sh_take [63])
  simp only []
  generalize take [63] (chain (chain L.u binaries) logics s).2 = P at *
  obtain ⟨b, s'⟩ := P
  simp only at h2
  cases b
  · exact h2
  · exact (((h2.then h.e).then (sh_want [58])).then h.e).then (sh_over _ _)
theorem go_choice {L : Lv} (h : ShL L) : Go (choice L) := fun s g => by
  have h0 := go_chain (sh_chain h.u binaries) (go_chain h.u h.gu binaries) logics s g
  unfold choice
  have h1 := sh_chain (sh_chain h.u binaries) logics s g
  have h2 := sh_take [63] _ h1.good
  simp only []
  generalize take [63] (chain (chain L.u binaries) logics s).2 = P at *
  obtain ⟨b, s'⟩ := P
  simp only at h2
  cases b
  · exact h0.le h2
  · exact h0.le ((((h2.then h.e).then (sh_want [58])).then h.e).then (sh_over _ _))
theorem sh_leaf (n : Nd) : Sh (leaf n) := fun s g => (sh_skip s g).then (sh_add _)
theorem fw_leaf (n : Nd) {s : St} (g : Good s) (h : ¬ ((nxt s).k = 0 ∨ (nxt s).k = 6)) : Fw s (leaf n s).2 := (fw_skip g h).le (sh_add _ _ (sh_skip s g).good)
theorem sh_inParens {L : Lv} (h : ShL L) : Sh (inParens L) := fun s g => ((sh_want [40] s g).then h.e).then (sh_want [41])
theorem go_inParens {L : Lv} (h : ShL L) : Go (inParens L) := fun s g => (fw_want g (by decide)).le (((Le.refl (sh_want [40] s g).good).then h.e).then (sh_want [41]))
theorem sh_statementsLoop {L : Lv} (h : ShL L) : ∀ (f : Nat) (l : List Nat), Sh (statementsLoop L f l)
  | 0, l, s, g => Le.refl g
  | f + 1, l, s, g => by
    unfold statementsLoop
    split
    · exact (h.s s g).then (sh_statementsLoop h f _)
    · exact Le.refl g
theorem sh_statements {L : Lv} (h : ShL L) : Sh (statements L) := fun s g => sh_statementsLoop h _ _ s g
theorem sh_body {L : Lv} (h : ShL L) : Sh (body L) := fun s g => ((sh_want [123] s g).then (sh_statements h)).then (sh_want [125])
theorem go_body {L : Lv} (h : ShL L) : Go (body L) := fun s g => (fw_want g (by decide)).le (((Le.refl (sh_want [123] s g).good).then (sh_statements h)).then (sh_want [125]))
theorem sh_endS : Sh endS := fun s g => by
  unfold endS
  have h := sh_take [59] s g
  generalize take [59] s = P at *
  obtain ⟨b, s'⟩ := P
  simp only at h
  cases b
  · simp only []
    split
    · exact h.then sh_fail
    · exact h
  · exact h
theorem sh_block {L : Lv} (h : ShL L) : Sh (block L) := fun s g => (sh_body h s g).then (sh_add _)
theorem go_block {L : Lv} (h : ShL L) : Go (block L) := fun s g => (go_body h s g).le (sh_add _ _ (sh_body h s g).good)
theorem sh_inner {L : Lv} (h : ShL L) : Sh (inner L) := fun s g => by
  unfold inner; split
  · exact sh_fail s g
  · exact h.s s g
theorem sh_jump (k : Nat) : Sh (jump k) := fun s g => ((sh_skip s g).then sh_endS).then (sh_add _)
theorem sh_exprS {L : Lv} (h : ShL L) : Sh (exprS L) := fun s g => ((h.e s g).then sh_endS).then (sh_over _ _)
theorem go_exprS {L : Lv} (h : ShL L) : Go (exprS L) := fun s g => (h.ge s g).le (((Le.refl (h.e s g).good).then sh_endS).then (sh_over _ _))
theorem sh_whileS {L : Lv} (h : ShL L) : Sh (whileS L) := fun s g => (((sh_skip s g).then (sh_inParens h)).then (sh_inner h)).then (sh_add _)
theorem sh_returnS {L : Lv} (h : ShL L) : Sh (returnS L) := fun s g => by
  unfold returnS
  have h0 := sh_skip s g
  simp only []
  split
  · exact ((h0.then h.e).then sh_endS).then (sh_add _)
  · exact (h0.then sh_endS).then (sh_add _)
theorem sh_throwS {L : Lv} (h : ShL L) : Sh (throwS L) := fun s g => by
  unfold throwS
  have h0 := sh_skip s g
  simp only []
  split
  · exact h0.then sh_fail
  · exact ((h0.then h.e).then sh_endS).then (sh_add _)
theorem le_tryS {L : Lv} (h : ShL L) {s t : St} (r : Le t (skip s).2) : Le t (tryS L s).2 := by
  unfold tryS
  simp only []
  have r1 := r.then (sh_block h)
  have r2 := r1.then (sh_want [99, 97, 116, 99, 104])
  have r3 := r2.then (sh_want [40])
  have r4 := r3.then sh_name
  have r5 := r4.then (sh_want [41])
  have r6 := r5.then (sh_block h)
  exact r6.then (sh_add _)
theorem sh_tryS {L : Lv} (h : ShL L) : Sh (tryS L) := fun s g => le_tryS h (sh_skip s g)
theorem le_binding {L : Lv} (h : ShL L) (k : Nat) {s t : St} (r : Le t (skip s).2) : Le t (binding L k s).2 := by
  unfold binding
  simp only []
  have r1 := r.then sh_name
  have r2 := r1.then (sh_want [61])
  have r3 := r2.then h.e
  have r4 := r3.then sh_endS
  exact r4.then (sh_add _)
theorem sh_binding {L : Lv} (h : ShL L) (k : Nat) : Sh (binding L k) := fun s g => le_binding h k (sh_skip s g)
theorem sh_func {L : Lv} (h : ShL L) (b : Bool) : Sh (func L b) := fun s g => by
  unfold func
  simp only []
  have h0 := (sh_skip s g).then (sh_take [42])
  have h1 : Le s (if (b || decide ((nxt (take [42] (skip s).2).2).k = 3)) = true then name (take [42] (skip s).2).2 else ([], (take [42] (skip s).2).2)).2 := by
    split
    · exact h0.then sh_name
    · exact h0
  exact (((h1.then (sh_want [40])).then (sh_items sh_name [41])).then (sh_body h)).then (sh_add _)
theorem sh_definition {L : Lv} (h : ShL L) : Sh (definition L) := fun s g => by
  have r := sh_func h true s g
  unfold definition
  simp only []
  generalize func L true s = P at *
  exact r.then (sh_add _)
theorem sh_ifS {L : Lv} (h : ShL L) : Sh (ifS L) := fun s g => by
  unfold ifS
  simp only []
  have h2 := ((((sh_skip s g).then (sh_inParens h)).then (sh_inner h))).then (sh_take [101, 108, 115, 101])
  generalize take [101, 108, 115, 101] (inner L (inParens L (skip s).2).2).2 = P at *
  obtain ⟨b, s'⟩ := P
  simp only at h2
  cases b
  · exact h2.then (sh_add _)
  · exact (h2.then (sh_inner h)).then (sh_add _)
theorem sh_pair {L : Lv} (h : ShL L) : Sh (pair L) := fun s g => ((sh_textOf [3, 4, 2] s g).then (sh_want [58])).then h.e
theorem ite_Le {c : Prop} [Decidable c] {s : St} {a b : Nat × St} (ha : Le s a.2) (hb : Le s b.2) : Le s (if c then a else b).2 := by split <;> assumption
theorem sh_arr {L : Lv} (h : ShL L) (s : St) (g : Good s) : Le s (add { k := 9, a := (skip s).1.a, kids := (items [93] L.e (skip s).2).1 } (items [93] L.e (skip s).2).2).2 := ((sh_skip s g).then (sh_items h.e [93])).then (sh_add _)
theorem sh_obj {L : Lv} (h : ShL L) (s : St) (g : Good s) : Le s (add { k := 8, a := (skip s).1.a, names := (items [125] (pair L) (skip s).2).1.map (·.1), kids := (items [125] (pair L) (skip s).2).1.map (·.2) } (items [125] (pair L) (skip s).2).2).2 := ((sh_skip s g).then (sh_items (sh_pair h) [125])).then (sh_add _)
theorem sh_alone {L : Lv} (h : ShL L) : Sh (alone L) := fun s g => by
  unfold alone
  exact (ite_Le (sh_leaf _ s g) (ite_Le (sh_leaf _ s g) (ite_Le (sh_leaf _ s g) (ite_Le (sh_leaf _ s g) (ite_Le (sh_leaf _ s g) (ite_Le (sh_leaf _ s g) (ite_Le (sh_leaf _ s g) (ite_Le (sh_leaf _ s g) (ite_Le (sh_inParens h s g) (ite_Le (sh_arr h s g) (ite_Le (sh_obj h s g) (ite_Le (sh_func h false s g) (sh_fail s g)))))))))))))
theorem ite_Fw {c : Prop} [Decidable c] {s : St} {a b : Nat × St} (ha : c → Fw s a.2) (hb : ¬ c → Fw s b.2) : Fw s (if c then a else b).2 := by
  split
  · exact ha ‹_›
  · exact hb ‹_›
theorem fw_arr {L : Lv} (h : ShL L) {s : St} (g : Good s) (hm : mark s ≠ []) : Fw s (add { k := 9, a := (skip s).1.a, kids := (items [93] L.e (skip s).2).1 } (items [93] L.e (skip s).2).2).2 := (fw_mark g hm).le (((Le.refl (sh_skip s g).good).then (sh_items h.e [93])).then (sh_add _))
theorem fw_obj {L : Lv} (h : ShL L) {s : St} (g : Good s) (hm : mark s ≠ []) : Fw s (add { k := 8, a := (skip s).1.a, names := (items [125] (pair L) (skip s).2).1.map (·.1), kids := (items [125] (pair L) (skip s).2).1.map (·.2) } (items [125] (pair L) (skip s).2).2).2 := (fw_mark g hm).le (((Le.refl (sh_skip s g).good).then (sh_items (sh_pair h) [125])).then (sh_add _))
theorem fw_func {L : Lv} (h : ShL L) (b : Bool) {s : St} (g : Good s) (hm : mark s ≠ []) : Fw s (func L b s).2 := by
  unfold func
  simp only []
  have h0 := (Le.refl (sh_skip s g).good).then (sh_take [42])
  have h1 : Le (skip s).2 (if (b || decide ((nxt (take [42] (skip s).2).2).k = 3)) = true then name (take [42] (skip s).2).2 else ([], (take [42] (skip s).2).2)).2 := by
    split
    · exact h0.then sh_name
    · exact h0
  exact (fw_mark g hm).le ((((h1.then (sh_want [40])).then (sh_items sh_name [41])).then (sh_body h)).then (sh_add _))
theorem mne {s : St} {c : UInt8} {l : List UInt8} (h : mark s = c :: l) : mark s ≠ [] := by rw [h]; exact List.cons_ne_nil _ _
theorem go_alone {L : Lv} (h : ShL L) : Go (alone L) := fun s g => by
  unfold alone
  exact ite_Fw (fun c => fw_leaf _ g (by omega)) fun _ => ite_Fw (fun c => fw_leaf _ g (by omega)) fun _ => ite_Fw (fun c => fw_leaf _ g (by omega)) fun _ => ite_Fw (fun c => fw_leaf _ g (mark_kind (mne c))) fun _ => ite_Fw (fun c => fw_leaf _ g (mark_kind (mne c))) fun _ => ite_Fw (fun c => fw_leaf _ g (mark_kind (mne c))) fun _ => ite_Fw (fun c => fw_leaf _ g (mark_kind (mne c))) fun _ => ite_Fw (fun c => fw_leaf _ g (mark_kind (mne c))) fun _ => ite_Fw (fun _ => go_inParens h s g) fun _ => ite_Fw (fun c => fw_arr h g (mne c)) fun _ => ite_Fw (fun c => fw_obj h g (mne c)) fun _ => ite_Fw (fun c => fw_func h false g (mne c)) fun _ => go_fail s g
theorem sh_primaryLoop {L : Lv} (h : ShL L) : ∀ (f p : Nat), Sh (primaryLoop L f p)
  | 0, p, s, g => Le.refl g
  | f + 1, p, s, g => by
    unfold primaryLoop
    have h1 := sh_take [46] s g
    generalize take [46] s = P at *
    obtain ⟨b, s1⟩ := P
    simp only at h1
    cases b
    · simp only []
      have h2 := h1.then (sh_take [91])
      generalize take [91] s1 = P at *
      obtain ⟨b, s2⟩ := P
      simp only at h2
      cases b
      · simp only []
        have h3 := h2.then (sh_take [40])
        generalize take [40] s2 = P at *
        obtain ⟨b, s3⟩ := P
        simp only at h3
        cases b
        · exact h3
        · exact ((h3.then (sh_items h.e [41])).then (sh_over _ _)).then (sh_primaryLoop h f _)
      · exact (((h2.then h.e).then (sh_want [93])).then (sh_over _ _)).then (sh_primaryLoop h f _)
    · exact ((h1.then (sh_textOf [3, 4])).then (sh_over _ _)).then (sh_primaryLoop h f _)
theorem sh_primary {L : Lv} (h : ShL L) : Sh (primary L) := fun s g => (sh_alone h s g).then (sh_primaryLoop h _ _)
theorem go_primary {L : Lv} (h : ShL L) : Go (primary L) := fun s g => (go_alone h s g).le (sh_primaryLoop h _ _ _ (sh_alone h s g).good)
theorem sh_anyUnary {L : Lv} (h : ShL L) : Sh (anyUnary L) := fun s g => by
  unfold anyUnary
  split
  · exact ((sh_skip s g).then h.u).then (sh_add _)
  · exact h.p s g
theorem go_anyUnary {L : Lv} (h : ShL L) : Go (anyUnary L) := fun s g => by
  unfold anyUnary
  split
  · rename_i e
    refine (fw_mark g ?_).le (((Le.refl (sh_skip s g).good).then h.u).then (sh_add _))
    rcases e with e | e | e <;> exact mne e
  · exact h.gp s g
theorem sh_anyExpr {L : Lv} (h : ShL L) : Sh (anyExpr L) := fun s g => by
  unfold anyExpr
  have h1 := sh_take [121, 105, 101, 108, 100] s g
  generalize take [121, 105, 101, 108, 100] s = P at *
  obtain ⟨b, s1⟩ := P
  simp only at h1
  cases b
  · simp only []
    have h2 := h1.then (sh_choice h)
    split
    · have h3 := h2.then (sh_take [61])
      generalize take [61] (choice L s1).2 = P at *
      obtain ⟨b, s2⟩ := P
      simp only at h3
      cases b
      · exact h3
      · exact (h3.then h.e).then (sh_over _ _)
    · exact h2
  · exact (h1.then h.e).then (sh_add _)
theorem go_anyExpr {L : Lv} (h : ShL L) : Go (anyExpr L) := fun s g => by
  unfold anyExpr
  have h1 := sh_take [121, 105, 101, 108, 100] s g
  have hf := @fw_take s g [121, 105, 101, 108, 100] (by decide)
  generalize take [121, 105, 101, 108, 100] s = P at *
  obtain ⟨b, s1⟩ := P
  simp only at h1 hf
  cases b
  · simp only []
    have h2 := h1.fw (go_choice h s1 h1.good)
    have h2' := sh_choice h s1 h1.good
    split
    · have h3 := sh_take [61] _ h2'.good
      generalize take [61] (choice L s1).2 = P at *
      obtain ⟨b, s2⟩ := P
      simp only at h3
      cases b
      · exact h2.le h3
      · exact h2.le ((h3.then h.e).then (sh_over _ _))
    · exact h2
  · exact (hf rfl).le (((Le.refl h1.good).then h.e).then (sh_add _))
theorem sh_anyStatement {L : Lv} (h : ShL L) : Sh (anyStatement L) := fun s g => by
  unfold anyStatement
  exact (ite_Le (sh_block h s g) (ite_Le (sh_ifS h s g) (ite_Le (sh_whileS h s g) (ite_Le (sh_jump 28 s g) (ite_Le (sh_jump 29 s g) (ite_Le (sh_returnS h s g) (ite_Le (sh_throwS h s g) (ite_Le (sh_tryS h s g) (ite_Le (sh_binding h 21 s g) (ite_Le (sh_binding h 22 s g) (ite_Le (sh_definition h s g) (sh_exprS h s g))))))))))))
/-- What goes behind the next token first has gone on. -/
theorem fw_of {s : St} (g : Good s) (hm : mark s ≠ []) {t : St} (h : Le (skip s).2 t) : Fw s t := (fw_mark g hm).le h
theorem fw_ifS {L : Lv} (h : ShL L) {s : St} (g : Good s) (hm : mark s ≠ []) : Fw s (ifS L s).2 := fw_of g hm (by
  unfold ifS
  simp only []
  have h2 := (((Le.refl (sh_skip s g).good).then (sh_inParens h)).then (sh_inner h)).then (sh_take [101, 108, 115, 101])
  generalize take [101, 108, 115, 101] (inner L (inParens L (skip s).2).2).2 = P at *
  obtain ⟨b, s'⟩ := P
  simp only at h2
  cases b
  · exact h2.then (sh_add _)
  · exact (h2.then (sh_inner h)).then (sh_add _))
theorem fw_returnS {L : Lv} (h : ShL L) {s : St} (g : Good s) (hm : mark s ≠ []) : Fw s (returnS L s).2 := fw_of g hm (by
  unfold returnS
  have h0 := Le.refl (sh_skip s g).good
  simp only []
  split
  · exact ((h0.then h.e).then sh_endS).then (sh_add _)
  · exact (h0.then sh_endS).then (sh_add _))
theorem fw_throwS {L : Lv} (h : ShL L) {s : St} (g : Good s) (hm : mark s ≠ []) : Fw s (throwS L s).2 := fw_of g hm (by
  unfold throwS
  have h0 := Le.refl (sh_skip s g).good
  simp only []
  split
  · exact h0.then sh_fail
  · exact ((h0.then h.e).then sh_endS).then (sh_add _))
theorem go_anyStatement {L : Lv} (h : ShL L) : Go (anyStatement L) := fun s g => by
  have r := Le.refl (sh_skip s g).good
  unfold anyStatement
  exact ite_Fw (fun _ => go_block h s g) fun _ => ite_Fw (fun c => fw_ifS h g (mne c)) fun _ =>
    ite_Fw (fun c => fw_of g (mne c) (((r.then (sh_inParens h)).then (sh_inner h)).then (sh_add _))) fun _ =>
    ite_Fw (fun c => fw_of g (mne c) ((r.then sh_endS).then (sh_add _))) fun _ =>
    ite_Fw (fun c => fw_of g (mne c) ((r.then sh_endS).then (sh_add _))) fun _ =>
    ite_Fw (fun c => fw_returnS h g (mne c)) fun _ => ite_Fw (fun c => fw_throwS h g (mne c)) fun _ =>
    ite_Fw (fun c => fw_of g (mne c) (le_tryS h r)) fun _ =>
    ite_Fw (fun c => fw_of g (mne c) (le_binding h _ r)) fun _ =>
    ite_Fw (fun c => fw_of g (mne c) (le_binding h _ r)) fun _ =>
    ite_Fw (fun c => (fw_func h true g (mne c)).le (sh_add _ _ (sh_func h true s g).good)) fun _ => go_exprS h s g
theorem sh_lv : ∀ d, ShL (lv d)
  | 0 => ⟨sh_fail, sh_fail, sh_fail, sh_fail, go_fail, go_fail, go_fail, go_fail⟩
  | d + 1 => ⟨sh_anyExpr (sh_lv d), sh_anyUnary (sh_lv d), sh_primary (sh_lv d), sh_anyStatement (sh_lv d), go_anyExpr (sh_lv d), go_anyUnary (sh_lv d), go_primary (sh_lv d), go_anyStatement (sh_lv d)⟩
end Go.Proofs.YtpjmapoiinjakaaGreatDoor.Ps.H2
end
