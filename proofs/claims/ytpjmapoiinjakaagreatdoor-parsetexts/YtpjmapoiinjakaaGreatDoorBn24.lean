/- Texts: QK QM. -/
import Derived.Test.YtpjmapoiinjakaaGreatDoorBn23
import Derived.Deep.Upon
section
namespace Go.Proofs.YtpjmapoiinjakaaGreatDoor.Rd
open Go.RowKit
open L (tkA own_block own_below intOf info_of size_list wpList_append_run)
set_option linter.unusedVariables false
theorem set7x {w : World} {b : Nat} {x0 x1 x2 x3 x4 x5 : Value} {t : TypeId} (h : w.heap[b]? = some (.cells #[x0, x1, x2, x3, x4, x5] t (0, 0))) (y0 y1 y2 y3 y4 y5 z : Value) :
    (((((((w.setCell ⟨b, 0, none⟩ y0).setCell ⟨b, 1, none⟩ y1).setCell ⟨b, 2, none⟩ y2).setCell ⟨b, 3, none⟩ y3).setCell ⟨b, 4, none⟩ y4).setCell ⟨b, 5, none⟩ y5).setCell ⟨b, 5, none⟩ z).heap[b]? = some (.cells #[y0, y1, y2, y3, y4, z] t (0, 0)) := by
  simp [World.setCell, Array.getElem?_modify, h]
section
variable {src : ByteArray} {F : Nat → Prop} {base B dep : Nat} {s s' : Rp.Rt} {nv : Value} {w : World}
/-- Two boxes beside the reader: a token's, a node's. -/
structure TwoB (src : ByteArray) (F : Nat → Prop) (base B dep : Nat) (nv0 : Value) (w W : World) (T : Lx.Tk) (x0 x1 x2 x3 x4 x5 : Value) (s : Rp.Rt) (nv : Value) : Prop where
  rs : RS src (fun k => (F k ∨ k = w.heap.size) ∨ k = w.heap.size + 1) base B dep s nv W
  chg : Chg B nv0 nv w W
  tok : W.heap[w.heap.size]? = some (.cells #[.int .i64 (T.k : Int), .string ⟨T.t.toArray⟩, .int .i64 (T.n : Int), .int .i64 (T.a : Int), .bool T.ln] 34 (0, 0))
  box : W.heap[w.heap.size + 1]? = some (.cells #[x0, x1, x2, x3, x4, x5] 43 (0, 0))
theorem TwoB.new (h : RS src F base B dep s nv w) (T : Lx.Tk) (y0 y1 y2 y3 y4 y5 : Value) : TwoB src F base B dep nv w ((w.alloc (.cells #[.int .i64 (T.k : Int), .string ⟨T.t.toArray⟩, .int .i64 (T.n : Int), .int .i64 (T.a : Int), .bool T.ln] 34)).alloc (.cells #[y0, y1, y2, y3, y4, y5] 43)) T y0 y1 y2 y3 y4 y5 s nv := by
  have h2 := (h.more (.cells #[.int .i64 (T.k : Int), .string ⟨T.t.toArray⟩, .int .i64 (T.n : Int), .int .i64 (T.a : Int), .bool T.ln] 34)).more (.cells #[y0, y1, y2, y3, y4, y5] 43)
  rw [alloc_size'] at h2
  have hs := alloc_size' w (.cells #[.int .i64 (T.k : Int), .string ⟨T.t.toArray⟩, .int .i64 (T.n : Int), .int .i64 (T.a : Int), .bool T.ln] 34)
  exact ⟨h2, (Chg.refl B nv w).alloc _ |>.alloc _, (Below.heap_alloc _ _ _ (by rw [hs]; omega)).trans Array.getElem?_push_size, by rw [← hs]; exact Array.getElem?_push_size⟩
variable {nv0 nv' : Value} {W W' : World} {T : Lx.Tk} {x0 x1 x2 x3 x4 x5 : Value}
theorem TwoB.go (h : TwoB src F base B dep nv0 w W T x0 x1 x2 x3 x4 x5 s nv) (hr : RS src (fun k => (F k ∨ k = w.heap.size) ∨ k = w.heap.size + 1) base B dep s' nv' W') (c : Chg B nv nv' W W') : TwoB src F base B dep nv0 w W' T x0 x1 x2 x3 x4 x5 s' nv' :=
  ⟨hr, h.chg.trans c, (h.rs.keepF c (.inl (.inr rfl))).trans h.tok, (h.rs.keepF c (.inr rfl)).trans h.box⟩
theorem TwoB.below (h : TwoB src F base B dep nv0 w W T x0 x1 x2 x3 x4 x5 s nv) (hb : Below W.heap.size W W') : TwoB src F base B dep nv0 w W' T x0 x1 x2 x3 x4 x5 s nv := h.go (h.rs.below hb) (Chg.below nv hb)
theorem TwoB.facts (h : TwoB src F base B dep nv0 w W T x0 x1 x2 x3 x4 x5 s nv) : W.cell? ⟨w.heap.size, 0, none⟩ = some (.int .i64 (T.k : Int)) ∧ W.cell? ⟨w.heap.size, 1, none⟩ = some (.string ⟨T.t.toArray⟩) ∧ W.cell? ⟨w.heap.size, 2, none⟩ = some (.int .i64 (T.n : Int)) ∧ W.cell? ⟨w.heap.size, 3, none⟩ = some (.int .i64 (T.a : Int)) ∧ W.cell? ⟨w.heap.size, 4, none⟩ = some (.bool T.ln) ∧ w.heap.size < W.heap.size ∧
    W.cell? ⟨w.heap.size + 1, 0, none⟩ = some x0 ∧ W.cell? ⟨w.heap.size + 1, 1, none⟩ = some x1 ∧ W.cell? ⟨w.heap.size + 1, 2, none⟩ = some x2 ∧ W.cell? ⟨w.heap.size + 1, 3, none⟩ = some x3 ∧ W.cell? ⟨w.heap.size + 1, 4, none⟩ = some x4 ∧ W.cell? ⟨w.heap.size + 1, 5, none⟩ = some x5 ∧ W.frozen? ⟨w.heap.size + 1, 0, none⟩ = false ∧ W.frozen? ⟨w.heap.size + 1, 1, none⟩ = false ∧ W.frozen? ⟨w.heap.size + 1, 2, none⟩ = false ∧ W.frozen? ⟨w.heap.size + 1, 3, none⟩ = false ∧ W.frozen? ⟨w.heap.size + 1, 4, none⟩ = false ∧ W.frozen? ⟨w.heap.size + 1, 5, none⟩ = false ∧ w.heap.size + 1 < W.heap.size := by
  have h1 := h.tok
  have h2 := h.box
  refine ⟨?_, ?_, ?_, ?_, ?_, Nat.lt_of_not_le (fun hg => by rw [Array.getElem?_eq_none hg] at h1; cases h1), ?_, ?_, ?_, ?_, ?_, ?_, ?_, ?_, ?_, ?_, ?_, ?_, Nat.lt_of_not_le (fun hg => by rw [Array.getElem?_eq_none hg] at h2; cases h2)⟩ <;> simp [World.cell?, World.frozen?, h1, h2]
theorem TwoB.store (h : TwoB src F base B dep nv0 w W T x0 x1 x2 x3 x4 x5 s nv) {y0 y1 y2 y3 y4 y5 : Value} (i : Nat) (u : Value) (hb : (W.setCell ⟨w.heap.size + 1, i, none⟩ u).heap[w.heap.size + 1]? = some (.cells #[y0, y1, y2, y3, y4, y5] 43 (0, 0))) : TwoB src F base B dep nv0 w (W.setCell ⟨w.heap.size + 1, i, none⟩ u) T y0 y1 y2 y3 y4 y5 s nv :=
  ⟨h.rs.foreign (.inr rfl) i u, h.chg.setX (by omega) i u, (Below.heap_setCell W ⟨w.heap.size + 1, i, none⟩ u w.heap.size (by show w.heap.size ≠ w.heap.size + 1; omega)).trans h.tok, hb⟩
theorem TwoB.set0 (h : TwoB src F base B dep nv0 w W T x0 x1 x2 x3 x4 x5 s nv) (u : Value) : TwoB src F base B dep nv0 w (W.setCell ⟨w.heap.size + 1, 0, none⟩ u) T u x1 x2 x3 x4 x5 s nv := h.store 0 u (by have := h.box; simp [World.setCell, Array.getElem?_modify, this])
theorem TwoB.set1 (h : TwoB src F base B dep nv0 w W T x0 x1 x2 x3 x4 x5 s nv) (u : Value) : TwoB src F base B dep nv0 w (W.setCell ⟨w.heap.size + 1, 1, none⟩ u) T x0 u x2 x3 x4 x5 s nv := h.store 1 u (by have := h.box; simp [World.setCell, Array.getElem?_modify, this])
theorem TwoB.set2 (h : TwoB src F base B dep nv0 w W T x0 x1 x2 x3 x4 x5 s nv) (u : Value) : TwoB src F base B dep nv0 w (W.setCell ⟨w.heap.size + 1, 2, none⟩ u) T x0 x1 u x3 x4 x5 s nv := h.store 2 u (by have := h.box; simp [World.setCell, Array.getElem?_modify, this])
theorem TwoB.set3 (h : TwoB src F base B dep nv0 w W T x0 x1 x2 x3 x4 x5 s nv) (u : Value) : TwoB src F base B dep nv0 w (W.setCell ⟨w.heap.size + 1, 3, none⟩ u) T x0 x1 x2 u x4 x5 s nv := h.store 3 u (by have := h.box; simp [World.setCell, Array.getElem?_modify, this])
theorem TwoB.set4 (h : TwoB src F base B dep nv0 w W T x0 x1 x2 x3 x4 x5 s nv) (u : Value) : TwoB src F base B dep nv0 w (W.setCell ⟨w.heap.size + 1, 4, none⟩ u) T x0 x1 x2 x3 u x5 s nv := h.store 4 u (by have := h.box; simp [World.setCell, Array.getElem?_modify, this])
theorem TwoB.set5 (h : TwoB src F base B dep nv0 w W T x0 x1 x2 x3 x4 x5 s nv) (u : Value) : TwoB src F base B dep nv0 w (W.setCell ⟨w.heap.size + 1, 5, none⟩ u) T x0 x1 x2 x3 x4 u s nv := h.store 5 u (by have := h.box; simp [World.setCell, Array.getElem?_modify, this])
theorem simple_kind (t : List UInt8) : (Rp.simple t).t = [] ∧ (Rp.simple t).names = [] ∧ (Rp.simple t).kids = [] ∧ (Rp.simple t).k ≤ 7 := by
  unfold Rp.simple
  repeat' split
  all_goals exact ⟨rfl, rfl, rfl, by decide⟩
theorem simple_node (t : List UInt8) (a : Nat) : ({ Rp.simple t with a := a } : Ps.Nd) = { k := (Rp.simple t).k, n := (Rp.simple t).n, a := a } := by
  obtain ⟨h1, h2, h3, _⟩ := simple_kind t
  generalize Rp.simple t = n at *
  obtain ⟨k, n, t, ns, ks, a'⟩ := n
  simp only at h1 h2 h3
  subst h1 h2 h3
  rfl
set_option maxRecDepth 100000 in
set_option maxHeartbeats 2000000 in
theorem c_first {L : Rp.Lr} {r : Nat} (hL : ∀ F, LvC src F base B dep L) (hP : LvP L) (E : Ru (Rp.first L) s r s') (h : RS src F base B dep s nv w) :
    Calls Tryz.prog 123 #[.pointer (some ⟨B, 0, none⟩)] w (Tells src F base B dep nv w s' (.int .i64 (r : Int))) := by
  have e := E.eq
  have hsm := E.small
  have hn0 := E.back (Rp.kp_first Rp.pre_len hP.gr)
  obtain ⟨c0, c1, c2, c3, c4, c5, c7, c9, cf, hlt⟩ := h.cl
  have HTB : Hid (_) := fun y0 y1 y2 y3 y4 y5 => TwoB.new h (Rp.nx s) y0 y1 y2 y3 y4 y5
  have HMV : Hid (∀ W nv1, RS src (fun k => (F k ∨ k = w.heap.size) ∨ k = w.heap.size + 1) base B dep s nv1 W → (Rp.nx s).k ≠ 0 → (Rp.nx s).k ≠ 6 → Calls Tryz.prog 63 #[.pointer (some ⟨B, 0, none⟩)] W (Tells src (fun k => (F k ∨ k = w.heap.size) ∨ k = w.heap.size + 1) base B dep nv1 W (Rp.move s) (.tuple #[]))) := fun W nv1 hW h0 h6 => move_any hW h0 h6
  unfold Rp.first at e
  simp only at e
  by_cases k1 : (Rp.nx s).k = 1
  · rw [if_pos k1] at e
    have R1 : Ru (Rp.put { k := 1, n := (Rp.nx s).n, a := (Rp.nx s).a }) (Rp.move s) r s' := ⟨e, hsm⟩
    rw [k1] at c1
    have hcc := HTB.out (.int .i64 1) (.int .i64 ((Rp.nx s).n : Int)) (.string ⟨#[]⟩) (.slice none 0 0) (.slice none 0 0) (.int .i64 ((Rp.nx s).a : Int))
    have hmv := HMV.out _ _ hcc.rs (by omega) (by omega)
    rw [k1] at hcc hmv
    have HCC : Hid (_) := hcc
    have HMM : Hid (_) := hmv
    clear e HTB HMV hn0 hcc hmv k1 E h
    generalize Rp.nx s = T at *
    go_enter Tryz.func123, Tryz.ntmps123
    go_wp2_with fail
    refine Calls.mono HMM.out ?_
    rintro e w5 ⟨rfl, nv5, hr5, hc5⟩
    have hb5 := HCC.out.go hr5 hc5
    obtain ⟨_, _, _, _, _, _, b0, b1, b2, b3, b4, b5, _, _, _, _, _, _, bl⟩ := hb5.facts
    have HB5 : Hid (_) := hb5
    clear hr5 hc5 hb5 HMM HCC c0 c1 c2 c3 c4 c5 c7 c9 cf hlt
    go_wp2_with fail
    refine Calls.mono (c_putV (k := 1) (n := T.n) (t := []) (N := []) (K := []) (a := T.a) R1 (HB5.out.rs.less (fun k hk => .inl (.inl hk))) (NV.nil _ _ _ _) (KV.nil _ _ _ _)) ?_
    rintro e w6 ⟨rfl, nv6, hr6, hc6⟩
    go_wp2_with fail
    go_ret
    exact ⟨rfl, nv6, hr6, HB5.out.chg.trans hc6⟩
  rw [if_neg k1] at e
  by_cases k2 : (Rp.nx s).k = 2
  · rw [if_pos k2] at e
    have R1 : Ru (Rp.put { k := 2, t := (Rp.nx s).t, a := (Rp.nx s).a }) (Rp.move s) r s' := ⟨e, hsm⟩
    rw [k2] at c1
    have hcc := HTB.out (.int .i64 2) (.int .i64 0) (.string ⟨(Rp.nx s).t.toArray⟩) (.slice none 0 0) (.slice none 0 0) (.int .i64 ((Rp.nx s).a : Int))
    have hmv := HMV.out _ _ hcc.rs (by omega) (by omega)
    rw [k2] at hcc hmv
    have HCC : Hid (_) := hcc
    have HMM : Hid (_) := hmv
    clear e HTB HMV hn0 hcc hmv k1 k2 E h
    generalize Rp.nx s = T at *
    go_enter Tryz.func123, Tryz.ntmps123
    go_wp2_with fail
    refine Calls.mono HMM.out ?_
    rintro e w5 ⟨rfl, nv5, hr5, hc5⟩
    have hb5 := HCC.out.go hr5 hc5
    obtain ⟨_, _, _, _, _, _, b0, b1, b2, b3, b4, b5, _, _, _, _, _, _, bl⟩ := hb5.facts
    have HB5 : Hid (_) := hb5
    clear hr5 hc5 hb5 HMM HCC c0 c1 c2 c3 c4 c5 c7 c9 cf hlt
    go_wp2_with fail
    refine Calls.mono (c_putV (k := 2) (n := 0) (t := T.t) (N := []) (K := []) (a := T.a) R1 (HB5.out.rs.less (fun k hk => .inl (.inl hk))) (NV.nil _ _ _ _) (KV.nil _ _ _ _)) ?_
    rintro e w6 ⟨rfl, nv6, hr6, hc6⟩
    go_wp2_with fail
    go_ret
    exact ⟨rfl, nv6, hr6, HB5.out.chg.trans hc6⟩
  rw [if_neg k2] at e
  by_cases k3 : (Rp.nx s).k = 3
  · rw [if_pos k3] at e
    have R1 : Ru (Rp.put { k := 3, t := (Rp.nx s).t, a := (Rp.nx s).a }) (Rp.move s) r s' := ⟨e, hsm⟩
    rw [k3] at c1
    have hcc := HTB.out (.int .i64 3) (.int .i64 0) (.string ⟨(Rp.nx s).t.toArray⟩) (.slice none 0 0) (.slice none 0 0) (.int .i64 ((Rp.nx s).a : Int))
    have hmv := HMV.out _ _ hcc.rs (by omega) (by omega)
    rw [k3] at hcc hmv
    have HCC : Hid (_) := hcc
    have HMM : Hid (_) := hmv
    clear e HTB HMV hn0 hcc hmv k1 k2 k3 E h
    generalize Rp.nx s = T at *
    go_enter Tryz.func123, Tryz.ntmps123
    go_wp2_with fail
    refine Calls.mono HMM.out ?_
    rintro e w5 ⟨rfl, nv5, hr5, hc5⟩
    have hb5 := HCC.out.go hr5 hc5
    obtain ⟨_, _, _, _, _, _, b0, b1, b2, b3, b4, b5, _, _, _, _, _, _, bl⟩ := hb5.facts
    have HB5 : Hid (_) := hb5
    clear hr5 hc5 hb5 HMM HCC c0 c1 c2 c3 c4 c5 c7 c9 cf hlt
    go_wp2_with fail
    refine Calls.mono (c_putV (k := 3) (n := 0) (t := T.t) (N := []) (K := []) (a := T.a) R1 (HB5.out.rs.less (fun k hk => .inl (.inl hk))) (NV.nil _ _ _ _) (KV.nil _ _ _ _)) ?_
    rintro e w6 ⟨rfl, nv6, hr6, hc6⟩
    go_wp2_with fail
    go_ret
    exact ⟨rfl, nv6, hr6, HB5.out.chg.trans hc6⟩
  rw [if_neg k3] at e
  have hfl : ∀ (k n : Int) (t : ByteArray) (x y : Value) (a : Int) (W : World), (Instr.field 43 (.agg #[.int .i64 k, .int .i64 n, .string t, x, y, .int .i64 a]) 0).run Tryz.prog W = .ok (.int .i64 k) W := fun k n t x y a W => by simp [Instr.field, go_sem, asAgg]
  have HSI : Hid (∀ t W, _) := simple_any
  have hbox := HTB.out (.int .i64 0) (.int .i64 0) (.string ⟨#[]⟩) (.slice none 0 0) (.slice none 0 0) (.int .i64 ((Rp.nx s).a : Int))
  have q1 : (((Rp.nx s).k : Int) == 1) = false := by rw [beq_eq_false_iff_ne]; omega
  have q2 : (((Rp.nx s).k : Int) == 2) = false := by rw [beq_eq_false_iff_ne]; omega
  have q3 : (((Rp.nx s).k : Int) == 3) = false := by rw [beq_eq_false_iff_ne]; omega
  by_cases k4 : (Rp.nx s).k = 4 ∧ 0 < (Rp.simple (Rp.nx s).t).k
  · rw [if_pos k4, simple_node] at e
    have R1 : Ru (Rp.put { k := (Rp.simple (Rp.nx s).t).k, n := (Rp.simple (Rp.nx s).t).n, a := (Rp.nx s).a }) (Rp.move s) r s' := ⟨e, hsm⟩
    have hmv := fun W nv1 hW => HMV.out W nv1 hW (by omega) (by omega)
    have HMM : Hid (_) := hmv
    have hpos : (0 : Int) < (Rp.simple (Rp.nx s).t).k := by omega
    rw [k4.1] at c1 q1 q2 q3 hbox
    have HCC : Hid (_) := hbox
    clear e HTB HMV hn0 hbox hmv k1 k2 k3 k4 E h q1 q2 q3
    generalize Rp.nx s = T at *
    go_enter Tryz.func123, Tryz.ntmps123
    go_wp2_with fail
    refine Calls.mono (HSI.out _ _) ?_
    rintro e w5 ⟨rfl, hb5⟩
    have h5 := HCC.out.below hb5
    obtain ⟨t0, t1, t2, t3, t4, tl, b0, b1, b2, b3, b4, b5, f0, f1, f2, f3, f4, f5, bl⟩ := h5.facts
    have H5 : Hid (_) := h5
    clear hb5 h5 HCC c0 c1 c2 c3 c4 c5 c7 c9 cf hlt
    go_wp2_with fail
    refine Calls.mono (HSI.out _ _) ?_
    rintro e w6 ⟨rfl, hb6⟩
    have h6 := H5.out.below hb6
    clear t0 t1 t2 t3 t4 tl b0 b1 b2 b3 b4 b5 f0 f1 f2 f3 f4 f5 bl
    obtain ⟨t0, t1, t2, t3, t4, tl, b0, b1, b2, b3, b4, b5, f0, f1, f2, f3, f4, f5, bl⟩ := h6.facts
    have H6 : Hid (_) := h6
    clear hb6 h6 H5
    go_wp2_with fail
    have H7 : Hid (_) := ((((((H6.out.set0 (.int .i64 ((Rp.simple T.t).k : Int))).set1 (.int .i64 ((Rp.simple T.t).n : Int))).set2 (.string ⟨#[]⟩)).set3 (.slice none 0 0)).set4 (.slice none 0 0)).set5 (.int .i64 0)).set5 (.int .i64 (T.a : Int))
    refine Calls.mono (HMM.out _ _ H7.out.rs) ?_
    rintro e w8 ⟨rfl, nv8, hr8, hc8⟩
    have hb8 := H7.out.go hr8 hc8
    clear t0 t1 t2 t3 t4 tl b0 b1 b2 b3 b4 b5 f0 f1 f2 f3 f4 f5 bl
    obtain ⟨_, _, _, _, _, _, b0, b1, b2, b3, b4, b5, _, _, _, _, _, _, bl⟩ := hb8.facts
    have HB8 : Hid (_) := hb8
    clear hr8 hc8 hb8 HMM H6 H7
    go_wp2_with fail
    refine Calls.mono (c_putV (k := (Rp.simple T.t).k) (n := (Rp.simple T.t).n) (t := []) (N := []) (K := []) (a := T.a) R1 (HB8.out.rs.less (fun k hk => .inl (.inl hk))) (NV.nil _ _ _ _) (KV.nil _ _ _ _)) ?_
    rintro e w9 ⟨rfl, nv9, hr9, hc9⟩
    go_wp2_with fail
    go_ret
    exact ⟨rfl, nv9, hr9, HB8.out.chg.trans hc9⟩
  rw [if_neg k4] at e
  have HE : Hid (_) := e
  have HK4 : Hid (_) := k4
  have HBX : Hid (_) := hbox
  have HN0 : Hid (s.nodes.length ≤ 1000000000) := hn0
  obtain ⟨T, hT⟩ : ∃ T, Rp.nx s = T := ⟨_, rfl⟩
  rw [hT] at c1 c2 c3 c4 c5 q1 q2 q3 hbox HE HK4 HBX
  have HTT : Hid (_) := hT
  clear e k4 k1 k2 k3 hbox HTB HMV hn0 E h hT
  go_enter Tryz.func123, Tryz.ntmps123
  go_upto_region 14 with fail
  go_cut [41] (fun v wx => v = .bool false ∧ Hid (TwoB src F base B dep nv w wx T (.int .i64 0) (.int .i64 0) (.string ⟨#[]⟩) (.slice none 0 0) (.slice none 0 0) (.int .i64 (T.a : Int)) s nv))
  case first =>
    by_cases h4 : T.k = 4
    · have h0 : (Rp.simple T.t).k = 0 := by
        have := HK4.out
        rcases Nat.eq_zero_or_pos (Rp.simple T.t).k with h | h
        · exact h
        · exact absurd ⟨h4, h⟩ this
      have q4 : ((T.k : Int) == 4) = true := by rw [beq_iff_eq]; omega
      have HH0 : Hid (_) := h0
      clear h0 h4 q1 q2 q3 HE HK4 HTT
      go_wp2_with fail
      refine Calls.mono (HSI.out _ _) ?_
      rintro e w5 ⟨rfl, hb5⟩
      have HB5 : Hid (_) := HBX.out.below hb5
      clear hb5 HBX
      rw [HH0.out]
      go_wp2_with fail
      go_meet
      case rel => exact ⟨rfl, HB5.out⟩
    · have q4 : ((T.k : Int) == 4) = false := by rw [beq_eq_false_iff_ne]; omega
      clear h4 HE HK4 HTT
      go_wp2_with fail
      go_meet
      case rel => exact ⟨rfl, HBX.out⟩
  case rest =>
  obtain ⟨rfl, hcut⟩ := hcut
  clear c0 c1 c2 c3 c4 c5 c7 c9 cf hlt q1 q2 q3 HBX HK4 HSI hfl
  have h1 := Hid.out hcut
  have HI : Hid (_) := is_any h1.rs [102, 117, 110, 99, 116, 105, 111, 110]
  have H1 : Hid (_) := h1
  clear hcut h1
  cases hi : Rp.isS [102, 117, 110, 99, 116, 105, 111, 110] s
  · rw [hi] at HI
    have e := HE.out
    rw [if_neg (by rw [hi]; simp)] at e
    cases e1 : Rp.has [40] s with
    | mk b1 p1 =>
    have R1 := ru_has [40] s HN0.out e1
    have np1 := R1.small
    rw [e1] at e
    cases b1
    · simp only at e
      cases e2 : Rp.has [91] p1 with
      | mk b2 p2 =>
      have R2 := ru_has [91] p1 np1 e2
      have np2 := R2.small
      rw [e2] at e
      cases b2
      · simp only at e
        cases e3 : Rp.has [123] p2 with
        | mk b3 p3 =>
        have R3 := ru_has [123] p2 np2 e3
        rw [e3] at e
        cases b3
        · simp only [Prod.mk.injEq] at e
          obtain ⟨rfl, rfl⟩ := e
          clear e1 e2 e3 HE hi np1 np2
          go_wp2_with fail
          refine Calls.mono HI.out ?_
          rintro e w5 ⟨rfl, rfl⟩
          go_wp2_with fail
          refine Calls.mono (c_has R1 H1.out.rs) ?_
          rintro e w6 ⟨rfl, nv6, hr6, hc6⟩
          go_wp2_with fail
          refine Calls.mono (c_has R2 hr6) ?_
          rintro e w7 ⟨rfl, nv7, hr7, hc7⟩
          go_wp2_with fail
          refine Calls.mono (c_has R3 hr7) ?_
          rintro e w8 ⟨rfl, nv8, hr8, hc8⟩
          obtain ⟨c0, c1, c2, c3, c4, c5, c7, c9, cf, hlt⟩ := hr8.cl
          have HSP : Hid (_) := hr8.spoil
          have HC8 : Hid (_) := ((H1.out.chg.trans hc6).trans hc7).trans hc8
          clear hr6 hc6 hr7 hc7 hr8 hc8
          go_wp2_with fail
          go_ret
          exact ⟨rfl, nv8, HSP.out.1.less (fun k hk => .inl (.inl hk)), HC8.out.trans HSP.out.2⟩
        · simp only at e
          have R4 : Ru (Rp.object L T.a) p3 r s' := ⟨e, hsm⟩
          clear e1 e2 e3 e HE hi np1 np2
          go_wp2_with fail
          refine Calls.mono HI.out ?_
          rintro e w5 ⟨rfl, rfl⟩
          go_wp2_with fail
          refine Calls.mono (c_has R1 H1.out.rs) ?_
          rintro e w6 ⟨rfl, nv6, hr6, hc6⟩
          have H6 : Hid (_) := H1.out.go hr6 hc6
          clear hr6 hc6
          go_wp2_with fail
          refine Calls.mono (c_has R2 H6.out.rs) ?_
          rintro e w7 ⟨rfl, nv7, hr7, hc7⟩
          have H7 : Hid (_) := H6.out.go hr7 hc7
          clear hr7 hc7
          go_wp2_with fail
          refine Calls.mono (c_has R3 H7.out.rs) ?_
          rintro e w8 ⟨rfl, nv8, hr8, hc8⟩
          have h8 := H7.out.go hr8 hc8
          obtain ⟨_, _, _, _, _, _, b0, b1, b2, b3, b4, b5, _, _, _, _, _, _, bl⟩ := h8.facts
          have H8 : Hid (_) := h8
          clear hr8 hc8 h8 H1 H6 H7
          go_wp2_with fail
          refine Calls.mono (c_object hL hP R4 (H8.out.rs.less (F' := F) (fun k hk => .inl (.inl hk)))) ?_
          rintro e w9 ⟨rfl, nv9, hr9, hc9⟩
          go_wp2_with fail
          go_ret
          exact ⟨rfl, nv9, hr9, H8.out.chg.trans hc9⟩
      · simp only at e
        rcases e4 : Rp.commas L [93] p2 with ⟨K, p4⟩
        rw [e4] at e
        simp only at e
        have R5 : Ru (Rp.put { k := 9, kids := K, a := T.a }) p4 r s' := ⟨e, hsm⟩
        have np4 := R5.back (Rp.pre_len.put _)
        have R4 : Ru (Rp.commas L [93]) p2 K p4 := ⟨e4, np4⟩
        clear e1 e2 e4 e HE hi np1 np2 np4
        go_wp2_with fail
        refine Calls.mono HI.out ?_
        rintro e w5 ⟨rfl, rfl⟩
        go_wp2_with fail
        refine Calls.mono (c_has R1 H1.out.rs) ?_
        rintro e w6 ⟨rfl, nv6, hr6, hc6⟩
        have H6 : Hid (_) := H1.out.go hr6 hc6
        clear hr6 hc6
        go_wp2_with fail
        refine Calls.mono (c_has R2 H6.out.rs) ?_
        rintro e w7 ⟨rfl, nv7, hr7, hc7⟩
        have h7 := H6.out.go hr7 hc7
        obtain ⟨_, _, _, _, _, _, b0, b1, b2, b3, b4, b5, f0, f1, f2, f3, f4, f5, bl⟩ := h7.facts
        have H7 : Hid (_) := h7.set0 (.int .i64 9)
        clear hr7 hc7 h7 H1 H6
        go_wp2_with fail
        refine Calls.mono (c_commas hL hP R4 H7.out.rs) ?_
        rintro e w8 ⟨ad, cap, rfl, nv8, hr8, hc8, hk8⟩
        clear b0 b1 b2 b3 b4 b5 f0 f1 f2 f3 f4 f5 bl
        have h8 := H7.out.go hr8 hc8
        obtain ⟨_, _, _, _, _, _, b0, b1, b2, b3, b4, b5, f0, f1, f2, f3, f4, f5, bl⟩ := h8.facts
        have H8 : Hid (_) := h8
        have HK8 : Hid (_) := hk8
        clear hr8 hc8 h8 hk8 H7
        go_wp2_with fail
        refine Calls.mono (c_putV (k := 9) (n := 0) (t := []) (N := []) (K := K) (a := T.a) R5 ((H8.out.set4 (.slice ad K.length cap)).rs.less (fun k hk => .inl (.inl hk))) (NV.nil _ _ _ _) ((HK8.out.set (X := w.heap.size + 1) (.inr rfl) 4 (.slice ad K.length cap)).less (fun k hk => .inl (.inl hk)))) ?_
        rintro e w9 ⟨rfl, nv9, hr9, hc9⟩
        have HC9 : Hid (_) := (H8.out.set4 (.slice ad K.length cap)).chg.trans hc9
        have HR9 : Hid (_) := hr9
        clear hr9 hc9 b0 b1 b2 b3 b4 b5 f0 f1 f2 f3 f4 f5 bl
        go_wp2_with fail
        go_ret
        exact ⟨rfl, nv9, HR9.out, HC9.out⟩
    · simp only at e
      rcases e4 : L.e p1 with ⟨y, p4⟩
      rw [e4] at e
      simp only [Prod.mk.injEq] at e
      obtain ⟨rfl, e5⟩ := e
      have R5 : Ru (up (Rp.must [41])) p4 () s' := ⟨by unfold up; rw [e5], hsm⟩
      have np4 := R5.back (kp_up (Rp.kp_must Rp.pre_len _))
      have R4 : Ru L.e p1 y p4 := ⟨e4, np4⟩
      clear e1 e4 e5 HE hi np1 np4
      go_wp2_with fail
      refine Calls.mono HI.out ?_
      rintro e w5 ⟨rfl, rfl⟩
      go_wp2_with fail
      refine Calls.mono (c_has R1 H1.out.rs) ?_
      rintro e w6 ⟨rfl, nv6, hr6, hc6⟩
      go_wp2_with fail
      refine Calls.mono ((hL _).e R4 (hr6.less (F' := F) (fun k hk => .inl (.inl hk)))) ?_
      rintro e w7 ⟨rfl, nv7, hr7, hc7⟩
      go_wp2_with fail
      refine Calls.mono (c_must R5 hr7) ?_
      rintro e w8 ⟨rfl, nv8, hr8, hc8⟩
      go_wp2_with fail
      go_ret
      exact ⟨rfl, nv8, hr8, ((H1.out.chg.trans hc6).trans hc7).trans hc8⟩
  · rw [hi] at HI
    have e := HE.out
    rw [if_pos hi] at e
    have R2 : Ru (Rp.func L false) s r s' := ⟨e, hsm⟩
    clear e HE hi
    go_wp2_with fail
    refine Calls.mono HI.out ?_
    rintro e w5 ⟨rfl, rfl⟩
    go_wp2_with fail
    refine Calls.mono (c_func hL hP R2 (H1.out.rs.less (F' := F) (fun k hk => .inl (.inl hk)))) ?_
    rintro e w6 ⟨rfl, nv6, hr6, hc6⟩
    go_wp2_with fail
    go_ret
    exact ⟨rfl, nv6, hr6, H1.out.chg.trans hc6⟩
end
end Go.Proofs.YtpjmapoiinjakaaGreatDoor.Rd
end
section
namespace Go.Proofs.YtpjmapoiinjakaaGreatDoor.Rd
open Go.RowKit
open L (tkA own_block own_below intOf info_of size_list wpList_append_run)
set_option linter.unusedVariables false
theorem src_nothing (xo : Option Addr) (c : Nat) (e t : TypeId) (sz : Nat) (ht : Tryz.prog.underlying t = some (.slice e)) (w : World) : Src Tryz.prog sz t (.slice xo 0 c) 0 [] w :=
  ⟨.inl ⟨e, ht⟩, fun w' => by simp [Builtin.lenOf], by cases xo <;> simp [Builtin.firstCells, loadCells, loadCellsFrom], by cases xo <;> simp [Builtin.firstCells, loadCells, loadCellsFrom], by simp, by simp⟩
section
variable {src : ByteArray} {F : Nat → Prop} {base B dep : Nat} {s s' : Rp.Rt} {nv : Value} {w0 W : World} {v : Value}
/-- Kids behind kids. -/
theorem KO.kids {K0 K : List Nat} {a : Option Addr} {c : Nat} {ad : Option Addr} {cap : Nat} (h : KO src F base B dep s nv w0 W 3 (.slice a K0.length c) K0.length (kc K0)) (hk : KV F B nv W (.slice ad K.length cap) K) (hn : K0.length + K.length ≤ 1000000) :
    ∃ a' cap' w3, (Builtin.append_ #[41, 41] 41 #[.slice a K0.length c, .slice ad K.length cap]).run Tryz.prog W = .ok (.slice a' (K0 ++ K).length cap') w3 ∧ KO src F base B dep s nv w0 w3 3 (.slice a' (K0 ++ K).length cap') (K0 ++ K).length (kc (K0 ++ K)) ∧ (∀ nv0, Chg B nv0 nv w0 W → Chg B nv0 nv w0 w3) := by
  obtain ⟨i0, hi, hz0, hz1, hz2⟩ := info_of infoInt
  by_cases h0 : K = []
  · subst h0
    have hcap : K0.length ≤ c := by
      rcases h.own.2 with ⟨e, h⟩ | ⟨g, cap, cur, e, _, _, h4, _⟩
      · omega
      · simp only [Value.slice.injEq] at e; omega
    refine ⟨a, c, W, ?_, by simpa using h, fun nv0 c0 => c0⟩
    have := run_append_nothing (P := Tryz.prog) (ty := 41) W 41 41 3 i0 Tryz.underlying41 hi a K0.length c hcap _ (src_nothing ad cap 3 41 _ Tryz.underlying41 W)
    simpa using this
  · obtain ⟨ad', cap', e, hcap, hx⟩ := hk.kids
    simp only [Value.slice.injEq, true_and] at e
    obtain ⟨rfl, rfl⟩ := e
    obtain ⟨g, rfl, hg, hc⟩ := hx.resolve_left h0
    have hpos : 1 ≤ K.length := by
      cases K with
      | nil => exact absurd rfl h0
      | cons x K => simp
    obtain ⟨a', cap', w3, hr, hko, hch⟩ := h.cat 41 41 Tryz.underlying41 hi hz0 hz1 hz2 rfl (by omega) (Below.refl _ _) ⟨g, 0, none⟩ K.length cap (kc K) (by simp [kc]) (fun j u hj => by
      have hjl : j < K.length := by
        rcases Nat.lt_or_ge j K.length with h | h
        · exact h
        · rw [List.getElem?_eq_none (by simpa [kc] using h)] at hj; cases hj
      have h1 := hc j hjl
      have h2 : u = .int .i64 (K[j] : Int) := by
        have : (kc K)[j]? = some (.int .i64 (K[j] : Int)) := by simp [kc, hjl]
        rw [this] at hj; exact (Option.some.inj hj).symm
      rw [h2]
      rw [show (⟨g, 0, none⟩ : Addr).add j = ⟨g, j, none⟩ by unfold Addr.add; split <;> simp_all]
      exact h1) (by intro u hu; obtain ⟨k, _, rfl⟩ := List.mem_map.1 hu; rfl) hn hpos
    exact ⟨a', cap', w3, by simpa using hr, by simpa [kc] using hko, hch⟩
end
section
variable {src : ByteArray} {F : Nat → Prop} {base B dep : Nat} {s s' : Rp.Rt} {nv : Value} {w : World}
/-- Where the loop of what stands behind is. -/
structure PoL (src : ByteArray) (F : Nat → Prop) (base B dep : Nat) (L : Rp.Lr) (nv : Value) (w W : World) (f k : Nat) (s1 : Rp.Rt) (r : Nat) (s' : Rp.Rt) : Prop where
  rs : ∃ nv1, RS src F base B dep s1 nv1 W ∧ Chg B nv nv1 w W
  run : Rp.postLoop L f k s1 = (r, s') ∧ s1.toks.length ≤ f
  ix : s1.bad = false → k < s1.nodes.length
/-- A round: what it comes to. -/
theorem postLoop_round {L : Rp.Lr} {f k r : Nat} {q s' : Rp.Rt} (h : Rp.postLoop L (f + 1) k q = (r, s')) :
    (q.bad = true ∧ r = k ∧ s' = q) ∨ (q.bad = false ∧ ∃ b1 q1, Rp.has [46] q = (b1, q1) ∧
      ((b1 = true ∧ (((Rp.nx q1).k ≠ 3 ∧ (Rp.nx q1).k ≠ 4 ∧ r = k ∧ s' = Rp.spoil q1) ∨ (((Rp.nx q1).k = 3 ∨ (Rp.nx q1).k = 4) ∧ ∃ o q2, Rp.put { k := 11, t := (Rp.nx q1).t, kids := [k], a := (q.nodes.getD k {}).a } (Rp.move q1) = (o, q2) ∧ Rp.postLoop L f o q2 = (r, s')))) ∨
      (b1 = false ∧ ∃ b2 q2, Rp.has [91] q1 = (b2, q2) ∧
        ((b2 = true ∧ ∃ y q3 q4 o q5, L.e q2 = (y, q3) ∧ Rp.must [93] q3 = q4 ∧ Rp.put { k := 12, kids := [k, y], a := (q.nodes.getD k {}).a } q4 = (o, q5) ∧ Rp.postLoop L f o q5 = (r, s')) ∨
        (b2 = false ∧ ∃ b3 q3, Rp.has [40] q2 = (b3, q3) ∧
          ((b3 = true ∧ ∃ K q4 o q5, Rp.commas L [41] q3 = (K, q4) ∧ Rp.put { k := 13, kids := k :: K, a := (q.nodes.getD k {}).a } q4 = (o, q5) ∧ Rp.postLoop L f o q5 = (r, s')) ∨ (b3 = false ∧ r = k ∧ s' = q3))))))) := by
  unfold Rp.postLoop at h
  simp only at h
  by_cases hb : q.bad = true
  · rw [if_pos hb] at h; cases h; exact .inl ⟨hb, rfl, rfl⟩
  rw [if_neg hb] at h
  refine .inr ⟨by simpa using hb, ?_⟩
  rcases e1 : Rp.has [46] q with ⟨b1, q1⟩
  rw [e1] at h
  refine ⟨b1, q1, rfl, ?_⟩
  cases b1
  · simp only at h
    refine .inr ⟨rfl, ?_⟩
    rcases e2 : Rp.has [91] q1 with ⟨b2, q2⟩
    rw [e2] at h
    refine ⟨b2, q2, rfl, ?_⟩
    cases b2
    · simp only at h
      refine .inr ⟨rfl, ?_⟩
      rcases e3 : Rp.has [40] q2 with ⟨b3, q3⟩
      rw [e3] at h
      refine ⟨b3, q3, rfl, ?_⟩
      cases b3
      · cases h; exact .inr ⟨rfl, rfl, rfl⟩
      · exact .inl ⟨rfl, _, _, _, _, rfl, rfl, h⟩
    · exact .inl ⟨rfl, _, _, _, _, _, rfl, rfl, rfl, h⟩
  · simp only at h
    refine .inl ⟨rfl, ?_⟩
    by_cases hk : (Rp.nx q1).k ≠ 3 ∧ (Rp.nx q1).k ≠ 4
    · rw [if_pos hk] at h; cases h; exact .inl ⟨hk.1, hk.2, rfl, rfl⟩
    · rw [if_neg hk] at h; exact .inr ⟨by omega, _, _, rfl, h⟩
theorem commasLoop_len {L : Rp.Lr} : ∀ (f : Nat) (l : List Nat) (q : Rp.Rt), (Rp.commasLoop L f l q).1.length ≤ l.length + f
  | 0, l, q => Nat.le_refl _
  | f + 1, l, q => by
    unfold Rp.commasLoop
    split
    · simp
    · rename_i q1 h
      have h3 := commasLoop_len (L := L) f (l ++ [(L.e q1).1]) (L.e q1).2
      rw [List.length_append] at h3
      simp only [List.length_cons, List.length_nil] at h3
      show (Rp.commasLoop L f (l ++ [(L.e q1).1]) (L.e q1).2).1.length ≤ _
      omega
theorem commas_len {L : Rp.Lr} (hP : LvP L) {m : List UInt8} {q : Rp.Rt} (g : Rp.Gd q) : (Rp.commas L m q).1.length ≤ q.toks.length + 1 := by
  unfold Rp.commas
  split
  · simp
  · rename_i q1 h
    have h1 := (Rp.kp_has Rp.pre_dn m q).1 g
    rw [h] at h1
    have h2 := (hP.dn.e q1).1 h1.1
    have h3 := commasLoop_len (L := L) (L.e q1).2.toks.length [(L.e q1).1] (L.e q1).2
    simp only [List.length_cons, List.length_nil] at h3
    have h4 := h2.2
    have h5 := h1.2
    simp only at h5 ⊢
    omega
set_option maxRecDepth 100000 in
set_option maxHeartbeats 2000000 in
theorem p_part {L : Rp.Lr} {r : Nat} (hd : dep < 40) (hL : ∀ F, LvC src F base B (dep + 1) L) (hP : LvP L) (hb : s.bad = false) (E : Ru (Rp.deeper (Rp.post L)) s r s') (h : RS src F base B dep s nv w) :
    Calls Tryz.prog 119 #[.pointer (some ⟨B, 0, none⟩)] w (Tells src F base B dep nv w s' (.int .i64 (r : Int))) := by
  have e := E.eq
  have hsm := E.small
  unfold Rp.deeper at e
  rw [hb] at e
  simp only [Bool.false_eq_true, if_false] at e
  have HI : Hid (_) := c_in h hb hd
  rcases e1 : Rp.first L s with ⟨k, s1⟩
  have e2 : Rp.postLoop L s1.toks.length k s1 = (r, s') := by unfold Rp.post at e; rw [e1] at e; exact e
  have n1 : s1.nodes.length ≤ 1000000000 := gb (Rp.kp_postLoop Rp.pre_len hP.gr _ _) e2 hsm
  have R1 : Ru (Rp.first L) s k s1 := ⟨e1, n1⟩
  have hix : s1.bad = false → k < s1.nodes.length := fun hb => by
    have := Rp.ix_first hP.ix hP.bd hP.gr s
    rw [e1] at this; exact this hb
  have HRUN : Hid (_) := e2
  have HIX : Hid (_) := hix
  have HS : Hid (s'.nodes.length ≤ 1000000000) := hsm
  clear e e1 e2 n1 hix hsm E h hb
  go_enter Tryz.func119, Tryz.ntmps119
  go_wp2_with fail
  refine Calls.mono HI.out ?_
  rintro e w1 ⟨rfl, hr1, hc1⟩
  go_wp2_with fail
  refine Calls.mono (c_first hL hP R1 hr1) ?_
  rintro e w2 ⟨rfl, nv2, hr2, hc2⟩
  have HST : Hid (PoL src F base B (dep + 1) L nv w w2 s1.toks.length k s1 r s') := (show PoL _ _ _ _ _ _ _ _ _ _ _ _ _ _ from ⟨⟨nv2, hr2, hc1.trans hc2⟩, ⟨HRUN.out, Nat.le_refl _⟩, HIX.out⟩)
  clear hr1 hc1 hr2 hc2 HRUN HIX
  go_wp2_with fail
  go_loopg [3] (s1.toks.length) (fun f v W => ∃ (k : Nat) (t1 : Rp.Rt), v = .int .i64 (k : Int) ∧ Hid (PoL src F base B (dep + 1) L nv w W f k t1 r s'))
  case atStart => exact ⟨k, s1, rfl, HST⟩
  case round =>
    clear HST
    obtain ⟨k1, q, rfl, HIN⟩ := hrel
    obtain ⟨⟨nv3, hr3, hc3⟩, ⟨hrun, hf⟩, hix⟩ := HIN.out
    have hg := hr3.gd
    obtain ⟨f, rfl⟩ : ∃ f', gk = f' + 1 := ⟨gk - 1, by have := hg.one; omega⟩
    have hround := postLoop_round hrun
    have hn3 : q.nodes.length ≤ 1000000000 := gb (Rp.kp_postLoop Rp.pre_len hP.gr _ _) hrun HS.out
    obtain ⟨c0, c1, c2, c3, c4, c5, c7, c9, cf, hlt⟩ := hr3.cl
    have HR3 : Hid (_) := hr3
    have HC3 : Hid (_) := hc3
    have HG : Hid (Rp.Gd q ∧ q.toks.length ≤ f + 1) := (show _ ∧ _ from ⟨hg, hf⟩)
    rcases hround with ⟨hb, rfl, rfl⟩ | ⟨hb, b1, q1, e1, hw⟩
    · rw [hb] at c9
      clear HIN hr3 hc3 hrun hf hix hg hn3 hb HG
      go_wp2_with fail
      refine Calls.mono (c_out HR3.out) ?_
      rintro e w5 ⟨rfl, hr5, hc5⟩
      clear c0 c1 c2 c3 c4 c5 c7 c9 cf hlt
      go_wp2_with fail
      go_ret
      exact ⟨rfl, nv3, hr5, HC3.out.trans hc5⟩
    have hk1 := hix hb
    obtain ⟨gn, ncap, hnv, hncap, hgn, hpl⟩ := hr3.place hk1
    have hx1 : (k1 : Int) < q.nodes.length := by omega
    have hx0 : (0 : Int) ≤ k1 := by omega
    rw [hnv] at c7
    rw [hb] at c9
    have T1 := ru_has [46] q hn3 e1
    have nq1 := T1.small
    have HSTEP : Hid (∀ q', Rp.Dn q1 q' → b1 = true → q'.toks.length ≤ f) := fun q' hd ht => by
      subst ht
      have h1 := Rp.has_on e1 hg
      have hbad : q1.bad = false := by rw [(Rp.has_keep e1).2]; exact hb
      have h2 : q1.toks.length < q.toks.length := by
        rcases h1.2 with hh | hh
        · rw [hbad] at hh; cases hh
        · exact hh
      have := (hd.1 h1.1).2
      omega
    have HQ1 : Hid (Rp.Gd q1 ∧ q1.bad = false ∧ q1.nodes.length = q.nodes.length ∧ (b1 = false → q1 = q)) := (show _ ∧ _ ∧ _ ∧ _ from by
      have := (Rp.kp_has Rp.pre_dn [46] q).1 hg
      rw [e1] at this
      exact ⟨this.1, by rw [(Rp.has_keep e1).2]; exact hb, by rw [(Rp.has_keep e1).1], fun hf => by subst hf; exact Rp.has_no e1⟩)
    have HKK : Hid (k1 < q.nodes.length) := hk1
    generalize hka : (q.nodes.getD k1 {}).a = ka at *
    have HKA : Hid (_ = ka) := hka
    clear HIN hr3 hc3 hrun hix hg hn3 hk1 hnv e1 hka hb
    generalize hnl : q.nodes.length = nl at *
    cases b1
    · obtain ⟨b2, q2, e2, hw⟩ : ∃ b2 q2, Rp.has [91] q1 = (b2, q2) ∧
        ((b2 = true ∧ ∃ y q3 q4 o q5, L.e q2 = (y, q3) ∧ Rp.must [93] q3 = q4 ∧ Rp.put { k := 12, kids := [k1, y], a := ka } q4 = (o, q5) ∧ Rp.postLoop L f o q5 = (r, s')) ∨
        (b2 = false ∧ ∃ b3 q3, Rp.has [40] q2 = (b3, q3) ∧
          ((b3 = true ∧ ∃ K q4 o q5, Rp.commas L [41] q3 = (K, q4) ∧ Rp.put { k := 13, kids := k1 :: K, a := ka } q4 = (o, q5) ∧ Rp.postLoop L f o q5 = (r, s')) ∨ (b3 = false ∧ r = k1 ∧ s' = q3)))) := by
        rcases hw with ⟨h, _⟩ | ⟨_, h⟩
        · cases h
        · exact h
      have T2 := ru_has [91] q1 nq1 e2
      have nq2 := T2.small
      have HQ2 : Hid (Rp.Gd q2 ∧ q2.bad = false ∧ q2.nodes.length = nl ∧ (b2 = true → ∀ q', Rp.Dn q2 q' → q'.toks.length ≤ f)) := (show _ ∧ _ ∧ _ ∧ _ from by
        have g1 := HQ1.out.1
        have := (Rp.kp_has Rp.pre_dn [91] q1).1 g1
        rw [e2] at this
        have hq : q1 = q := HQ1.out.2.2.2 rfl
        refine ⟨this.1, by rw [(Rp.has_keep e2).2]; exact HQ1.out.2.1, by rw [(Rp.has_keep e2).1]; exact HQ1.out.2.2.1, fun ht q' hd => ?_⟩
        subst ht
        have h1 := Rp.has_on e2 g1
        have hbad : q2.bad = false := by rw [(Rp.has_keep e2).2]; exact HQ1.out.2.1
        have h2 : q2.toks.length < q1.toks.length := by
          rcases h1.2 with hh | hh
          · rw [hbad] at hh; cases hh
          · exact hh
        have h3 := (hd.1 h1.1).2
        have h4 := HG.out.2
        rw [hq] at h2
        omega)
      clear e2
      cases b2
      · obtain ⟨b3, q3, e3, hw⟩ : ∃ b3 q3, Rp.has [40] q2 = (b3, q3) ∧
          ((b3 = true ∧ ∃ K q4 o q5, Rp.commas L [41] q3 = (K, q4) ∧ Rp.put { k := 13, kids := k1 :: K, a := ka } q4 = (o, q5) ∧ Rp.postLoop L f o q5 = (r, s')) ∨ (b3 = false ∧ r = k1 ∧ s' = q3)) := by
          rcases hw with ⟨h, _⟩ | ⟨_, h⟩
          · cases h
          · exact h
        have T3 := ru_has [40] q2 nq2 e3
        have HQ3 : Hid (b3 = true → ∀ q', Rp.Dn q3 q' → q'.toks.length ≤ f) := (show _ → _ from fun ht q' hd => by
          subst ht
          have g2 := HQ2.out.1
          have h1 := Rp.has_on e3 g2
          have hbad : q3.bad = false := by rw [(Rp.has_keep e3).2]; exact HQ2.out.2.1
          have h2 : q3.toks.length < q2.toks.length := by
            rcases h1.2 with hh | hh
            · rw [hbad] at hh; cases hh
            · exact hh
          have h3 := (hd.1 h1.1).2
          have hq : q1 = q := HQ1.out.2.2.2 rfl
          have hq2 : q2.toks.length ≤ q1.toks.length := by
            have := T2.eq
            rw [Rp.has_no this]; exact Nat.le_refl _
          have h4 := HG.out.2
          rw [hq] at hq2
          omega)
        clear e3
        cases b3
        · obtain ⟨rfl, rfl⟩ : r = k1 ∧ s' = q3 := by
            rcases hw with ⟨h, _⟩ | ⟨_, h⟩
            · cases h
            · exact h
          clear hw HQ1 HQ2 HQ3 HSTEP HG nq1 nq2 HS HKA
          go_wp2_with fail
          refine Calls.mono (c_has T1 HR3.out) ?_
          rintro e w5 ⟨rfl, nv5, hr5, hc5⟩
          clear c0 c1 c2 c3 c4 c5 c7 c9 cf hlt hgn hpl
          go_wp2_with fail
          refine Calls.mono (c_has T2 hr5) ?_
          rintro e w6 ⟨rfl, nv6, hr6, hc6⟩
          go_wp2_with fail
          refine Calls.mono (c_has T3 hr6) ?_
          rintro e w7 ⟨rfl, nv7, hr7, hc7⟩
          go_wp2_with fail
          refine Calls.mono (c_out hr7) ?_
          rintro e w8 ⟨rfl, hr8, hc8⟩
          go_wp2_with fail
          go_ret
          exact ⟨rfl, nv7, hr8, (((HC3.out.trans hc5).trans hc6).trans hc7).trans hc8⟩
        · obtain ⟨K, q4, o, q5, e4, e5, e6⟩ : ∃ K q4 o q5, Rp.commas L [41] q3 = (K, q4) ∧ Rp.put { k := 13, kids := k1 :: K, a := ka } q4 = (o, q5) ∧ Rp.postLoop L f o q5 = (r, s') := by
            rcases hw with ⟨_, h⟩ | ⟨h, _⟩
            · exact h
            · cases h
          have n5 : q5.nodes.length ≤ 1000000000 := gb (Rp.kp_postLoop Rp.pre_len hP.gr _ _) e6 HS.out
          have T5 : Ru (Rp.put { k := 13, kids := k1 :: K, a := ka }) q4 o q5 := ⟨e5, n5⟩
          have n4 := T5.back (Rp.pre_len.put _)
          have T4 : Ru (Rp.commas L [41]) q3 K q4 := ⟨e4, n4⟩
          have hl : q5.toks.length ≤ f := HQ3.out rfl q5 (by
            have h1 := Rp.kp_commas Rp.pre_dn hP.dn [41] q3
            rw [e4] at h1
            have h2 := Rp.pre_dn.put { k := 13, kids := k1 :: K, a := ka } q4
            rw [e5] at h2
            exact Rp.pre_dn.trans h1 h2)
          have HEND : Hid (∀ nv9 W, RS src F base B (dep + 1) q5 nv9 W → Chg B nv nv9 w W → PoL src F base B (dep + 1) L nv w W f o q5 r s') := fun nv9 W h1 h2 => ⟨⟨nv9, h1, h2⟩, ⟨e6, hl⟩, fun _ => by
            have h3 : (Rp.put { k := 13, kids := k1 :: K, a := ka } q4).1 < (Rp.put { k := 13, kids := k1 :: K, a := ka } q4).2.nodes.length := Rp.put_ix' _ _
            rw [e5] at h3; exact h3⟩
          have HT4 : Hid (_) := e4
          clear hw HQ1 HQ2 HQ3 HSTEP HG nq1 nq2 HKA e4 e5 e6 n5 n4 hl
          go_wp2_with fail
          refine Calls.mono (c_has T1 HR3.out) ?_
          rintro e w5 ⟨rfl, nv5, hr5, hc5⟩
          clear c0 c1 c2 c3 c4 c5 c7 c9 cf hlt hgn hpl
          go_wp2_with fail
          refine Calls.mono (c_has T2 hr5) ?_
          rintro e w6 ⟨rfl, nv6, hr6, hc6⟩
          go_wp2_with fail
          refine Calls.mono (c_has T3 hr6) ?_
          rintro e w7 ⟨rfl, nv7, hr7, hc7⟩
          have HKL : Hid (K.length ≤ 100000) := (show _ ≤ _ from by
            have h1 := commas_len hP (m := [41]) hr7.gd
            rw [HT4.out] at h1
            have h2 := hr7.toks
            simp only at h1; omega)
          have hko := KO.lit (w0 := w7) (e := 3) hr7 (Nat.le_refl _) #[.int .i64 (k1 : Int)] 1 rfl (by omega)
          have HKO : Hid (_) := hko
          have HR7 : Hid (_) := hr7
          have HC7 : Hid (_) := ((HC3.out.trans hc5).trans hc6).trans hc7
          clear hr5 hc5 hr6 hc6 hr7 hc7 hko HR3 HC3
          go_wp2_with fail
          refine Calls.mono (c_commas hL hP T4 HKO.out.rs) ?_
          rintro e w8 ⟨ad, cap, rfl, nv8, hr8, hc8, hk8⟩
          obtain ⟨a9, cap9, w9, hap, hko9, hc9⟩ := KO.kids (K0 := [k1]) (c := 1) (HKO.out.go hr8 hc8) (hk8.less (fun k hk => .inl hk)) (by have := HKL.out; simp; omega)
          have HRn : Hid (_) := hap
          have HK9 : Hid (_) := hko9.kv HR7.out
          have HC9 : Hid (_) := hc9 _ ((((Chg.below nv7 ((Below.refl w7.heap.size w7).alloc (Nat.le_refl _) (.cells #[.int .i64 (k1 : Int)] 3)))).trans hc8))
          clear hr8 hc8 hk8 hap hko9 hc9 HKO
          go_wp2_with (at_builtin; refine wpList_append_run _ _ 41 rfl rfl _ _ _ _ rfl rfl HRn.out ?_)
          refine Calls.mono (c_putV (k := 13) (n := 0) (t := []) (N := []) (K := k1 :: K) (a := ka) T5 HK9.out.1 (NV.nil _ _ _ _) HK9.out.2) ?_
          rintro e w10 ⟨rfl, nv10, hr10, hc10⟩
          have HEN : Hid (_) := HEND.out _ _ hr10 ((HC7.out.trans HC9.out).trans hc10)
          clear hr10 hc10
          go_wp2_with fail
          go_roundg f
          case rel => exact ⟨o, q5, rfl, HEN.out⟩
          case measure => omega
      · obtain ⟨y, q3, q4, o, q5, e3, e4, e5, e6⟩ : ∃ y q3 q4 o q5, L.e q2 = (y, q3) ∧ Rp.must [93] q3 = q4 ∧ Rp.put { k := 12, kids := [k1, y], a := ka } q4 = (o, q5) ∧ Rp.postLoop L f o q5 = (r, s') := by
          rcases hw with ⟨_, h⟩ | ⟨h, _⟩
          · exact h
          · cases h
        have n5 : q5.nodes.length ≤ 1000000000 := gb (Rp.kp_postLoop Rp.pre_len hP.gr _ _) e6 HS.out
        have T5 : Ru (Rp.put { k := 12, kids := [k1, y], a := ka }) q4 o q5 := ⟨e5, n5⟩
        have n4 := T5.back (Rp.pre_len.put _)
        have T4 : Ru (up (Rp.must [93])) q3 () q4 := ⟨by unfold up; rw [e4], n4⟩
        have n3 := T4.back (kp_up (Rp.kp_must Rp.pre_len _))
        have T3 : Ru L.e q2 y q3 := ⟨e3, n3⟩
        have hl : q5.toks.length ≤ f := HQ2.out.2.2.2 rfl q5 (by
          have h1 := hP.dn.e q2
          rw [e3] at h1
          have h2 := Rp.kp_must Rp.pre_dn [93] q3
          rw [e4] at h2
          have h3 := Rp.pre_dn.put { k := 12, kids := [k1, y], a := ka } q4
          rw [e5] at h3
          exact Rp.pre_dn.trans h1 (Rp.pre_dn.trans h2 h3))
        have HEND : Hid (∀ nv9 W, RS src F base B (dep + 1) q5 nv9 W → Chg B nv nv9 w W → PoL src F base B (dep + 1) L nv w W f o q5 r s') := fun nv9 W h1 h2 => ⟨⟨nv9, h1, h2⟩, ⟨e6, hl⟩, fun _ => by
          have h3 : (Rp.put { k := 12, kids := [k1, y], a := ka } q4).1 < (Rp.put { k := 12, kids := [k1, y], a := ka } q4).2.nodes.length := Rp.put_ix' _ _
          rw [e5] at h3; exact h3⟩
        clear hw HQ1 HQ2 HSTEP HG nq1 nq2 HKA e3 e4 e5 e6 n5 n4 n3 hl
        go_wp2_with fail
        refine Calls.mono (c_has T1 HR3.out) ?_
        rintro e w5 ⟨rfl, nv5, hr5, hc5⟩
        clear c0 c1 c2 c3 c4 c5 c7 c9 cf hlt hgn hpl
        go_wp2_with fail
        refine Calls.mono (c_has T2 hr5) ?_
        rintro e w6 ⟨rfl, nv6, hr6, hc6⟩
        go_wp2_with fail
        refine Calls.mono ((hL _).e T3 hr6) ?_
        rintro e w7 ⟨rfl, nv7, hr7, hc7⟩
        go_wp2_with fail
        refine Calls.mono (c_must T4 hr7) ?_
        rintro e w8 ⟨rfl, nv8, hr8, hc8⟩
        have HC8 : Hid (_) := (((HC3.out.trans hc5).trans hc6).trans hc7).trans hc8
        have HR8 : Hid (_) := hr8
        clear hr5 hc5 hr6 hc6 hr7 hc7 hr8 hc8 HR3 HC3
        go_wp2_with fail
        refine Calls.mono (c_putB (k := 12) (n := 0) (t := []) (K := [k1, y]) (a := ka) T5 HR8.out #[.int .i64 (k1 : Int), .int .i64 (y : Int)] 2 rfl (fun j hj => by
          have : j = 0 ∨ j = 1 := by simp at hj; omega
          rcases this with rfl | rfl <;> rfl) (Below.refl _ _)) ?_
        rintro e w10 ⟨rfl, nv10, hr10, hc10⟩
        have HEN : Hid (_) := HEND.out _ _ hr10 (HC8.out.trans hc10)
        clear hr10 hc10
        go_wp2_with fail
        go_roundg f
        case rel => exact ⟨o, q5, rfl, HEN.out⟩
        case measure => omega
    · have hw2 : ((Rp.nx q1).k ≠ 3 ∧ (Rp.nx q1).k ≠ 4 ∧ r = k1 ∧ s' = Rp.spoil q1) ∨ (((Rp.nx q1).k = 3 ∨ (Rp.nx q1).k = 4) ∧ ∃ o q2, Rp.put { k := 11, t := (Rp.nx q1).t, kids := [k1], a := ka } (Rp.move q1) = (o, q2) ∧ Rp.postLoop L f o q2 = (r, s')) := by
        rcases hw with ⟨_, h⟩ | ⟨h, _⟩
        · exact h
        · cases h
      rcases hw2 with ⟨h3, h4, rfl, rfl⟩ | ⟨hk, o, q2, e5, e6⟩
      · have z3 : (((Rp.nx q1).k : Int) == 3) = false := by rw [beq_eq_false_iff_ne]; omega
        have z4 : (((Rp.nx q1).k : Int) == 4) = false := by rw [beq_eq_false_iff_ne]; omega
        have y3 : ¬ ((Rp.nx q1).k : Int) = 3 := by omega
        have y4 : ¬ ((Rp.nx q1).k : Int) = 4 := by omega
        have v3 : (((Rp.nx q1).k : Int) != 3) = true := by unfold bne; rw [z3]; rfl
        have v4 : (((Rp.nx q1).k : Int) != 4) = true := by unfold bne; rw [z4]; rfl
        clear hw HQ1 HSTEP HG nq1 HKA HS h3 h4
        go_wp2_with fail
        refine Calls.mono (c_has T1 HR3.out) ?_
        rintro e w5 ⟨rfl, nv5, hr5, hc5⟩
        clear c0 c1 c2 c3 c4 c5 c7 c9 cf hlt hgn hpl
        obtain ⟨c0, c1, c2, c3, c4, c5, c7, c9, cf, hlt⟩ := hr5.cl
        have HSP : Hid (_) := fun o => hr5.spoil.1.below (Below.alloc (Below.refl _ _) (Nat.le_refl _) o)
        have HC5 : Hid (_) := fun o => (HC3.out.trans (hc5.trans hr5.spoil.2)).alloc o
        clear hr5 hc5 HR3 HC3
        generalize Rp.nx q1 = T at *
        go_wp2_with fail
        refine Calls.mono (c_out (HSP.out _)) ?_
        rintro e w8 ⟨rfl, hr8, hc8⟩
        have HR8 : Hid (_) := hr8
        have HC8 : Hid (_) := (HC5.out _).trans hc8
        clear c0 c1 c2 c3 c4 c5 c7 c9 cf hlt hr8 hc8
        go_wp2_with fail
        go_ret
        exact ⟨rfl, nv5, HR8.out, HC8.out⟩
      · have n2 : q2.nodes.length ≤ 1000000000 := gb (Rp.kp_postLoop Rp.pre_len hP.gr _ _) e6 HS.out
        have T5 : Ru (Rp.put { k := 11, t := (Rp.nx q1).t, kids := [k1], a := ka }) (Rp.move q1) o q2 := ⟨e5, n2⟩
        have hl : q2.toks.length ≤ f := HSTEP.out q2 (by
          have h2 := Rp.pre_dn.put { k := 11, t := (Rp.nx q1).t, kids := [k1], a := ka } (Rp.move q1)
          rw [e5] at h2
          exact Rp.pre_dn.trans (Rp.pre_dn.move q1) h2) rfl
        have HEND : Hid (∀ nv9 W, RS src F base B (dep + 1) q2 nv9 W → Chg B nv nv9 w W → PoL src F base B (dep + 1) L nv w W f o q2 r s') := fun nv9 W h1 h2 => ⟨⟨nv9, h1, h2⟩, ⟨e6, hl⟩, fun _ => by
          have h3 : (Rp.put { k := 11, t := (Rp.nx q1).t, kids := [k1], a := ka } (Rp.move q1)).1 < (Rp.put { k := 11, t := (Rp.nx q1).t, kids := [k1], a := ka } (Rp.move q1)).2.nodes.length := Rp.put_ix' _ _
          rw [e5] at h3; exact h3⟩
        have HMV : Hid (∀ (F' : Nat → Prop) W nv1, RS src F' base B (dep + 1) q1 nv1 W → Calls Tryz.prog 63 #[.pointer (some ⟨B, 0, none⟩)] W (Tells src F' base B (dep + 1) nv1 W (Rp.move q1) (.tuple #[]))) := fun F' W nv1 hW => move_any hW (by omega) (by omega)
        clear hw HQ1 HSTEP HG nq1 HKA e5 e6 n2 hl
        generalize Rp.move q1 = qm at *
        rcases hk with hk | hk
        all_goals
          go_wp2_with fail
          refine Calls.mono (c_has T1 HR3.out) ?_
          rintro e w5 ⟨rfl, nv5, hr5, hc5⟩
          clear c0 c1 c2 c3 c4 c5 c7 c9 cf hlt hgn hpl
          obtain ⟨c0, c1, c2, c3, c4, c5, c7, c9, cf, hlt⟩ := hr5.cl
          have HMR : Hid (_) := fun o => hr5.more o
          have HC5 : Hid (_) := fun o => (HC3.out.trans hc5).trans (Chg.below nv5 (Below.alloc (Below.refl w5.heap.size w5) (Nat.le_refl _) o))
          rw [hk] at c1
          clear hr5 hc5 HR3 HC3 T1
          generalize Rp.nx q1 = T at *
          go_wp2_with fail
          refine Calls.mono (HMV.out _ _ _ (HMR.out _)) ?_
          rintro e w6 ⟨rfl, nv6, hr6, hc6⟩
          have hX := ((HMR.out _).keepF hc6 (.inr rfl)).trans (heap_alloc_new w5 _ 34)
          have yl : w5.heap.size < w6.heap.size := Nat.lt_of_not_le fun hg => by rw [Array.getElem?_eq_none hg] at hX; cases hX
          have y1 : w6.cell? ⟨w5.heap.size, 1, none⟩ = some (.string ⟨T.t.toArray⟩) := by simp [World.cell?, hX]
          have HR6 : Hid (_) := hr6
          have HC6 : Hid (_) := (HC5.out _).trans hc6
          clear c0 c1 c2 c3 c4 c5 c7 c9 cf hlt hX hr6 hc6 HMR HC5 HMV
          go_wp2_with fail
          refine Calls.mono (c_putB (k := 11) (n := 0) (t := T.t) (K := [k1]) (a := ka) T5 (HR6.out.less (F' := F) (fun k hk => .inl hk)) #[.int .i64 (k1 : Int)] 1 rfl (fun j hj => by
            have : j = 0 := by simpa using hj
            subst this; rfl) (Below.refl _ _)) ?_
          rintro e w10 ⟨rfl, nv10, hr10, hc10⟩
          have HEN : Hid (_) := HEND.out _ _ hr10 (HC6.out.trans hc10)
          clear hr10 hc10 yl y1
          go_wp2_with fail
          go_roundg f
          case rel => exact ⟨o, q2, rfl, HEN.out⟩
          case measure => omega
end
end Go.Proofs.YtpjmapoiinjakaaGreatDoor.Rd
end
