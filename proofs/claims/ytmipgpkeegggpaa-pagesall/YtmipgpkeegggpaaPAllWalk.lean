-- PROVED: PagesAll, walked.
import Derived.Test.YtmipgpkeegggpaaPAsk
import Derived.Deep.RegionHeld3
namespace Go.Proofs.Ytmipgpkeegggpaa.P
open Go.RowKit
set_option linter.unusedVariables false
/-- The document's first book. -/
def rb0 : Rb := ⟨[], [], false, .slice none 0 0, .slice none 0 0⟩
theorem pa_new {base : Nat} {w : World} {b : Bk} {A F : Nat} (hs : Sys base w [b]) (hf : Fresh b A F) :
    PA base (((w.alloc (.cells #[.pointer (some ⟨A, 0, none⟩)] 50)).alloc (.cells #[.slice none 0 0, .slice none 0 0, .bool false] 55)).alloc (.cells #[.slice (some ⟨w.heap.size + 1, 0, none⟩) 1 1, .int .i64 0] 58)) (w.heap.size + 2) F (.slice (some ⟨w.heap.size, 0, none⟩) 1 1) 0 [b] [rb0] 0 := by
  have b1 : Below w.heap.size w (w.alloc (.cells #[.pointer (some ⟨A, 0, none⟩)] 50)) := (Below.refl _ _).alloc (Nat.le_refl _) _
  have b2 : Below w.heap.size w ((w.alloc (.cells #[.pointer (some ⟨A, 0, none⟩)] 50)).alloc (.cells #[.slice none 0 0, .slice none 0 0, .bool false] 55)) := b1.alloc b1.size _
  have b3 : Below w.heap.size w (((w.alloc (.cells #[.pointer (some ⟨A, 0, none⟩)] 50)).alloc (.cells #[.slice none 0 0, .slice none 0 0, .bool false] 55)).alloc (.cells #[.slice (some ⟨w.heap.size + 1, 0, none⟩) 1 1, .int .i64 0] 58)) := b2.alloc b2.size _
  have hbk := Bks.one (base := base) (w := w) hs.size A
  have k1 : Below (w.alloc (.cells #[.pointer (some ⟨A, 0, none⟩)] 50)).heap.size (w.alloc (.cells #[.pointer (some ⟨A, 0, none⟩)] 50)) (((w.alloc (.cells #[.pointer (some ⟨A, 0, none⟩)] 50)).alloc (.cells #[.slice none 0 0, .slice none 0 0, .bool false] 55)).alloc (.cells #[.slice (some ⟨w.heap.size + 1, 0, none⟩) 1 1, .int .i64 0] 58)) := ((Below.refl _ _).alloc (Nat.le_refl _) _).alloc (by simp) _
  have e2 := heap_alloc_new (w.alloc (.cells #[.pointer (some ⟨A, 0, none⟩)] 50)) (.cells #[.slice none 0 0, .slice none 0 0, .bool false] 55)
  have e2' := (Below.heap_alloc ((w.alloc (.cells #[.pointer (some ⟨A, 0, none⟩)] 50)).alloc (.cells #[.slice none 0 0, .slice none 0 0, .bool false] 55)) (.cells #[.slice (some ⟨w.heap.size + 1, 0, none⟩) 1 1, .int .i64 0] 58) _ (heap_lt e2)).trans e2
  have e3 := heap_alloc_new ((w.alloc (.cells #[.pointer (some ⟨A, 0, none⟩)] 50)).alloc (.cells #[.slice none 0 0, .slice none 0 0, .bool false] 55)) (.cells #[.slice (some ⟨w.heap.size + 1, 0, none⟩) 1 1, .int .i64 0] 58)
  have hsz := hs.size
  refine ⟨hs.below b3, ⟨by omega, ⟨_, by simpa using e3, rfl, .inr ⟨w.heap.size + 1, 1, _, rfl, by omega, by simpa using e2', Nat.le_refl _, by unfold maxLen; omega, rfl, rfl⟩⟩, fun i r hr => ?_, by simp⟩, ?_, ⟨rfl, fun i b' r hb hr => ?_, ?_, ?_⟩, by simp, Nat.le_refl _, fun i b' hb => ?_⟩
  · match i, hr with
    | 0, hr =>
      cases hr
      exact ⟨Cells.nil _ _, Ints.nil _ _, by simp [rb0], by simp [rb0]⟩
  · show Bks base _ _ [b.at_]
    rw [hf.at_]
    exact hbk.keep (S := []) (keepB (Nat.le_trans hsz b1.size) k1) (by simp)
  · match i, hb, hr with
    | 0, hb, hr =>
      cases hb; cases hr
      exact ⟨hf.fam, by rw [hf.opn]; rfl, by rw [hf.len]; rfl, fun k hk => by rw [hf.len] at hk; omega, by rw [hf.pgs]; rfl⟩
  · rintro p x q y ⟨i, b', r, k, hb, hr, hp, hx⟩
    match i, hb, hr with
    | 0, hb, hr => cases hb; rw [hf.pgs] at hp; simp at hp
  · rintro p x ⟨i, b', r, k, hb, hr, hp, hx⟩
    match i, hb, hr with
    | 0, hb, hr => cases hb; rw [hf.pgs] at hp; simp at hp
  · match i, hb with
    | 0, hb => cases hb; rw [hf.len]; exact Nat.le_refl _
theorem PA.form {base fB F t nx : Nat} {w : World} {vB : Value} {bs : List Bk} {rs : List Rb} (h : PA base w fB F vB t bs rs nx) : ∃ a c, vB = .slice a bs.length c := by
  obtain ⟨a, c, e⟩ := h.bks.form
  exact ⟨a, c, by rw [e, List.length_map]⟩
theorem PA.at_ {base fB F t nx : Nat} {w : World} {vb : Option Addr} {vc : Nat} {bs : List Bk} {rs : List Rb} (h : PA base w fB F (.slice vb bs.length vc) t bs rs nx) {i : Nat} (hi : i < bs.length) : ∃ g, vb = some ⟨g, 0, none⟩ ∧ g < w.heap.size ∧ w.cell? ⟨g, i, none⟩ = some (.pointer (some ⟨bs[i].at_, 0, none⟩)) := by
  obtain ⟨g, cap, e, h1, h2, h3, h4, h5⟩ := h.bks.at_ (j := i) (a := bs[i].at_) (by rw [List.getElem?_map, List.getElem?_eq_getElem hi]; rfl)
  injection e with e _ _
  exact ⟨g, e, h4, h5⟩
theorem IsAsks.at_ {w : World} {ad : Option Addr} {cap : Nat} {L : List Ak} (h : IsAsks w ad L.length cap L) {t : Nat} (ht : t < L.length) : ∃ b off aK kK aV kV, ad = some ⟨b, off, none⟩ ∧ b < w.heap.size ∧ ∀ wr, Below w.heap.size w wr →
    (wr.cell? ⟨b, off + t * 8, none⟩ = some (.int .i64 L[t].do_) ∧ wr.cell? ⟨b, off + t * 8 + 1, none⟩ = some (.int .i64 L[t].book) ∧ wr.cell? ⟨b, off + t * 8 + 2, none⟩ = some (.int .i64 L[t].at_) ∧ wr.cell? ⟨b, off + t * 8 + 3, none⟩ = some (.int .i64 L[t].cell.kind) ∧ wr.cell? ⟨b, off + t * 8 + 4, none⟩ = some (.int .i64 L[t].cell.a) ∧ wr.cell? ⟨b, off + t * 8 + 5, none⟩ = some (.int .i64 L[t].cell.b) ∧ wr.cell? ⟨b, off + t * 8 + 6, none⟩ = some (.slice aK L[t].cell.keys.length kK) ∧ wr.cell? ⟨b, off + t * 8 + 7, none⟩ = some (.slice aV L[t].cell.vals.length kV)) ∧
    (L[t].cell.keys.length ≤ 1000 → L[t].cell.vals.length ≤ 1000 → Parts w.heap.size wr (.slice aK L[t].cell.keys.length kK) (.slice aV L[t].cell.vals.length kV) L[t].cell) := by
  obtain ⟨_, _, _, h4⟩ := h
  obtain ⟨b, off, rfl, h5, h6⟩ := h4.resolve_left (by omega)
  obtain ⟨vK, vV, c0, c1, c2, c3, c4, c5, c6, c7, t1, t2⟩ := h6 t ht
  obtain ⟨aK, kK, rfl, -⟩ := id t1
  obtain ⟨aV, kV, rfl, -⟩ := id t2
  refine ⟨b, off, aK, kK, aV, kV, rfl, h5, fun wr hb => ?_⟩
  have e : ∀ i, wr.cell? ⟨b, i, none⟩ = w.cell? ⟨b, i, none⟩ := fun i => hb.cell h5
  have kk : Keep [] w.heap.size w wr := keepB (Nat.le_refl _) hb
  exact ⟨⟨by rw [e, c0], by rw [e, c1], by rw [e, c2], by rw [e, c3], by rw [e, c4], by rw [e, c5], by rw [e, c6], by rw [e, c7]⟩, fun h1 h2 => ⟨t1.keep kk (by simp), t2.keep kk (by simp), h1, h2⟩⟩
theorem blk8 {w : World} {b : Nat} {x0 x1 x2 x3 x4 x5 x6 x7 : Value} {t : TypeId} (h : w.heap[b]? = some (.cells #[x0, x1, x2, x3, x4, x5, x6, x7] t)) :
    w.cell? ⟨b, 0, none⟩ = some x0 ∧ w.cell? ⟨b, 1, none⟩ = some x1 ∧ w.cell? ⟨b, 2, none⟩ = some x2 ∧ w.cell? ⟨b, 3, none⟩ = some x3 ∧ w.cell? ⟨b, 4, none⟩ = some x4 ∧ w.cell? ⟨b, 5, none⟩ = some x5 ∧ w.cell? ⟨b, 6, none⟩ = some x6 ∧ w.cell? ⟨b, 7, none⟩ = some x7 ∧ b < w.heap.size := by
  refine ⟨?_, ?_, ?_, ?_, ?_, ?_, ?_, ?_, heap_lt h⟩ <;> simp [World.cell?, h]
/-- An ask that was put down. -/
def AskS (aB : Nat) (x1 x2 x3 x4 x5 x6 x7 : Value) (W : World) : Prop := W.cell? ⟨aB, 1, none⟩ = some x1 ∧ W.cell? ⟨aB, 2, none⟩ = some x2 ∧ W.cell? ⟨aB, 3, none⟩ = some x3 ∧ W.cell? ⟨aB, 4, none⟩ = some x4 ∧ W.cell? ⟨aB, 5, none⟩ = some x5 ∧ W.cell? ⟨aB, 6, none⟩ = some x6 ∧ W.cell? ⟨aB, 7, none⟩ = some x7
theorem AskS.of {aB : Nat} {x0 x1 x2 x3 x4 x5 x6 x7 : Value} {W : World} (h : W.heap[aB]? = some (.cells #[x0, x1, x2, x3, x4, x5, x6, x7] 60 (0, 0))) : AskS aB x1 x2 x3 x4 x5 x6 x7 W := by
  obtain ⟨a0, a1, a2, a3, a4, a5, a6, a7, la⟩ := blk8 h
  exact ⟨a1, a2, a3, a4, a5, a6, a7⟩
theorem AskS.drew {aB : Nat} {x1 x2 x3 x4 x5 x6 x7 : Value} {W : World} (h : AskS aB x1 x2 x3 x4 x5 x6 x7 W) : AskS aB x1 x2 x3 x4 x5 x6 x7 W.drew := h
set_option maxRecDepth 100000 in
set_option maxHeartbeats 8000000 in
theorem pall_walk (al : Option Addr) (ll cl : Nat) (L : List Ak) (w : World) (hl : IsAsks w al ll cl L) :
    Calls Try.prog 8 #[.slice al ll cl] w fun e w' => e = .returned (.bool true) ∧ Below w.heap.size w w' := by
  obtain rfl := hl.1
  have hlm : L.length ≤ maxLen := Nat.le_trans hl.2.1 hl.2.2.1
  unfold maxLen at hlm
  have HL : Hid (IsAsks w al L.length cl L) := hl
  clear hl
  by_cases hA : L.length > 80
  · have hA' : (L.length : Int) > 80 := by omega
    go_enter Try.func8, Try.ntmps8
    go_wp2_with (first | (go_at_call 24; refine Calls.mono (awake_any _) ?_; rintro e w12 ⟨rfl, HB12⟩))
    go_ret
    exact ⟨rfl, HB12⟩
  · have hA' : ¬ (L.length : Int) > 80 := by omega
    go_enter Try.func8, Try.ntmps8
    go_wp2_with fail
    refine Calls.mono (new_p (sys_nil w) (by simp)) ?_
    rintro e w1 ⟨rfl, b, HS1, HF1, HB1⟩
    have hpa := pa_new HS1.out HF1.out
    generalize hA0 : w.heap.size + 1 = A at *
    have HPA : Hid (PA w.heap.size (((w1.alloc (.cells #[.pointer (some ⟨A, 0, none⟩)] 50)).alloc (.cells #[.slice none 0 0, .slice none 0 0, .bool false] 55)).alloc (.cells #[.slice (some ⟨w1.heap.size + 1, 0, none⟩) 1 1, .int .i64 0] 58)) (w1.heap.size + 2) w.heap.size (.slice (some ⟨w1.heap.size, 0, none⟩) 1 1) 0 [b] [rb0] 0) := hpa
    have HB4 : Hid (Below w.heap.size w (((w1.alloc (.cells #[.pointer (some ⟨A, 0, none⟩)] 50)).alloc (.cells #[.slice none 0 0, .slice none 0 0, .bool false] 55)).alloc (.cells #[.slice (some ⟨w1.heap.size + 1, 0, none⟩) 1 1, .int .i64 0] 58))) := ((HB1.out.alloc HB1.out.size _).alloc (by simp; have := HB1.out.size; omega) _).alloc (by simp; have := HB1.out.size; omega) _
    clear hpa HS1 HF1 HB1 hA0
    go_upto_region 8 with fail
    generalize (((w1.alloc (.cells #[.pointer (some ⟨A, 0, none⟩)] 50)).alloc (.cells #[.slice none 0 0, .slice none 0 0, .bool false] 55)).alloc (.cells #[.slice (some ⟨w1.heap.size + 1, 0, none⟩) 1 1, .int .i64 0] 58)) = w4 at *
    generalize w1.heap.size + 2 = fB at *
    go_wp2_with fail
    go_loopw [4, 6] (fun vB i wr => ∃ (t : Nat) (bs : List Bk) (rs : List Rb) (nx : Nat), i = .int .i64 (t : Int) ∧ t ≤ L.length ∧ Hid (PA w.heap.size wr fB w.heap.size vB t bs rs nx) ∧ Hid (Below w.heap.size w wr)) (fun _ i _ => L.length - (intOf i).toNat)
    case atStart => exact ⟨0, _, _, _, rfl, by omega, HPA, HB4⟩
    case round =>
      clear HPA HB4
      obtain ⟨t, bs, rs, nx, rfl, ht, HPA, HB⟩ := hrel
      obtain ⟨vb, vc, rfl⟩ := HPA.out.form
      have hfew := HPA.out.few
      by_cases hlt : t < L.length
      · have hlt' : (t : Int) < (L.length : Int) := by omega
        obtain ⟨lb, off, aK, kK, aV, kV, rfl, hb0, hcs⟩ := HL.out.at_ hlt
        obtain ⟨⟨c0, c1, c2, c3, c4, c5, c6, c7⟩, hP⟩ := hcs wr HB.out
        have lc := Nat.lt_of_lt_of_le hb0 HB.out.size
        clear hcs hb0
        generalize L[t] = ak at *
        obtain ⟨d, bk, at_, c⟩ := ak
        simp only at c0 c1 c2 c3 c4 c5 c6 c7 hP
        have k1 : Below wr.heap.size wr (wr.alloc (.cells #[.int .i64 d, .int .i64 bk, .int .i64 at_, .int .i64 c.kind, .int .i64 c.a, .int .i64 c.b, .slice aK c.keys.length kK, .slice aV c.vals.length kV] 60)) := (Below.refl _ _).alloc (Nat.le_refl _) _
        have HPA1 : Hid (PA w.heap.size (wr.alloc (.cells #[.int .i64 d, .int .i64 bk, .int .i64 at_, .int .i64 c.kind, .int .i64 c.a, .int .i64 c.b, .slice aK c.keys.length kK, .slice aV c.vals.length kV] 60)) fB w.heap.size (.slice vb bs.length vc) t bs rs nx) := HPA.out.below k1
        have HB1 : Hid (Below w.heap.size w (wr.alloc (.cells #[.int .i64 d, .int .i64 bk, .int .i64 at_, .int .i64 c.kind, .int .i64 c.a, .int .i64 c.b, .slice aK c.keys.length kK, .slice aV c.vals.length kV] 60))) := Below.chain HB.out k1 HB.out.size
        have HX1 : Hid ((wr.alloc (.cells #[.int .i64 d, .int .i64 bk, .int .i64 at_, .int .i64 c.kind, .int .i64 c.a, .int .i64 c.b, .slice aK c.keys.length kK, .slice aV c.vals.length kV] 60)).heap[wr.heap.size]? = some (.cells #[.int .i64 d, .int .i64 bk, .int .i64 at_, .int .i64 c.kind, .int .i64 c.a, .int .i64 c.b, .slice aK c.keys.length kK, .slice aV c.vals.length kV] 60 (0, 0))) := heap_alloc_new _ _
        have HP1 : Hid (c.keys.length ≤ 5 → c.vals.length ≤ 9 → Parts w.heap.size (wr.alloc (.cells #[.int .i64 d, .int .i64 bk, .int .i64 at_, .int .i64 c.kind, .int .i64 c.a, .int .i64 c.b, .slice aK c.keys.length kK, .slice aV c.vals.length kV] 60)) (.slice aK c.keys.length kK) (.slice aV c.vals.length kV) c) := fun h1 h2 => (hP (by omega) (by omega)).keep (S := []) (keepB HB.out.size k1) (by simp)
        clear hP k1
        by_cases hv : c.keys.length > 5
        · have hv' : (c.keys.length : Int) > 5 := by omega
          go_wp2_with (first | (go_at_call 24; refine Calls.mono (awake_any _) ?_; rintro e w12 ⟨rfl, HB12⟩))
          go_ret
          exact ⟨rfl, Below.chain HB1.out HB12 HB1.out.size⟩
        · have hv' : ¬ (c.keys.length : Int) > 5 := by omega
          by_cases hv2 : c.vals.length > 9
          · have hv2' : (c.vals.length : Int) > 9 := by omega
            go_wp2_with (first | (go_at_call 24; refine Calls.mono (awake_any _) ?_; rintro e w12 ⟨rfl, HB12⟩))
            go_ret
            exact ⟨rfl, Below.chain HB1.out HB12 HB1.out.size⟩
          · have hv2' : ¬ (c.vals.length : Int) > 9 := by omega
            by_cases hbk : 0 ≤ bk ∧ bk < (bs.length : Int)
            · obtain ⟨hbk1, hbk2⟩ := hbk
              obtain ⟨i, rfl⟩ := Int.eq_ofNat_of_zero_le hbk1
              have hi : i < bs.length := by omega
              have hbi := List.getElem?_eq_getElem hi
              obtain ⟨g, rfl, lg, hgc⟩ := HPA1.out.at_ hi
              have HBI : Hid (bs[i]? = some bs[i]) := hbi
              have HP2 : Hid (Parts w.heap.size _ (.slice aK c.keys.length kK) (.slice aV c.vals.length kV) c) := HP1.out (by omega) (by omega)
              clear HPA HB HP1 hbi hv hv2 hbk1 HL
              generalize bs[i] = b at *
              go_upto_region 16 with fail
              generalize (wr.alloc (.cells #[.int .i64 d, .int .i64 (i : Int), .int .i64 at_, .int .i64 c.kind, .int .i64 c.a, .int .i64 c.b, .slice aK c.keys.length kK, .slice aV c.vals.length kV] 60)) = wa at *
              generalize wr.heap.size = aB at *
              clear c0 c1 c2 c3 c4 c5 c6 c7 lc lg hgc
              obtain ⟨a0, a1, a2, a3, a4, a5, a6, a7, la⟩ := blk8 HX1.out
              go_upto_block 2 with fail
              go_cut [4] (fun vB' wx => ∃ (bs' : List Bk) (rs' : List Rb) (nx' : Nat), Hid (PA w.heap.size wx fB w.heap.size vB' (t + 1) bs' rs' nx') ∧ Hid (Below w.heap.size w wx))
              case first =>
                by_cases hd : d = 0 ∨ d = 1 ∨ d = 2
                · cases ho : b.opn with
                  | true =>
                    have HAd : Hid (_) := pa_add HPA1.out (by omega) HBI.out ho HP2.out
                    have HBL : Hid (b.len ≤ 4096) := (HPA1.out.sys.ok i b HBI.out).1
                    clear HPA1 HP2 ho
                    rcases hd with rfl | rfl | rfl
                    all_goals
                      as_aux_lemma =>
                        go_wp2_with fail
                        refine Calls.mono HAd.out ?_
                        rintro e w2 ⟨rfl, HK2, HR2⟩
                        have hx2 := (HK2.out.same _ _ _ _ HX1.out (by simp [Four])).trans HX1.out
                        clear a0 a1 a2 a3 a4 a5 a6 a7 la
                        obtain ⟨a0, a1, a2, a3, a4, a5, a6, a7, la⟩ := blk8 hx2
                        have HX2 : Hid (_) := hx2
                        clear hx2 HX1 HAd
                        go_wp2_with fail
                        refine Calls.mono HR2.out ?_
                        rintro e w3 ⟨rfl, HPX, HK3⟩
                        have hx3 := (HK3.out.same _ _ _ _ HX2.out (by simp)).trans HX2.out
                        clear a0 a1 a2 a3 a4 a5 a6 a7 la
                        obtain ⟨a0, a1, a2, a3, a4, a5, a6, a7, la⟩ := blk8 hx3
                        clear hx3 HX2 HR2
                        obtain ⟨bs', rs', nx', r', hpa, hr', hlen'⟩ := HPX.out
                        have HPA3 : Hid (PA w.heap.size w3 fB w.heap.size _ (t + 1) bs' rs' nx') := hpa
                        have HB3 : Hid (Below w.heap.size w w3) := (HB1.out.trans HK2.out.bel).trans HK3.out.bel
                        obtain ⟨gf, capf, f0, -, lf, -, -, hil, hcapf, -, lgf, g0, -, -, -, -, -⟩ := hpa.fam.at_ hr'
                        obtain ⟨ra, rc, er, -⟩ := (hpa.fam.book i r' hr').1
                        rw [er, hlen'] at g0
                        have hbl : b.len ≤ 4096 := HBL.out
                        clear hpa er hlen' hr' HPX HK2 HK3
                        have hil' : (i : Int) < (rs'.length : Int) := by omega
                        generalize b.len = n at *
                        generalize rs'.length = nrs at *
                        go_upto_region 22 with fail
                        go_quiet (exact Calls.quiet_of_same (err_any _ _))
                        go_wp2_with fail
                        go_meet
                        case rel => exact ⟨bs', rs', nx', HPA3.out.below (below_drewN (Below.refl _ _) _), below_drewN HB3.out _⟩
                  | false =>
                    have HAd : Hid (_) := pa_add_no HPA1.out HBI.out ho HP2.out
                    clear HPA1 HP2 ho
                    rcases hd with rfl | rfl | rfl
                    all_goals
                      as_aux_lemma =>
                        go_wp2_with fail
                        refine Calls.mono HAd.out ?_
                        rintro e w2 ⟨rfl, HK2, HR2⟩
                        have hx2 := (HK2.out.block _ (heap_lt HX1.out)).trans HX1.out
                        clear a0 a1 a2 a3 a4 a5 a6 a7 la
                        obtain ⟨a0, a1, a2, a3, a4, a5, a6, a7, la⟩ := blk8 hx2
                        clear hx2 HX1 HAd
                        go_wp2_with fail
                        refine Calls.mono HR2.out ?_
                        rintro e w3 ⟨rfl, HPX, HK3⟩
                        have HPA3 : Hid (PA w.heap.size w3 fB w.heap.size _ (t + 1) bs rs nx) := HPX.out.more (by omega)
                        have HB3 : Hid (Below w.heap.size w w3) := Below.chain (Below.chain HB1.out HK2.out HB1.out.size) HK3.out (Nat.le_trans HB1.out.size HK2.out.size)
                        clear a0 a1 a2 a3 a4 a5 a6 a7 la HR2 HPX HK2 HK3
                        go_upto_region 22 with fail
                        go_quiet (exact Calls.quiet_of_same (err_any _ _))
                        go_wp2_with fail
                        go_meet
                        case rel => exact ⟨bs, rs, nx, HPA3.out.below (below_drewN (Below.refl _ _) _), below_drewN HB3.out _⟩
                · by_cases hd3 : d = 3 ∨ d = 4
                  · have hd0 : (d == 0) = false ∧ (d == 1) = false ∧ (d == 2) = false := by simp; omega
                    obtain ⟨hn0, hn1, hn2⟩ := hd0
                    have hS0 : AskS aB (.int .i64 (i : Int)) (.int .i64 at_) (.int .i64 c.kind) (.int .i64 c.a) (.int .i64 c.b) (.slice aK c.keys.length kK) (.slice aV c.vals.length kV) wa := AskS.of HX1.out
                    have hd4 : (d == 3) = true ∨ ((d == 3) = false ∧ (d == 4) = true) := by simp; omega
                    by_cases hin : 0 ≤ at_ ∧ at_ < (b.len : Int)
                    · obtain ⟨hin1, hin2⟩ := hin
                      obtain ⟨k, rfl⟩ := Int.eq_ofNat_of_zero_le hin1
                      have HSt : Hid (∀ W, Below wa.heap.size wa W → Calls Try.prog 28 #[.pointer (some ⟨b.at_, 0, none⟩), .int .i64 (k : Int), .agg #[.int .i64 c.kind, .int .i64 c.a, .int .i64 c.b, .slice aK c.keys.length kK, .slice aV c.vals.length kV]] W fun e w2 => e = .returned (.int .i64 0) ∧ Hid (Keep Four w.heap.size wa w2) ∧
                          Hid (∀ w2', Below w2.heap.size w2 w2' → Calls Try.prog 29 #[.pointer (some ⟨fB, 0, none⟩), .int .i64 (i : Int), .int .i64 (k : Int), .agg #[.int .i64 c.kind, .int .i64 c.a, .int .i64 c.b, .slice aK c.keys.length kK, .slice aV c.vals.length kV]] w2' fun e w3 => e = .returned (.int .i64 0) ∧
                            Hid (∃ bs' rs' nx', PA w.heap.size w3 fB w.heap.size (.slice (some ⟨g, 0, none⟩) bs.length vc) (t + 1) bs' rs' nx') ∧ Hid (Keep [58, 55] w.heap.size w2 w3))) := fun W hW => (pa_set (HPA1.out.below hW) (by omega) HBI.out (k := k) (by omega) (HP2.out.keep (S := []) (keepB HPA1.out.sys.size hW) (by simp))).mono fun e w2 ⟨q1, q2, q3⟩ => ⟨q1, ((keepB HPA1.out.sys.size hW).mono (by simp)).trans q2.out, fun w2' hw => (q3.out w2' hw).mono fun e w3 ⟨p1, p2, p3⟩ => ⟨p1, p2, ((keepB (Nat.le_trans HB1.out.size (Nat.le_trans hW.size q2.out.size)) hw).mono (by simp)).trans p3.out⟩⟩
                      clear HPA1 HP2 hd hd3 a0 a1 a2 a3 a4 a5 a6 a7
                      rcases hd4 with hd4 | ⟨hd4, hd5⟩
                      all_goals
                        as_aux_lemma =>
                          go_upto_region 26 with fail
                          go_region_held3 (fun W => W.cell? ⟨aB, 1, none⟩ = some (.int .i64 (i : Int)) ∧ W.cell? ⟨aB, 2, none⟩ = some (.int .i64 (k : Int)) ∧ W.cell? ⟨aB, 3, none⟩ = some (.int .i64 c.kind) ∧ W.cell? ⟨aB, 4, none⟩ = some (.int .i64 c.a) ∧ W.cell? ⟨aB, 5, none⟩ = some (.int .i64 c.b) ∧ W.cell? ⟨aB, 6, none⟩ = some (.slice aK c.keys.length kK) ∧ W.cell? ⟨aB, 7, none⟩ = some (.slice aV c.vals.length kV)) ((show AskS aB (.int .i64 (i : Int)) (.int .i64 (k : Int)) (.int .i64 c.kind) (.int .i64 c.a) (.int .i64 c.b) (.slice aK c.keys.length kK) (.slice aV c.vals.length kV) _; repeat (first | with_reducible assumption | with_reducible exact hS3 | with_reducible exact hS2 | with_reducible exact hS0 | with_reducible refine AskS.drew ?_))) (first | (go_at_call 28; refine Calls.mono (HSt.out _ (by first | exact Below.refl _ _ | exact (Below.refl _ _).drew | exact (Below.refl _ _).drew.drew)) ?_; rintro e w2 ⟨rfl, HK2, HR2⟩; have hx2 : w2.heap[aB]? = some (.cells #[.int .i64 d, .int .i64 (i : Int), .int .i64 (k : Int), .int .i64 c.kind, .int .i64 c.a, .int .i64 c.b, .slice aK c.keys.length kK, .slice aV c.vals.length kV] 60 (0, 0)) := (HK2.out.same _ _ _ _ HX1.out (by simp [Four])).trans HX1.out; have hS2 : AskS aB (.int .i64 (i : Int)) (.int .i64 (k : Int)) (.int .i64 c.kind) (.int .i64 c.a) (.int .i64 c.b) (.slice aK c.keys.length kK) (.slice aV c.vals.length kV) w2 := AskS.of hx2) | (go_at_call 12; refine Calls.mono (err_any _ _) ?_; rintro e w9 ⟨rfl, rfl⟩) | (go_at_call 29; refine Calls.mono (HR2.out _ (by first | exact Below.refl _ _ | exact (Below.refl _ _).drew | exact (Below.refl _ _).drew.drew)) ?_; rintro e w3 ⟨rfl, HPX, HK3⟩; have hS3 : AskS aB (.int .i64 (i : Int)) (.int .i64 (k : Int)) (.int .i64 c.kind) (.int .i64 c.a) (.int .i64 c.b) (.slice aK c.keys.length kK) (.slice aV c.vals.length kV) w3 := AskS.of ((HK3.out.same _ _ _ _ hx2 (by simp)).trans hx2)))
                          have HB3 : Hid (Below w.heap.size w w3) := (HB1.out.trans HK2.out.bel).trans HK3.out.bel
                          obtain ⟨bs', rs', nx', hpa⟩ := HPX.out
                          have HPA3 : Hid (PA w.heap.size w3 fB w.heap.size _ (t + 1) bs' rs' nx') := hpa
                          clear hpa HPX HR2 HK2 HK3 HSt hS3 hS2 hx2
                          go_wp2_with fail
                          go_meet
                          case rel => exact ⟨bs', rs', nx', HPA3, HB3⟩
                    · have HSt : Hid (∀ W, Below wa.heap.size wa W → Calls Try.prog 28 #[.pointer (some ⟨b.at_, 0, none⟩), .int .i64 at_, .agg #[.int .i64 c.kind, .int .i64 c.a, .int .i64 c.b, .slice aK c.keys.length kK, .slice aV c.vals.length kV]] W fun e w2 => e = .returned (.int .i64 2) ∧ Hid (Below wa.heap.size wa w2) ∧
                          Hid (∀ w2', Below w2.heap.size w2 w2' → Calls Try.prog 29 #[.pointer (some ⟨fB, 0, none⟩), .int .i64 (i : Int), .int .i64 at_, .agg #[.int .i64 c.kind, .int .i64 c.a, .int .i64 c.b, .slice aK c.keys.length kK, .slice aV c.vals.length kV]] w2' fun e w3 => e = .returned (.int .i64 2) ∧
                            Hid (PA w.heap.size w3 fB w.heap.size (.slice (some ⟨g, 0, none⟩) bs.length vc) (t + 1) bs rs nx) ∧ Hid (Below w2.heap.size w2 w3))) := fun W hW => (pa_set_no (HPA1.out.below hW) HBI.out at_ hin (HP2.out.keep (S := []) (keepB HPA1.out.sys.size hW) (by simp))).mono fun e w2 ⟨q1, q2, q3⟩ => ⟨q1, Below.chain hW q2.out hW.size, fun w2' hw => (q3.out w2' hw).mono fun e w3 ⟨p1, p2, p3⟩ => ⟨p1, p2.out.more (by omega), Below.chain hw p3.out hw.size⟩⟩
                      clear HPA1 HP2 hd hd3 hin a0 a1 a2 a3 a4 a5 a6 a7
                      rcases hd4 with hd4 | ⟨hd4, hd5⟩
                      all_goals
                        as_aux_lemma =>
                          go_upto_region 26 with fail
                          go_region_held3 (fun W => W.cell? ⟨aB, 1, none⟩ = some (.int .i64 (i : Int)) ∧ W.cell? ⟨aB, 2, none⟩ = some (.int .i64 at_) ∧ W.cell? ⟨aB, 3, none⟩ = some (.int .i64 c.kind) ∧ W.cell? ⟨aB, 4, none⟩ = some (.int .i64 c.a) ∧ W.cell? ⟨aB, 5, none⟩ = some (.int .i64 c.b) ∧ W.cell? ⟨aB, 6, none⟩ = some (.slice aK c.keys.length kK) ∧ W.cell? ⟨aB, 7, none⟩ = some (.slice aV c.vals.length kV)) ((show AskS aB (.int .i64 (i : Int)) (.int .i64 at_) (.int .i64 c.kind) (.int .i64 c.a) (.int .i64 c.b) (.slice aK c.keys.length kK) (.slice aV c.vals.length kV) _; repeat (first | with_reducible assumption | with_reducible exact hS3 | with_reducible exact hS2 | with_reducible exact hS0 | with_reducible refine AskS.drew ?_))) (first | (go_at_call 28; refine Calls.mono (HSt.out _ (by first | exact Below.refl _ _ | exact (Below.refl _ _).drew | exact (Below.refl _ _).drew.drew)) ?_; rintro e w2 ⟨rfl, HK2, HR2⟩; have hx2 : w2.heap[aB]? = some (.cells #[.int .i64 d, .int .i64 (i : Int), .int .i64 at_, .int .i64 c.kind, .int .i64 c.a, .int .i64 c.b, .slice aK c.keys.length kK, .slice aV c.vals.length kV] 60 (0, 0)) := (HK2.out.block _ (heap_lt HX1.out)).trans HX1.out; have hS2 : AskS aB (.int .i64 (i : Int)) (.int .i64 at_) (.int .i64 c.kind) (.int .i64 c.a) (.int .i64 c.b) (.slice aK c.keys.length kK) (.slice aV c.vals.length kV) w2 := AskS.of hx2) | (go_at_call 12; refine Calls.mono (err_any _ _) ?_; rintro e w9 ⟨rfl, rfl⟩) | (go_at_call 29; refine Calls.mono (HR2.out _ (by first | exact Below.refl _ _ | exact (Below.refl _ _).drew | exact (Below.refl _ _).drew.drew)) ?_; rintro e w3 ⟨rfl, HPX, HK3⟩; have hS3 : AskS aB (.int .i64 (i : Int)) (.int .i64 at_) (.int .i64 c.kind) (.int .i64 c.a) (.int .i64 c.b) (.slice aK c.keys.length kK) (.slice aV c.vals.length kV) w3 := AskS.of ((HK3.out.block _ (heap_lt hx2)).trans hx2)))
                          have HB3 : Hid (Below w.heap.size w w3) := Below.chain (Below.chain HB1.out HK2.out HB1.out.size) HK3.out (Nat.le_trans HB1.out.size HK2.out.size)
                          clear HR2 HK2 HK3 HSt hS3 hS2 hx2
                          go_wp2_with fail
                          go_meet
                          case rel => exact ⟨bs, rs, nx, HPX, HB3⟩
                  · have hd0 : (d == 0) = false ∧ (d == 1) = false ∧ (d == 2) = false ∧ (d == 3) = false ∧ (d == 4) = false := by simp; omega
                    obtain ⟨hn0, hn1, hn2, hn3, hn4⟩ := hd0
                    clear hd hd3
                    by_cases hd5 : d = 5
                    · have hm5 : (d == 5) = true := by simp [hd5]
                      clear hd5
                      by_cases hf6 : bs.length < 6
                      · have hf6' : (bs.length : Int) < 6 := by omega
                        obtain ⟨r, hr, r1, -, -⟩ := HPA1.out.ref HBI.out
                        cases ho : b.opn with
                        | true => as_aux_lemma =>
                            rw [ho] at r1
                            have HMk : Hid (_) := pa_mark HPA1.out hf6 HBI.out ho
                            have HFM : Hid (Fam w.heap.size wa fB rs nx) := HPA1.out.fam
                            have HRR : Hid (rs[i]? = some r) := hr
                            clear HPA1 HP2 ho hr
                            go_wp2_with fail
                            refine Calls.mono HMk.out ?_
                            rintro e w2 ⟨q, rfl, HK2, HX⟩
                            have hx2 := (HK2.out.same _ _ _ _ HX1.out (by simp)).trans HX1.out
                            clear a0 a1 a2 a3 a4 a5 a6 a7 la
                            obtain ⟨a0, a1, a2, a3, a4, a5, a6, a7, la⟩ := blk8 hx2
                            have HX2 : Hid (_) := hx2
                            have hf2 := HFM.out.keep HK2.out (by simp [Mine])
                            obtain ⟨gf, capf, f0, -, lf, -, -, hil, hcapf, -, lgf, -, -, g2, -, -, -⟩ := hf2.at_ HRR.out
                            rw [r1] at g2
                            have hil' : (i : Int) < (rs.length : Int) := by omega
                            have hrs : rs.length ≤ 1000 := hf2.few
                            clear hx2 hf2 HX1 HMk HFM HRR r1
                            go_upto_region 31 with fail
                            go_quiet (fail)
                            obtain ⟨a3', cap3, w3, hrun, hk3, hcall⟩ := HX.out _ (below_drewN (Below.refl _ _) nq)
                            have HRU : Hid (_) := hrun
                            have HCL : Hid (_) := hcall
                            have hx3 := (hk3.same _ _ _ _ (show (w2.drewN nq).heap[aB]? = _ from HX2.out) (by simp)).trans (show (w2.drewN nq).heap[aB]? = _ from HX2.out)
                            have HB3 : Hid (Below w.heap.size w w3) := (below_drewN (HB1.out.trans HK2.out.bel) nq).trans hk3.bel
                            clear hrun hcall hk3 a0 a1 a2 a3 a4 a5 a6 a7 la f0 lf lgf g2 HX
                            go_upto_region 37 with (at_builtin; refine wpList_append_run _ _ 52 rfl rfl _ _ _ _ rfl rfl HRU.out ?_)
                            obtain ⟨a0, a1, a2, a3, a4, a5, a6, a7, la⟩ := blk8 hx3
                            clear hx3 HRU
                            go_wp2_with fail
                            refine Calls.mono HCL.out ?_
                            rintro e w4 ⟨rfl, HPX, HK4⟩
                            obtain ⟨bs', rs', nx', hpa, -⟩ := HPX.out
                            have HPA4 : Hid (PA w.heap.size w4 fB w.heap.size _ (t + 1) bs' rs' nx') := hpa
                            have HB4 : Hid (Below w.heap.size w w4) := HB3.out.trans HK4.out.bel
                            clear hpa HPX HCL HK4 HB3
                            go_wp2_with fail
                            go_meet
                            case rel => exact ⟨bs', rs', nx', HPA4, HB4⟩
                        | false => as_aux_lemma =>
                            rw [ho] at r1
                            have HMk : Hid (_) := mark_closed HPA1.out.sys HBI.out rfl ho
                            obtain ⟨gf, capf, f0, -, lf, -, -, hil, hcapf, -, lgf, -, -, g2, -, -, -⟩ := HPA1.out.fam.at_ hr
                            rw [r1] at g2
                            have hil' : (i : Int) < (rs.length : Int) := by omega
                            have hrs : rs.length ≤ 1000 := HPA1.out.fam.few
                            have HPA3 : Hid (PA w.heap.size wa fB w.heap.size _ (t + 1) bs rs nx) := HPA1.out.more (by omega)
                            clear HPA1 HP2 ho hr r1
                            go_wp2_with fail
                            refine Calls.mono HMk.out ?_
                            rintro e w9 ⟨rfl, rfl⟩
                            clear HMk
                            go_upto_region 31 with fail
                            go_quiet (fail)
                            go_wp2_with fail
                            go_meet
                            case rel => exact ⟨bs, rs, nx, HPA3.out.below (below_drewN (Below.refl _ _) _), below_drewN HB1.out _⟩
                      · have hf6' : ¬ (bs.length : Int) < 6 := by omega
                        have HPA3 : Hid (PA w.heap.size wa fB w.heap.size _ (t + 1) bs rs nx) := HPA1.out.more (by omega)
                        clear HPA1 HP2
                        go_wp2_with fail
                        go_meet
                        case rel => exact ⟨bs, rs, nx, HPA3, HB1⟩
                    · have hn5 : (d == 5) = false := by simp [hd5]
                      clear hd5
                      by_cases hd6 : d = 6
                      · have hm6 : (d == 6) = true := by simp [hd6]
                        clear hd6
                        have HDr : Hid (_) := pa_drop HPA1.out HBI.out
                        clear HPA1 HP2
                        go_wp2_with fail
                        refine Calls.mono HDr.out ?_
                        rintro e w2 ⟨rfl, HK2, HR2⟩
                        have hx2 := (HK2.out.same _ _ _ _ HX1.out (by simp [Four])).trans HX1.out
                        clear a0 a1 a2 a3 a4 a5 a6 a7 la
                        obtain ⟨a0, a1, a2, a3, a4, a5, a6, a7, la⟩ := blk8 hx2
                        clear hx2 HX1 HDr
                        go_wp2_with fail
                        refine Calls.mono HR2.out ?_
                        rintro e w3 ⟨rfl, HPX, HK3⟩
                        obtain ⟨bs', rs', nx', hpa⟩ := HPX.out
                        have HPA3 : Hid (PA w.heap.size w3 fB w.heap.size _ (t + 1) bs' rs' nx') := hpa
                        have HB3 : Hid (Below w.heap.size w w3) := (HB1.out.trans HK2.out.bel).trans HK3.out.bel
                        clear hpa HPX HR2 HK2 HK3
                        go_wp2_with fail
                        go_meet
                        case rel => exact ⟨bs', rs', nx', HPA3, HB3⟩
                      · have hn6 : (d == 6) = false := by simp [hd6]
                        clear hd6
                        have HPA3 : Hid (PA w.heap.size wa fB w.heap.size _ (t + 1) bs rs nx) := HPA1.out.more (by omega)
                        clear HPA1 HP2
                        go_wp2_with fail
                        go_meet
                        case rel => exact ⟨bs, rs, nx, HPA3, HB1⟩
              case rest =>
                clear a0 a1 a2 a3 a4 a5 a6 a7 la HPA1 HP2 HX1 HBI HB1
                obtain ⟨bs', rs', nx', HPA3, HB3⟩ := hcut
                obtain ⟨vb', vc', rfl⟩ := HPA3.out.form
                have HLK : Hid (_) := like_any HPA3.out.sys HPA3.out.fam HPA3.out.bks HPA3.out.sim.alike
                go_wp2_with fail
                refine Calls.mono HLK.out ?_
                rintro e w5 ⟨rfl, hb5⟩
                have HPA5 : Hid (PA _ w5 _ _ _ (t + 1) bs' rs' nx') := HPA3.out.below hb5
                have HB5 : Hid (Below w.heap.size w w5) := Below.chain HB3.out hb5 HB3.out.size
                clear hb5 HLK HPA3 HB3
                go_wp2_with fail
                go_roundw
                case rel => exact ⟨t + 1, bs', rs', nx', by go_num, by omega, HPA5, HB5⟩
                case measure => simp [intOf]; omega
            · have hbk' : bk < 0 ∨ (¬ bk < 0 ∧ bk ≥ (bs.length : Int)) := by omega
              have HPA2 : Hid (PA _ _ _ _ _ (t + 1) _ _ _) := HPA1.out.more (t' := t + 1) (by omega)
              clear hbk HPA HB HP1 HX1 HPA1
              rcases hbk' with hb1 | ⟨hb1, hb2⟩
              all_goals
                go_wp2_with fail
                go_roundw
                case rel => exact ⟨t + 1, bs, rs, nx, by go_num, by omega, HPA2, HB1⟩
                case measure => simp [intOf]; omega
      · have hlt' : ¬ (t : Int) < (L.length : Int) := by omega
        clear HPA HL
        go_wp2_with (first | (go_at_call 24; refine Calls.mono (awake_any _) ?_; rintro e w12 ⟨rfl, HB12⟩))
        go_ret
        exact ⟨rfl, Below.chain HB.out HB12 HB.out.size⟩
end Go.Proofs.Ytmipgpkeegggpaa.P
