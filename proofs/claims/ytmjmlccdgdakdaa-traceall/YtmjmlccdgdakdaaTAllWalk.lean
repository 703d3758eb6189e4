-- PROVED: the walk of 'TraceAll'.
import Derived.Test.YtmjmlccdgdakdaaTRefDec
import Derived.Test.YtmjmlccdgdakdaaTSame
import Derived.Deep.RegionHeld3
namespace Go.Proofs.Ytmjmlccdgdakdaa.T
open Go.RowKit
theorem put_both (r : Tm.Rec) (hf : Tm.fits r) (hs : r.s.length ≤ maxLen) : ∃ (P : ByteArray) (e : Int), (∀ W, Calls Try.prog 9 #[recV r] W fun en w' => en = .returned (.tuple #[.string P, .int .i64 e]) ∧ Below W.heap.size W w') ∧
    ∀ W, Calls Try.prog 10 #[recV r] W fun en w' => en = .returned (.agg #[.string P, .int .i64 0, .int .i64 e]) ∧ Below W.heap.size W w' := by
  cases ho : Tm.ok r with
  | true => exact ⟨_, 0, fun W => put_ok r W hf ho, fun W => rput_ok r W hf ho⟩
  | false => exact ⟨_, 1, fun W => put_no r W hs ho, fun W => rput_no r W hs ho⟩
theorem get_both (s : ByteArray) (hs : s.size ≤ 1000000) : ∃ (a k n : Int) (T : ByteArray) (e : Int), (∀ W, Calls Try.prog 14 #[.string s] W fun en w' => en = .returned (.tuple #[.agg #[.int .i64 a, .int .i64 k, .int .i64 n, .string T], .int .i64 e]) ∧ Below W.heap.size W w') ∧
    ∀ W, Calls Try.prog 15 #[.string s] W fun en w' => en = .returned (.agg #[.int .i64 a, .int .i64 k, .int .i64 n, .string T, .int .i64 e]) ∧ Below W.heap.size W w' := by
  cases h : Tm.is s.data.toList with
  | true => exact ⟨_, _, _, _, 0, fun W => get_yes s W (by unfold maxLen; omega) h, fun W => rget_yes s W hs h⟩
  | false => exact ⟨0, 0, 0, ⟨#[]⟩, 4, fun W => get_no s W (by unfold maxLen; omega) h, fun W => rget_no s W hs h⟩
/-- The record's input, and what the reference says of the record. -/
def Held10 (w : World) (b o bx : Nat) (k n : Int) (s P : ByteArray) (e : Int) (W : World) : Prop :=
  W.cell? ⟨b, o + 1, none⟩ = some (.int .i64 k) ∧ W.cell? ⟨b, o + 1 + 1, none⟩ = some (.int .i64 n) ∧ W.cell? ⟨b, o + 1 + 2, none⟩ = some (.string s) ∧ W.cell? ⟨bx, 0, none⟩ = some (.string P) ∧ W.cell? ⟨bx, 2, none⟩ = some (.int .i64 e) ∧
  Hid (Below w.heap.size w W) ∧ Hid (b < W.heap.size) ∧ Hid (bx < W.heap.size)
theorem Held10.go {w : World} {b o bx : Nat} {k n : Int} {s P : ByteArray} {e : Int} {W W' : World} (h : Held10 w b o bx k n s P e W) (hb : Below W.heap.size W W') : Held10 w b o bx k n s P e W' := by
  obtain ⟨h1, h2, h3, h4, h5, h6, h7, h8⟩ := h
  exact ⟨(hb.cell (p := ⟨b, o + 1, none⟩) h7.out).trans h1, (hb.cell (p := ⟨b, o + 1 + 1, none⟩) h7.out).trans h2, (hb.cell (p := ⟨b, o + 1 + 2, none⟩) h7.out).trans h3, (hb.cell (p := ⟨bx, 0, none⟩) h8.out).trans h4, (hb.cell (p := ⟨bx, 2, none⟩) h8.out).trans h5, C.below_chain h6.out hb, Nat.lt_of_lt_of_le h7.out hb.size, Nat.lt_of_lt_of_le h8.out hb.size⟩
theorem Held10.drew {w : World} {b o bx : Nat} {k n : Int} {s P : ByteArray} {e : Int} {W : World} (h : Held10 w b o bx k n s P e W) : Held10 w b o bx k n s P e W.drew := h.go (Below.refl _ _).drew
def Held18 (w : World) (b1 b2 b3 b4 : Nat) (g0 g1 g2 : Int) (g3 : ByteArray) (g4 : Int) (SS : ByteArray) (EE : Nat) (aM aZ : Option Addr) (cZ : Nat) (us er : Nat) (R : List Tm.Rec) (W : World) : Prop :=
  W.cell? ⟨b1, 0, none⟩ = some (.int .i64 g0) ∧ W.cell? ⟨b1, 1, none⟩ = some (.int .i64 g1) ∧ W.cell? ⟨b1, 2, none⟩ = some (.int .i64 g2) ∧ W.cell? ⟨b1, 3, none⟩ = some (.string g3) ∧
  W.cell? ⟨b2, 0, none⟩ = some (.int .i64 g0) ∧ W.cell? ⟨b2, 1, none⟩ = some (.int .i64 g1) ∧ W.cell? ⟨b2, 2, none⟩ = some (.int .i64 g2) ∧ W.cell? ⟨b2, 3, none⟩ = some (.string g3) ∧ W.cell? ⟨b2, 4, none⟩ = some (.int .i64 g4) ∧
  W.cell? ⟨b3, 0, none⟩ = some (.string SS) ∧ W.cell? ⟨b3, 2, none⟩ = some (.int .i64 (EE : Int)) ∧
  W.cell? ⟨b4, 0, none⟩ = some (.slice aZ R.length cZ) ∧ W.cell? ⟨b4, 1, none⟩ = some (.int .i64 (us : Int)) ∧ W.cell? ⟨b4, 2, none⟩ = some (.int .i64 (er : Int)) ∧
  Hid (Recs W aM R) ∧ Hid (Recs W aZ R) ∧ Hid (Below w.heap.size w W) ∧ Hid (b1 < W.heap.size) ∧ Hid (b2 < W.heap.size) ∧ Hid (b3 < W.heap.size) ∧ Hid (b4 < W.heap.size)
theorem Held18.go {w : World} {b1 b2 b3 b4 : Nat} {g0 g1 g2 : Int} {g3 : ByteArray} {g4 : Int} {SS : ByteArray} {EE : Nat} {aM aZ : Option Addr} {cZ : Nat} {us er : Nat} {R : List Tm.Rec} {W W' : World} (h : Held18 w b1 b2 b3 b4 g0 g1 g2 g3 g4 SS EE aM aZ cZ us er R W) (hb : Below W.heap.size W W') : Held18 w b1 b2 b3 b4 g0 g1 g2 g3 g4 SS EE aM aZ cZ us er R W' := by
  obtain ⟨p0, p1, p2, p3, q0, q1, q2, q3, q4, s0, s2, d0, d1, d2, r1, r2, hB, l1, l2, l3, l4⟩ := h
  exact ⟨(hb.cell (p := ⟨b1, 0, none⟩) l1.out).trans p0, (hb.cell (p := ⟨b1, 1, none⟩) l1.out).trans p1, (hb.cell (p := ⟨b1, 2, none⟩) l1.out).trans p2, (hb.cell (p := ⟨b1, 3, none⟩) l1.out).trans p3,
    (hb.cell (p := ⟨b2, 0, none⟩) l2.out).trans q0, (hb.cell (p := ⟨b2, 1, none⟩) l2.out).trans q1, (hb.cell (p := ⟨b2, 2, none⟩) l2.out).trans q2, (hb.cell (p := ⟨b2, 3, none⟩) l2.out).trans q3, (hb.cell (p := ⟨b2, 4, none⟩) l2.out).trans q4,
    (hb.cell (p := ⟨b3, 0, none⟩) l3.out).trans s0, (hb.cell (p := ⟨b3, 2, none⟩) l3.out).trans s2,
    (hb.cell (p := ⟨b4, 0, none⟩) l4.out).trans d0, (hb.cell (p := ⟨b4, 1, none⟩) l4.out).trans d1, (hb.cell (p := ⟨b4, 2, none⟩) l4.out).trans d2,
    Recs.below r1.out hb, Recs.below r2.out hb, C.below_chain hB.out hb, Nat.lt_of_lt_of_le l1.out hb.size, Nat.lt_of_lt_of_le l2.out hb.size, Nat.lt_of_lt_of_le l3.out hb.size, Nat.lt_of_lt_of_le l4.out hb.size⟩
theorem Held18.drew {w : World} {b1 b2 b3 b4 : Nat} {g0 g1 g2 : Int} {g3 : ByteArray} {g4 : Int} {SS : ByteArray} {EE : Nat} {aM aZ : Option Addr} {cZ : Nat} {us er : Nat} {R : List Tm.Rec} {W : World} (h : Held18 w b1 b2 b3 b4 g0 g1 g2 g3 g4 SS EE aM aZ cZ us er R W) : Held18 w b1 b2 b3 b4 g0 g1 g2 g3 g4 SS EE aM aZ cZ us er R W.drew := h.go (Below.refl _ _).drew
/-- Some cells of a block that stand. -/
def Blk (b : Nat) (l : List Value) (W : World) : Prop := (∀ i v, l[i]? = some v → W.cell? ⟨b, i, none⟩ = some v) ∧ b < W.heap.size
theorem Blk.go {b : Nat} {l : List Value} {W W' : World} (h : Blk b l W) (hb : Below W.heap.size W W') : Blk b l W' := ⟨fun i v hv => (hb.cell (p := ⟨b, i, none⟩) h.2).trans (h.1 i v hv), Nat.lt_of_lt_of_le h.2 hb.size⟩
theorem Blk.new (W : World) (l : List Value) (t : TypeId) : Blk W.heap.size l (W.alloc (.cells l.toArray t)) := by
  refine ⟨fun i v hv => ?_, by simp⟩
  simp only [World.cell?, heap_alloc_new]
  simpa using hv
set_option maxRecDepth 100000 in
set_option maxHeartbeats 4000000 in
theorem tall_walk (L : List Tm.Rec) (ad : Option Addr) (cap : Nat) (s t : ByteArray) (w : World) (hL : L.length ≤ maxLen) (hsm : s.size ≤ maxLen) (htm : t.size ≤ maxLen) (hf : Tm.fitsAll L) (hss : ∀ r ∈ L, r.s.length ≤ maxLen) (hr : Recs w ad L) :
    Calls Try.prog 3 #[.slice ad L.length cap, .string s, .string t] w fun e w' => e = .returned (.bool true) ∧ Below w.heap.size w w' := by
  unfold maxLen at hL hsm htm
  have HF : Hid (Tm.fitsAll L) := hf
  have HS : Hid (∀ r ∈ L, r.s.length ≤ maxLen) := hss
  have HR : Hid (Recs w ad L) := hr
  clear hf hss hr
  by_cases hbig : 20 < L.length ∨ 2000 < s.size ∨ 1500 < t.size
  · generalize L.length = N at *
    have h1 : ((20 : Int) < N ∨ (2000 : Int) < s.size ∨ (1500 : Int) < t.size) := by omega
    clear hbig HF HS HR
    by_cases k1 : (20 : Int) < N
    · go_enter Try.func3, Try.ntmps3
      clear h1
      go_wp2_with (go_at_call 8; refine (awake_any _).mono ?_; rintro e w9 ⟨rfl, hb9⟩)
      go_ret
      exact ⟨rfl, hb9⟩
    · by_cases k2 : (2000 : Int) < s.size
      · clear h1
        go_enter Try.func3, Try.ntmps3
        go_wp2_with (go_at_call 8; refine (awake_any _).mono ?_; rintro e w9 ⟨rfl, hb9⟩)
        go_ret
        exact ⟨rfl, hb9⟩
      · have k3 : (1500 : Int) < t.size := by omega
        clear h1
        go_enter Try.func3, Try.ntmps3
        go_wp2_with (go_at_call 8; refine (awake_any _).mono ?_; rintro e w9 ⟨rfl, hb9⟩)
        go_ret
        exact ⟨rfl, hb9⟩
  · have HEN : Hid (_) := fun W (h : Recs W ad L) => enc_any L ad cap W (by omega) HF.out HS.out h
    have HRE : Hid (_) := fun W (h : Recs W ad L) => renc_any L ad cap W (by omega) HF.out HS.out h
    have HDE : Hid (_) := fun W => dec_any s W (by omega)
    have HRD : Hid (_) := fun W => rdec_any s W (by omega)
    have hdl := Tm.dec_len 0 (Fm.all s.data.toList).1
    have hal := Fm.all_length s.data.toList
    rw [V.size_list] at hal
    have hDl : (Tm.decode s.data.toList).1.length ≤ 1000000 := by
      unfold Tm.decode
      split <;> (simp only []; omega)
    obtain ⟨g0, g1, g2, g3, g4, hG, hRG⟩ := get_both t (by omega)
    have HG : Hid (_) := hG
    have HRG : Hid (_) := hRG
    have HSA : Hid (_) := fun (X : World) ao bo ca cb (h1 : Recs X ao (Tm.decode s.data.toList).1) (h2 : Recs X bo (Tm.decode s.data.toList).1) => same_any _ ao bo ca cb X hDl h1 h2
    clear hG hRG hdl hal hDl
    generalize Tm.decode s.data.toList = D at *
    obtain ⟨R, us, er⟩ := D
    generalize Tm.enc L = E at *
    obtain ⟨ES, EE⟩ := E
    simp only [] at HEN HRE HDE HRD HSA
    generalize (⟨ES.toArray⟩ : ByteArray) = SS at *
    generalize hN : L.length = N at *
    have HN : Hid (L.length = N) := hN
    clear hN
    have h20 : ¬ (20 : Int) < N := by omega
    have h2000 : ¬ (2000 : Int) < s.size := by omega
    have h1500 : ¬ (1500 : Int) < t.size := by omega
    clear hbig
    go_enter Try.func3, Try.ntmps3
    go_wp2_with fail
    go_loopw [7] (fun c wr => ∃ i : Nat, i ≤ N ∧ c = .int .i64 (i : Int) ∧ Hid (Below w.heap.size w wr)) (fun c _ => N - (intOf c).toNat)
    case atStart => exact ⟨0, by omega, rfl, Below.refl _ _⟩
    case round =>
      obtain ⟨i, hi, rfl, HB⟩ := hrel
      by_cases hlt : i < N
      · have hlt' : (i : Int) < N := by omega
        have hiL : i < L.length := by rw [HN.out]; exact hlt
        obtain ⟨b, off, rfl, hb, hc⟩ := HR.out.resolve_left (by omega)
        obtain ⟨c0, c1, c2, c3⟩ := hc i hiL
        replace c0 := (HB.out.cell (p := ⟨b, off + i * 4, none⟩) hb).trans c0
        replace c1 := (HB.out.cell (p := ⟨b, off + i * 4 + 1, none⟩) hb).trans c1
        replace c2 := (HB.out.cell (p := ⟨b, off + i * 4 + 2, none⟩) hb).trans c2
        replace c3 := (HB.out.cell (p := ⟨b, off + i * 4 + 3, none⟩) hb).trans c3
        obtain ⟨P, e0, hP, hRP⟩ := put_both L[i] (HF.out _ (List.getElem_mem hiL)) (HS.out _ (List.getElem_mem hiL))
        have hsl := HS.out _ (List.getElem_mem hiL)
        have HM1 : Hid (_) := fun W => may_any L[i].kind L[i].n ⟨L[i].s.toArray⟩ W (by rw [mk_size]; exact hsl)
        have HM2 : Hid (_) := fun W => rmay_any L[i].kind L[i].n ⟨L[i].s.toArray⟩ W (by rw [mk_size]; exact hsl)
        unfold recV at hP hRP
        have HP : Hid (_) := hP
        have HRP : Hid (_) := hRP
        clear hP hRP hc hsl
        generalize Tm.may L[i].kind L[i].n (⟨L[i].s.toArray⟩ : ByteArray).data.toList = mb at HM1 HM2
        generalize L[i].step = st at *
        generalize L[i].kind = kd at *
        generalize L[i].n = nn at *
        generalize (⟨L[i].s.toArray⟩ : ByteArray) = ss at *
        by_cases hbs : (1200 : Int) < ss.size
        · go_wp2_with (go_at_call 8; refine (awake_any _).mono ?_; rintro e w9 ⟨rfl, hb9⟩)
          go_ret
          exact ⟨rfl, C.below_chain HB.out hb9⟩
        · go_wp2_with fail
          refine Calls.mono (HP.out _) ?_
          rintro e w2 ⟨rfl, hb2⟩
          have hbw : b < wr.heap.size := Nat.lt_of_lt_of_le hb HB.out.size
          replace c0 := (hb2.cell (p := ⟨b, off + i * 4, none⟩) hbw).trans c0
          replace c1 := (hb2.cell (p := ⟨b, off + i * 4 + 1, none⟩) hbw).trans c1
          replace c2 := (hb2.cell (p := ⟨b, off + i * 4 + 2, none⟩) hbw).trans c2
          replace c3 := (hb2.cell (p := ⟨b, off + i * 4 + 3, none⟩) hbw).trans c3
          have hbw2 : b < w2.heap.size := Nat.lt_of_lt_of_le hbw hb2.size
          have HB2 : Hid (Below w.heap.size w w2) := C.below_chain HB.out hb2
          clear hb2 hbw
          go_wp2_with fail
          refine Calls.mono (HRP.out _) ?_
          rintro e w3 ⟨rfl, hb3⟩
          have hW : Held10 w b (off + i * 4) w3.heap.size kd nn ss P e0 (w3.alloc (.cells #[.string P, .int .i64 0, .int .i64 e0] 32)) := by
            have hb4 : Below w2.heap.size w2 (w3.alloc (.cells #[.string P, .int .i64 0, .int .i64 e0] 32)) := C.below_chain hb3 ((Below.refl _ _).alloc (Nat.le_refl _) _)
            obtain ⟨x0, _, x2⟩ := said_cells (Below.refl (w3.alloc (.cells #[.string P, .int .i64 0, .int .i64 e0] 32)).heap.size (w3.alloc (.cells #[.string P, .int .i64 0, .int .i64 e0] 32)))
            exact ⟨(hb4.cell (p := ⟨b, off + i * 4 + 1, none⟩) hbw2).trans c1, (hb4.cell (p := ⟨b, off + i * 4 + 2, none⟩) hbw2).trans c2, (hb4.cell (p := ⟨b, off + i * 4 + 3, none⟩) hbw2).trans c3, x0, x2, C.below_chain HB2.out hb4, Nat.lt_of_lt_of_le hbw2 hb4.size, (show w3.heap.size < _ from by simp)⟩
          clear hb3 c0 c1 c2 c3 hbw2 HB2 HB HP HRP
          go_wp2_with fail
          generalize w3.alloc (.cells #[.string P, .int .i64 0, .int .i64 e0] 32) = w4 at hW ⊢
          generalize w3.heap.size = bx at hW ⊢
          have C11 : Hid (∀ W, Held10 w b (off + i * 4) bx kd nn ss P e0 W → Calls Try.prog 11 #[.agg #[.int .i64 kd, .int .i64 nn, .string ss]] W fun e w' => e = .returned (.bool mb) ∧ Held10 w b (off + i * 4) bx kd nn ss P e0 w') := fun W hW => (HM1.out W).mono fun _ _ ⟨he, hb⟩ => ⟨he, hW.go hb⟩
          have C12 : Hid (∀ W, Held10 w b (off + i * 4) bx kd nn ss P e0 W → Calls Try.prog 12 #[.agg #[.int .i64 kd, .int .i64 nn, .string ss]] W fun e w' => e = .returned (.bool mb) ∧ Held10 w b (off + i * 4) bx kd nn ss P e0 w') := fun W hW => (HM2.out W).mono fun _ _ ⟨he, hb⟩ => ⟨he, hW.go hb⟩
          have C13 : Hid (∀ W a, Held10 w b (off + i * 4) bx kd nn ss P e0 W → Calls Try.prog 13 #[.int .i64 a] W fun e w' => e = .returned (.int .i64 a) ∧ Held10 w b (off + i * 4) bx kd nn ss P e0 w') := fun W a hW => (V.err_any a W).mono fun _ _ ⟨he, hb⟩ => ⟨he, by rw [hb]; exact hW⟩
          clear HM1 HM2
          go_region_held3 (fun W => W.cell? ⟨b, off + i * 4 + 1, none⟩ = some (.int .i64 kd) ∧ W.cell? ⟨b, off + i * 4 + 1 + 1, none⟩ = some (.int .i64 nn) ∧ W.cell? ⟨b, off + i * 4 + 1 + 2, none⟩ = some (.string ss) ∧ W.cell? ⟨bx, 0, none⟩ = some (.string P) ∧ W.cell? ⟨bx, 2, none⟩ = some (.int .i64 e0) ∧ Hid (Below w.heap.size w W) ∧ Hid (b < W.heap.size) ∧ Hid (bx < W.heap.size)) (first | assumption | exact Held10.drew (by assumption)) (first | (go_at_call 11; refine Calls.mono (C11.out _ (by assumption)) ?_; rintro e w7 ⟨rfl, hW7⟩) | (go_at_call 12; refine Calls.mono (C12.out _ (by assumption)) ?_; rintro e w7 ⟨rfl, hW7⟩) | (go_at_call 13; refine Calls.mono (C13.out _ _ (by assumption)) ?_; rintro e w7 ⟨rfl, hW7⟩))
          have hfin : Hid (Below w.heap.size w w7) := hW7.2.2.2.2.2.1
          go_wp2_with fail
          go_roundw
          case rel => exact ⟨i + 1, by omega, by go_num, hfin⟩
          case measure => simp [intOf]; omega
      · have hlt' : ¬ ((i : Int) < N) := by omega
        go_wp2_with fail
        refine Calls.mono (HG.out _) ?_
        rintro e w2 ⟨rfl, hb2⟩
        have K1 : Hid (Blk w2.heap.size [.int .i64 g0, .int .i64 g1, .int .i64 g2, .string g3] (w2.alloc (.cells #[.int .i64 g0, .int .i64 g1, .int .i64 g2, .string g3] 27))) := Blk.new w2 _ _
        have HB2 : Hid (Below w.heap.size w (w2.alloc (.cells #[.int .i64 g0, .int .i64 g1, .int .i64 g2, .string g3] 27))) := C.below_chain HB.out (C.below_chain hb2 ((Below.refl _ _).alloc (Nat.le_refl _) _))
        clear hb2 HB
        go_wp2_with fail
        generalize w2.alloc (.cells #[.int .i64 g0, .int .i64 g1, .int .i64 g2, .string g3] 27) = w2a at K1 HB2 ⊢
        generalize w2.heap.size = b1 at K1 ⊢
        refine Calls.mono (HRG.out _) ?_
        rintro e w3 ⟨rfl, hb3⟩
        have hb3' : Below w2a.heap.size w2a (w3.alloc (.cells #[.int .i64 g0, .int .i64 g1, .int .i64 g2, .string g3, .int .i64 g4] 39)) := C.below_chain hb3 ((Below.refl _ _).alloc (Nat.le_refl _) _)
        have K1b : Hid (Blk b1 [.int .i64 g0, .int .i64 g1, .int .i64 g2, .string g3] (w3.alloc (.cells #[.int .i64 g0, .int .i64 g1, .int .i64 g2, .string g3, .int .i64 g4] 39))) := K1.out.go hb3'
        have K2 : Hid (Blk w3.heap.size [.int .i64 g0, .int .i64 g1, .int .i64 g2, .string g3, .int .i64 g4] (w3.alloc (.cells #[.int .i64 g0, .int .i64 g1, .int .i64 g2, .string g3, .int .i64 g4] 39))) := Blk.new w3 _ _
        have HB3 : Hid (Below w.heap.size w (w3.alloc (.cells #[.int .i64 g0, .int .i64 g1, .int .i64 g2, .string g3, .int .i64 g4] 39))) := C.below_chain HB2.out hb3'
        clear hb3 hb3' K1 HB2
        go_wp2_with fail
        generalize w3.alloc (.cells #[.int .i64 g0, .int .i64 g1, .int .i64 g2, .string g3, .int .i64 g4] 39) = w3a at K1b K2 HB3 ⊢
        generalize w3.heap.size = b2 at K2 ⊢
        refine Calls.mono (HEN.out _ (Recs.below HR.out HB3.out)) ?_
        rintro e w4 ⟨rfl, hb4⟩
        have HB4 : Hid (Below w.heap.size w w4) := C.below_chain HB3.out hb4
        go_wp2_with fail
        refine Calls.mono (HRE.out _ (Recs.below HR.out HB4.out)) ?_
        rintro e w5 ⟨rfl, hb5⟩
        have hb5' : Below w3a.heap.size w3a (w5.alloc (.cells #[.string SS, .int .i64 0, .int .i64 (EE : Int)] 32)) := C.below_chain (C.below_chain hb4 hb5) ((Below.refl _ _).alloc (Nat.le_refl _) _)
        have K1c : Hid (Blk b1 [.int .i64 g0, .int .i64 g1, .int .i64 g2, .string g3] (w5.alloc (.cells #[.string SS, .int .i64 0, .int .i64 (EE : Int)] 32))) := K1b.out.go hb5'
        have K2c : Hid (Blk b2 [.int .i64 g0, .int .i64 g1, .int .i64 g2, .string g3, .int .i64 g4] (w5.alloc (.cells #[.string SS, .int .i64 0, .int .i64 (EE : Int)] 32))) := K2.out.go hb5'
        have K3 : Hid (Blk w5.heap.size [.string SS, .int .i64 0, .int .i64 (EE : Int)] (w5.alloc (.cells #[.string SS, .int .i64 0, .int .i64 (EE : Int)] 32))) := Blk.new w5 _ _
        have HB5 : Hid (Below w.heap.size w (w5.alloc (.cells #[.string SS, .int .i64 0, .int .i64 (EE : Int)] 32))) := C.below_chain HB3.out hb5'
        clear hb4 hb5 hb5' K1b K2 HB3 HB4
        go_wp2_with fail
        generalize w5.alloc (.cells #[.string SS, .int .i64 0, .int .i64 (EE : Int)] 32) = w5a at K1c K2c K3 HB5 ⊢
        generalize w5.heap.size = b3 at K3 ⊢
        refine Calls.mono (HDE.out _) ?_
        rintro e w6 ⟨vM, rfl, hoM, hb6⟩
        obtain ⟨aM, cM, rfl, _, hRM⟩ := Recs.own hoM
        go_wp2_with fail
        refine Calls.mono (HRD.out _) ?_
        rintro e w7 ⟨vZ, rfl, hoZ, hb7⟩
        obtain ⟨aZ, cZ, rfl, _, hRZ⟩ := Recs.own hoZ
        have hW : Held18 w b1 b2 b3 w7.heap.size g0 g1 g2 g3 g4 SS EE aM aZ cZ us er R (w7.alloc (.cells #[.slice aZ R.length cZ, .int .i64 (us : Int), .int .i64 (er : Int)] 46)) := by
          have hba : Below w7.heap.size w7 (w7.alloc (.cells #[.slice aZ R.length cZ, .int .i64 (us : Int), .int .i64 (er : Int)] 46)) := (Below.refl _ _).alloc (Nat.le_refl _) _
          have hb8 := C.below_chain (C.below_chain hb6 hb7) hba
          have k1 := K1c.out.go hb8
          have k2 := K2c.out.go hb8
          have k3 := K3.out.go hb8
          have k4 : Blk w7.heap.size [.slice aZ R.length cZ, .int .i64 (us : Int), .int .i64 (er : Int)] (w7.alloc (.cells #[.slice aZ R.length cZ, .int .i64 (us : Int), .int .i64 (er : Int)] 46)) := Blk.new w7 _ _
          exact ⟨k1.1 0 _ rfl, k1.1 1 _ rfl, k1.1 2 _ rfl, k1.1 3 _ rfl, k2.1 0 _ rfl, k2.1 1 _ rfl, k2.1 2 _ rfl, k2.1 3 _ rfl, k2.1 4 _ rfl, k3.1 0 _ rfl, k3.1 2 _ rfl, k4.1 0 _ rfl, k4.1 1 _ rfl, k4.1 2 _ rfl, Recs.below (Recs.below hRM hb7) hba, Recs.below hRZ hba, C.below_chain HB5.out hb8, k1.2, k2.2, k3.2, k4.2⟩
        clear hoM hoZ hb6 hb7 hRM hRZ K1c K2c K3 HB5
        go_wp2_with fail
        generalize w7.alloc (.cells #[.slice aZ R.length cZ, .int .i64 (us : Int), .int .i64 (er : Int)] 46) = w8 at hW ⊢
        generalize w7.heap.size = b4 at hW ⊢
        have C13 : Hid (∀ W a, Held18 w b1 b2 b3 b4 g0 g1 g2 g3 g4 SS EE aM aZ cZ us er R W → Calls Try.prog 13 #[.int .i64 a] W fun e w' => e = .returned (.int .i64 a) ∧ Held18 w b1 b2 b3 b4 g0 g1 g2 g3 g4 SS EE aM aZ cZ us er R w') := fun W a hW => (V.err_any a W).mono fun _ _ ⟨he, hb⟩ => ⟨he, by rw [hb]; exact hW⟩
        have C20 : Hid (∀ W, Held18 w b1 b2 b3 b4 g0 g1 g2 g3 g4 SS EE aM aZ cZ us er R W → Calls Try.prog 20 #[.slice aM R.length cM, .slice aZ R.length cZ] W fun e w' => e = .returned (.bool true) ∧ Held18 w b1 b2 b3 b4 g0 g1 g2 g3 g4 SS EE aM aZ cZ us er R w') := fun W hW => (HSA.out W aM aZ cM cZ hW.2.2.2.2.2.2.2.2.2.2.2.2.2.2.1.out hW.2.2.2.2.2.2.2.2.2.2.2.2.2.2.2.1.out).mono fun _ _ ⟨he, hb⟩ => ⟨he, hW.go hb⟩
        have C8 : Hid (∀ W, Held18 w b1 b2 b3 b4 g0 g1 g2 g3 g4 SS EE aM aZ cZ us er R W → Calls Try.prog 8 #[] W fun e w' => e = .returned (.bool true) ∧ Held18 w b1 b2 b3 b4 g0 g1 g2 g3 g4 SS EE aM aZ cZ us er R w') := fun W hW => (awake_any W).mono fun _ _ ⟨he, hb⟩ => ⟨he, hW.go hb⟩
        clear HSA HEN HRE HDE HRD HG HRG HR HF HS
        go_region_held3 (fun W => W.cell? ⟨b1, 0, none⟩ = some (.int .i64 g0) ∧ W.cell? ⟨b1, 1, none⟩ = some (.int .i64 g1) ∧ W.cell? ⟨b1, 2, none⟩ = some (.int .i64 g2) ∧ W.cell? ⟨b1, 3, none⟩ = some (.string g3) ∧
  W.cell? ⟨b2, 0, none⟩ = some (.int .i64 g0) ∧ W.cell? ⟨b2, 1, none⟩ = some (.int .i64 g1) ∧ W.cell? ⟨b2, 2, none⟩ = some (.int .i64 g2) ∧ W.cell? ⟨b2, 3, none⟩ = some (.string g3) ∧ W.cell? ⟨b2, 4, none⟩ = some (.int .i64 g4) ∧
  W.cell? ⟨b3, 0, none⟩ = some (.string SS) ∧ W.cell? ⟨b3, 2, none⟩ = some (.int .i64 (EE : Int)) ∧
  W.cell? ⟨b4, 0, none⟩ = some (.slice aZ R.length cZ) ∧ W.cell? ⟨b4, 1, none⟩ = some (.int .i64 (us : Int)) ∧ W.cell? ⟨b4, 2, none⟩ = some (.int .i64 (er : Int)) ∧
  Hid (Recs W aM R) ∧ Hid (Recs W aZ R) ∧ Hid (Below w.heap.size w W) ∧ Hid (b1 < W.heap.size) ∧ Hid (b2 < W.heap.size) ∧ Hid (b3 < W.heap.size) ∧ Hid (b4 < W.heap.size)) (first | assumption | exact Held18.drew (by assumption)) (first | (go_at_call 13; refine Calls.mono (C13.out _ _ (by assumption)) ?_; rintro e w9 ⟨rfl, hW9⟩) | (go_at_call 20; refine Calls.mono (C20.out _ (by assumption)) ?_; rintro e w9 ⟨rfl, hW9⟩) | (go_at_call 8; refine Calls.mono (C8.out _ (by assumption)) ?_; rintro e w9 ⟨rfl, hW9⟩))
        have hfin : Hid (Below w.heap.size w w9) := hW9.2.2.2.2.2.2.2.2.2.2.2.2.2.2.2.2.1
        go_wp2_with fail
        go_ret
        exact ⟨rfl, hfin.out⟩
end Go.Proofs.Ytmjmlccdgdakdaa.T
