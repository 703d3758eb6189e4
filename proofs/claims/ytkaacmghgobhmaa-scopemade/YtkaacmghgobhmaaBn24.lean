/- Texts: W8B. -/
import Derived.Test.YtkaacmghgobhmaaBn23
namespace Go.Proofs.Ytkaacmghgobhmaa.W8
open Go.RowKit
set_option linter.unusedVariables false
abbrev atomsV : Array Value := #[.string ⟨#[97]⟩, .string ⟨#[98]⟩, .string ⟨#[111]⟩, .string ⟨#[102]⟩, .string ⟨#[49]⟩, .string ⟨#[55]⟩, .string ⟨#[50, 49, 52, 55, 52, 56, 51, 54, 52, 55]⟩, .string ⟨#[48]⟩, .string ⟨#[34, 116, 34]⟩, .string ⟨#[34, 49, 48, 34]⟩, .string ⟨#[116, 114, 117, 101]⟩, .string ⟨#[110, 117, 108, 108]⟩, .string ⟨#[117, 110, 100, 101, 102, 105, 110, 101, 100]⟩, .string ⟨#[116, 104, 105, 115]⟩, .string ⟨#[111, 46, 120]⟩, .string ⟨#[98, 91, 49, 93]⟩, .string ⟨#[98, 46, 108, 101, 110, 103, 116, 104]⟩, .string ⟨#[102, 40, 97, 44, 32, 50, 41]⟩, .string ⟨#[91, 97, 44, 32, 49, 93]⟩, .string ⟨#[123, 120, 58, 32, 97, 44, 32, 121, 58, 32, 50, 125]⟩, .string ⟨#[104]⟩, .string ⟨#[99]⟩, .string ⟨#[111, 46, 117, 112]⟩, .string ⟨#[98, 91, 97, 93]⟩]
abbrev signsV : Array Value := #[.string ⟨#[43]⟩, .string ⟨#[45]⟩, .string ⟨#[42]⟩, .string ⟨#[47]⟩, .string ⟨#[37]⟩, .string ⟨#[60]⟩, .string ⟨#[60, 61]⟩, .string ⟨#[62]⟩, .string ⟨#[62, 61]⟩, .string ⟨#[61, 61, 61]⟩, .string ⟨#[33, 61, 61]⟩, .string ⟨#[38, 38]⟩, .string ⟨#[124, 124]⟩]
/-- Texts that lie in a block, each of few bytes. -/
def Txs (W : World) (b m B : Nat) : Prop := b < W.heap.size ∧ ∀ k, k < m → ∃ s : ByteArray, W.cell? ⟨b, k, none⟩ = some (.string s) ∧ s.size ≤ B
def shortV (V : Array Value) (B : Nat) : Bool := V.all fun v => match v with | .string s => decide (s.size ≤ B) | _ => false
theorem txs_of {W : World} {b m B : Nat} {V : Array Value} {t : TypeId} (h : W.heap[b]? = some (.cells V t (0, 0))) (hm : V.size = m) (hs : shortV V B = true) : Txs W b m B := by
  refine ⟨lt8 h, fun k hk => ?_⟩
  have hk' : k < V.size := by omega
  have h1 := Array.all_eq_true.1 hs k hk'
  have hc : W.cell? ⟨b, k, none⟩ = some V[k] := by unfold World.cell?; rw [h]; exact Array.getElem?_eq_getElem hk'
  cases hv : V[k] with
  | string s => rw [hv] at h1 hc; exact ⟨s, hc, of_decide_eq_true h1⟩
  | _ => rw [hv] at h1; cases h1
theorem Txs.fr {p : Nat} {W W' : World} {b m B : Nat} (h : Txs W b m B) (hf : Fr p W W') (hb : b ≠ p) : Txs W' b m B :=
  ⟨Nat.lt_of_lt_of_le h.1 hf.1, fun k hk => by obtain ⟨s, h1, h2⟩ := h.2 k hk; exact ⟨s, (hf.cell h.1 hb).trans h1, h2⟩⟩
theorem atoms_short : shortV atomsV 12 = true := by decide +kernel
theorem signs_short : shortV signsV 3 = true := by decide +kernel
section
variable {w0 W : World} {p n cap : Nat} {ad : Option Addr} {Z : List Nat}
set_option maxRecDepth 100000 in
set_option maxHeartbeats 2000000 in
theorem e_leaf (hst : St8 w0 p ad n cap Z) (h : Src8 w0 p ad n cap W) : Calls Try.prog 30 #[.pointer (some ⟨p, 0, none⟩), .int .i64 0] W fun e w' => Tell w0 p ad n cap 12 W e w' := by
  have HST : Hid (_) := hst
  have hpl := h.lt
  have HA : Hid (W.heap.size ≠ p) := (show W.heap.size ≠ p from fun e => by omega)
  have hfew := hst.few
  obtain ⟨a, han, hX⟩ := h.box
  have HS1 : Hid (Src8 w0 p ad n cap (W.alloc (.cells atomsV 9))) := h.below ((Below.refl _ _).alloc (Nat.le_refl _) _)
  have HF1 : Hid (Fr p W (W.alloc (.cells atomsV 9))) := Fr.of ((Below.refl _ _).alloc (Nat.le_refl _) _)
  have HX1 : Hid ((W.alloc (.cells atomsV 9)).heap[p]? = some (.cells #[.slice ad n cap, .int .i64 (a : Int)] 49 (0, 0))) := (((Below.refl W.heap.size W).alloc (Nat.le_refl _) _).block p hpl).trans hX
  have HT1 : Hid (Txs (W.alloc (.cells atomsV 9)) W.heap.size 24 12) := txs_of (MapKept.heap_alloc W (.cells atomsV 9)).1 rfl atoms_short
  clear hst h hX
  simp only [atomsV] at HS1 HF1 HX1 HT1
  go_enter Try.func30, Try.ntmps30
  go_upto_region 2 with fail
  obtain ⟨w1, hw1⟩ : ∃ w1, W.alloc (.cells #[.string ⟨#[97]⟩, .string ⟨#[98]⟩, .string ⟨#[111]⟩, .string ⟨#[102]⟩, .string ⟨#[49]⟩, .string ⟨#[55]⟩, .string ⟨#[50, 49, 52, 55, 52, 56, 51, 54, 52, 55]⟩, .string ⟨#[48]⟩, .string ⟨#[34, 116, 34]⟩, .string ⟨#[34, 49, 48, 34]⟩, .string ⟨#[116, 114, 117, 101]⟩, .string ⟨#[110, 117, 108, 108]⟩, .string ⟨#[117, 110, 100, 101, 102, 105, 110, 101, 100]⟩, .string ⟨#[116, 104, 105, 115]⟩, .string ⟨#[111, 46, 120]⟩, .string ⟨#[98, 91, 49, 93]⟩, .string ⟨#[98, 46, 108, 101, 110, 103, 116, 104]⟩, .string ⟨#[102, 40, 97, 44, 32, 50, 41]⟩, .string ⟨#[91, 97, 44, 32, 49, 93]⟩, .string ⟨#[123, 120, 58, 32, 97, 44, 32, 121, 58, 32, 50, 125]⟩, .string ⟨#[104]⟩, .string ⟨#[99]⟩, .string ⟨#[111, 46, 117, 112]⟩, .string ⟨#[98, 91, 97, 93]⟩] 9) = w1 := ⟨_, rfl⟩
  rw [hw1] at HS1 HF1 HX1 HT1 ⊢
  obtain ⟨A, hA⟩ : ∃ A, W.heap.size = A := ⟨_, rfl⟩
  rw [hA] at HT1 HA ⊢
  clear hw1 hA hpl
  have c0 : w1.cell? ⟨p, 0, none⟩ = some (.slice ad n cap) := by unfold World.cell?; rw [HX1.out]; rfl
  have c1 : w1.cell? ⟨p, 1, none⟩ = some (.int .i64 (a : Int)) := by unfold World.cell?; rw [HX1.out]; rfl
  have hpl1 : p < w1.heap.size := lt8 HX1.out
  go_quiet (fail)
  have HS2 : Hid (Src8 w0 p ad n cap (w1.drewN nq)) := HS1.out.below (L.below_drewN _ _ nq)
  have HF2 : Hid (Fr p W (w1.drewN nq)) := HF1.out.trans (Fr.of (L.below_drewN _ _ nq))
  have HTX : Hid (Txs (w1.drewN nq) A 24 12) := HT1.out.fr (Fr.of (L.below_drewN _ _ nq)) HA.out
  have HAP : Hid (A ≠ p) := HA.out
  clear HS1 HF1 HX1 HT1 c0 c1 hpl1
  generalize w1.drewN nq = w2 at *
  go_wp2_with fail
  refine Calls.mono (take_any HST.out 24 (by omega) (by omega) HS2.out) ?_
  rintro e w5 ⟨r, rfl, hr, hs5, hf5⟩
  have hr' : (r : Int) < 24 := by omega
  have hr0 : (0 : Int) ≤ r := by omega
  obtain ⟨hal, htx⟩ := HTX.out.fr hf5.out (HAP.out)
  obtain ⟨s, cs, hss⟩ := htx r hr
  have HS5 : Hid (_) := hs5.out
  have HF5 : Hid (Fr p W w5) := HF2.out.trans hf5.out
  clear htx hs5 hf5 HTX
  go_wp2_with fail
  go_ret
  exact ⟨s, rfl, by omega, HS5.out, HF5.out⟩
theorem lit_at {V : Array Value} {m B : Nat} (hm : V.size = m) (hs : shortV V B = true) (r : Nat) (hr : r < m) : ∃ s : ByteArray, V[r]? = some (.string s) ∧ s.size ≤ B := by
  have hk' : r < V.size := by omega
  have h1 := Array.all_eq_true.1 hs r hk'
  cases hv : V[r] with
  | string s => rw [hv] at h1; exact ⟨s, by rw [Array.getElem?_eq_getElem hk', hv], of_decide_eq_true h1⟩
  | _ => rw [hv] at h1; cases h1
theorem alloc_lit (X : World) {V : Array Value} {t : TypeId} {r : Nat} {s : ByteArray} (h : V[r]? = some (.string s)) : (X.alloc (.cells V t)).cell? ⟨X.heap.size, r, none⟩ = some (.string s) := by
  unfold World.cell?; rw [(MapKept.heap_alloc X (.cells V t)).1]; exact h
theorem lit_after {p : Nat} {X w' : World} {V : Array Value} {t : TypeId} {r : Nat} {s : ByteArray} (hf : Fr p (X.alloc (.cells V t)) w') (hp : X.heap.size ≠ p) (h : V[r]? = some (.string s)) : w'.cell? ⟨X.heap.size, r, none⟩ = some (.string s) ∧ X.heap.size < w'.heap.size := by
  have hl := lt8 (MapKept.heap_alloc X (.cells V t)).1
  exact ⟨(hf.cell hl hp).trans (alloc_lit X h), Nat.lt_of_lt_of_le hl hf.1⟩
/-- A sign that lies, the source beside it. -/
abbrev SgS (w0 : World) (p : Nat) (ad : Option Addr) (n cap B k : Nat) (sg : ByteArray) (W V : World) : Prop := V.cell? ⟨B, k, none⟩ = some (.string sg) ∧ Hid (B < V.heap.size) ∧ Hid (Src8 w0 p ad n cap V ∧ Fr p W V)
theorem SgS.on {B k : Nat} {sg : ByteArray} {V V' : World} (h : SgS w0 p ad n cap B k sg W V) (hb : B ≠ p) (h1 : Src8 w0 p ad n cap V') (h2 : Fr p V V') : SgS w0 p ad n cap B k sg W V' := ⟨(h2.cell h.2.1.out hb).trans h.1, (show B < _ from Nat.lt_of_lt_of_le h.2.1.out h2.1), (show Src8 _ _ _ _ _ _ ∧ _ from ⟨h1, h.2.2.out.2.trans h2⟩)⟩
theorem SgS.drew {B k : Nat} {sg : ByteArray} {V : World} (h : SgS w0 p ad n cap B k sg W V) : SgS w0 p ad n cap B k sg W V.drew := ⟨h.1, h.2.1, (show Src8 _ _ _ _ _ _ ∧ _ from ⟨h.2.2.out.1.drew, h.2.2.out.2.trans (Fr.of (L.below_drewN _ _ 1))⟩)⟩
abbrev lit3V : Array Value := #[.string ⟨#[33]⟩, .string ⟨#[45]⟩, .string ⟨#[116, 121, 112, 101, 111, 102, 32]⟩]
theorem lit3_at (r : Nat) (hr : r < 3) : ∃ s : ByteArray, (#[.string ⟨#[33]⟩, .string ⟨#[45]⟩, .string ⟨#[116, 121, 112, 101, 111, 102, 32]⟩] : Array Value)[r]? = some (.string s) ∧ s.size ≤ 8 := lit_at (V := lit3V) rfl (by decide +kernel) r hr
abbrev lit6V : Array Value := #[.string ⟨#[40, 97, 32, 61, 32]⟩, .string ⟨#[40, 111, 46, 120, 32, 61, 32]⟩, .string ⟨#[40, 98, 91, 48, 93, 32, 61, 32]⟩, .string ⟨#[40, 98, 91, 97, 93, 32, 61, 32]⟩, .string ⟨#[40, 111, 91, 34, 107, 34, 93, 32, 61, 32]⟩, .string ⟨#[40, 99, 32, 61, 32]⟩]
theorem lit6_at (r : Nat) (hr : r < 6) : ∃ s : ByteArray, (#[.string ⟨#[40, 97, 32, 61, 32]⟩, .string ⟨#[40, 111, 46, 120, 32, 61, 32]⟩, .string ⟨#[40, 98, 91, 48, 93, 32, 61, 32]⟩, .string ⟨#[40, 98, 91, 97, 93, 32, 61, 32]⟩, .string ⟨#[40, 111, 91, 34, 107, 34, 93, 32, 61, 32]⟩, .string ⟨#[40, 99, 32, 61, 32]⟩] : Array Value)[r]? = some (.string s) ∧ s.size ≤ 12 := lit_at (V := lit6V) rfl (by decide +kernel) r hr
abbrev lit11V : Array Value := #[.string ⟨#[102, 40]⟩, .string ⟨#[112, 114, 105, 110, 116, 40]⟩, .string ⟨#[106, 115, 111, 110, 40]⟩, .string ⟨#[116, 101, 120, 116, 40]⟩, .string ⟨#[98, 46, 112, 117, 115, 104, 40]⟩, .string ⟨#[97, 98, 115, 40]⟩, .string ⟨#[107, 101, 121, 115, 40]⟩, .string ⟨#[104, 40]⟩, .string ⟨#[111, 46, 109, 40]⟩, .string ⟨#[109, 97, 120, 40, 49, 44, 32]⟩, .string ⟨#[101, 114, 114, 111, 114, 40]⟩]
theorem lit11_at (r : Nat) (hr : r < 11) : ∃ s : ByteArray, (#[.string ⟨#[102, 40]⟩, .string ⟨#[112, 114, 105, 110, 116, 40]⟩, .string ⟨#[106, 115, 111, 110, 40]⟩, .string ⟨#[116, 101, 120, 116, 40]⟩, .string ⟨#[98, 46, 112, 117, 115, 104, 40]⟩, .string ⟨#[97, 98, 115, 40]⟩, .string ⟨#[107, 101, 121, 115, 40]⟩, .string ⟨#[104, 40]⟩, .string ⟨#[111, 46, 109, 40]⟩, .string ⟨#[109, 97, 120, 40, 49, 44, 32]⟩, .string ⟨#[101, 114, 114, 111, 114, 40]⟩] : Array Value)[r]? = some (.string s) ∧ s.size ≤ 12 := lit_at (V := lit11V) rfl (by decide +kernel) r hr
theorem fin8 {V : World} (h : Hid (Src8 w0 p ad n cap V ∧ Fr p W V)) : Hid (Src8 w0 p ad n cap V) ∧ Hid (Fr p W V) := ⟨h.out.1, h.out.2⟩
theorem drew8 {V : World} (h : Hid (Src8 w0 p ad n cap V ∧ Fr p W V)) : Hid (Src8 w0 p ad n cap V.drew ∧ Fr p W V.drew) := (show Src8 _ _ _ _ _ _ ∧ _ from ⟨h.out.1.drew, h.out.2.trans (Fr.of (L.below_drewN _ _ 1))⟩)
theorem alloc8 {V : World} (h : Hid (Src8 w0 p ad n cap V ∧ Fr p W V)) (o : Obj) : Hid (Src8 w0 p ad n cap (V.alloc o) ∧ Fr p W (V.alloc o)) := (show Src8 _ _ _ _ _ _ ∧ _ from ⟨h.out.1.below ((Below.refl _ _).alloc (Nat.le_refl _) _), h.out.2.trans (Fr.of ((Below.refl _ _).alloc (Nat.le_refl _) _))⟩)
set_option maxRecDepth 100000 in
set_option maxHeartbeats 400000000 in
theorem e_step (hst : St8 w0 p ad n cap Z) (h : Src8 w0 p ad n cap W) (D M : Nat) (hD : D ≤ 10) (hM : M ≤ 2000) (hM2 : 12 ≤ M)
    (HE : Hid (∀ V, Src8 w0 p ad n cap V → Calls Try.prog 30 #[.pointer (some ⟨p, 0, none⟩), .int .i64 (D : Int)] V fun e w' => Tell w0 p ad n cap M V e w')) :
    Calls Try.prog 30 #[.pointer (some ⟨p, 0, none⟩), .int .i64 ((D : Int) + 1)] W fun e w' => Tell w0 p ad n cap (3 * M + 60) W e w' := by
  have hd0 : ¬ (D : Int) + 1 ≤ 0 := by omega
  have hd1 : (D : Int) + 1 - 1 = D := by omega
  have hwr : IntKind.i64.wrap (D : Int) = D := by rw [IntKind.wrap_i64]; omega
  have HST : Hid (_) := hst
  have hpl := h.lt
  have HA : Hid (W.heap.size ≠ p) := (show W.heap.size ≠ p from fun e => by omega)
  have hfew := hst.few
  obtain ⟨a, han, hX⟩ := h.box
  have HS1 : Hid (Src8 w0 p ad n cap (W.alloc (.cells atomsV 9))) := h.below ((Below.refl _ _).alloc (Nat.le_refl _) _)
  have HF1 : Hid (Fr p W (W.alloc (.cells atomsV 9))) := Fr.of ((Below.refl _ _).alloc (Nat.le_refl _) _)
  have HX1 : Hid ((W.alloc (.cells atomsV 9)).heap[p]? = some (.cells #[.slice ad n cap, .int .i64 (a : Int)] 49 (0, 0))) := (((Below.refl W.heap.size W).alloc (Nat.le_refl _) _).block p hpl).trans hX
  have HT1 : Hid (Txs (W.alloc (.cells atomsV 9)) W.heap.size 24 12) := txs_of (MapKept.heap_alloc W (.cells atomsV 9)).1 rfl atoms_short
  clear hst h hX
  simp only [atomsV] at HS1 HF1 HX1 HT1
  go_enter Try.func30, Try.ntmps30
  go_upto_region 2 with fail
  obtain ⟨w1, hw1⟩ : ∃ w1, W.alloc (.cells #[.string ⟨#[97]⟩, .string ⟨#[98]⟩, .string ⟨#[111]⟩, .string ⟨#[102]⟩, .string ⟨#[49]⟩, .string ⟨#[55]⟩, .string ⟨#[50, 49, 52, 55, 52, 56, 51, 54, 52, 55]⟩, .string ⟨#[48]⟩, .string ⟨#[34, 116, 34]⟩, .string ⟨#[34, 49, 48, 34]⟩, .string ⟨#[116, 114, 117, 101]⟩, .string ⟨#[110, 117, 108, 108]⟩, .string ⟨#[117, 110, 100, 101, 102, 105, 110, 101, 100]⟩, .string ⟨#[116, 104, 105, 115]⟩, .string ⟨#[111, 46, 120]⟩, .string ⟨#[98, 91, 49, 93]⟩, .string ⟨#[98, 46, 108, 101, 110, 103, 116, 104]⟩, .string ⟨#[102, 40, 97, 44, 32, 50, 41]⟩, .string ⟨#[91, 97, 44, 32, 49, 93]⟩, .string ⟨#[123, 120, 58, 32, 97, 44, 32, 121, 58, 32, 50, 125]⟩, .string ⟨#[104]⟩, .string ⟨#[99]⟩, .string ⟨#[111, 46, 117, 112]⟩, .string ⟨#[98, 91, 97, 93]⟩] 9) = w1 := ⟨_, rfl⟩
  rw [hw1] at HS1 HF1 HX1 HT1 ⊢
  obtain ⟨A, hA⟩ : ∃ A, W.heap.size = A := ⟨_, rfl⟩
  rw [hA] at HT1 HA ⊢
  clear hw1 hA hpl
  have c0 : w1.cell? ⟨p, 0, none⟩ = some (.slice ad n cap) := by unfold World.cell?; rw [HX1.out]; rfl
  have c1 : w1.cell? ⟨p, 1, none⟩ = some (.int .i64 (a : Int)) := by unfold World.cell?; rw [HX1.out]; rfl
  have hpl1 : p < w1.heap.size := lt8 HX1.out
  by_cases ha : n ≤ a
  · have ha' : (n : Int) ≤ a := by omega
    go_quiet (fail)
    have HS2 : Hid (Src8 w0 p ad n cap (w1.drewN nq)) := HS1.out.below (L.below_drewN _ _ nq)
    have HF2 : Hid (Fr p W (w1.drewN nq)) := HF1.out.trans (Fr.of (L.below_drewN _ _ nq))
    have HTX : Hid (Txs (w1.drewN nq) A 24 12) := HT1.out.fr (Fr.of (L.below_drewN _ _ nq)) HA.out
    have HAP : Hid (A ≠ p) := HA.out
    clear HS1 HF1 HX1 HT1 c0 c1 hpl1
    generalize w1.drewN nq = w2 at *
    go_wp2_with fail
    refine Calls.mono (take_any HST.out 24 (by omega) (by omega) HS2.out) ?_
    rintro e w5 ⟨r, rfl, hr, hs5, hf5⟩
    have hr' : (r : Int) < 24 := by omega
    have hr0 : (0 : Int) ≤ r := by omega
    obtain ⟨hal, htx⟩ := HTX.out.fr hf5.out (HAP.out)
    obtain ⟨s, cs, hss⟩ := htx r hr
    have HS5 : Hid (_) := hs5.out
    have HF5 : Hid (Fr p W w5) := HF2.out.trans hf5.out
    clear htx hs5 hf5 HTX
    go_wp2_with fail
    go_ret
    exact ⟨s, rfl, by omega, HS5.out, HF5.out⟩
  · have ha' : ¬ (n : Int) ≤ a := by omega
    go_quiet (fail)
    have HS2 : Hid (Src8 w0 p ad n cap (w1.drewN nq)) := HS1.out.below (L.below_drewN _ _ nq)
    have HF2 : Hid (Fr p W (w1.drewN nq)) := HF1.out.trans (Fr.of (L.below_drewN _ _ nq))
    have HTX : Hid (Txs (w1.drewN nq) A 24 12) := HT1.out.fr (Fr.of (L.below_drewN _ _ nq)) HA.out
    have HAP : Hid (A ≠ p) := HA.out
    clear HS1 HF1 HX1 HT1 c0 c1 hpl1
    generalize w1.drewN nq = w2 at *
    go_wp2_with fail
    refine Calls.mono (take_any HST.out 12 (by omega) (by omega) HS2.out) ?_
    rintro e w3 ⟨r, rfl, hr, hs3, hf3⟩
    have HS3 : Hid (_) := hs3.out
    have HF3 : Hid (Fr p W w3) := HF2.out.trans hf3.out
    have HTX3 : Hid (Txs w3 A 24 12) := HTX.out.fr hf3.out HAP.out
    clear hs3 hf3 HS2 HF2 HTX han ha ha'
    have HTX : Hid (Txs w3 A 24 12) := HTX3.out
    clear HTX3
    clear w2
    have hr12 : r = 0 ∨ r = 1 ∨ r = 2 ∨ r = 3 ∨ r = 4 ∨ r = 5 ∨ r = 6 ∨ r = 7 ∨ r = 8 ∨ 9 ≤ r := by omega
    rcases hr12 with rfl | rfl | rfl | rfl | rfl | rfl | rfl | rfl | rfl | hr9
    · skip
      have HS3' : Hid (Src8 w0 p ad n cap (w3.alloc (.cells signsV 9))) := HS3.out.below ((Below.refl _ _).alloc (Nat.le_refl _) _)
      have HF3' : Hid (Fr p W (w3.alloc (.cells signsV 9))) := HF3.out.trans (Fr.of ((Below.refl _ _).alloc (Nat.le_refl _) _))
      have HT3 : Hid (Txs (w3.alloc (.cells signsV 9)) w3.heap.size 13 3) := txs_of (MapKept.heap_alloc w3 (.cells signsV 9)).1 rfl signs_short
      have HBP : Hid (w3.heap.size ≠ p) := (show w3.heap.size ≠ p from fun e => by have := HS3.out.lt; omega)
      simp only [signsV] at HS3' HF3' HT3
      go_upto_region 9 with fail
      obtain ⟨w4, hw4⟩ : ∃ w4, w3.alloc (.cells #[.string ⟨#[43]⟩, .string ⟨#[45]⟩, .string ⟨#[42]⟩, .string ⟨#[47]⟩, .string ⟨#[37]⟩, .string ⟨#[60]⟩, .string ⟨#[60, 61]⟩, .string ⟨#[62]⟩, .string ⟨#[62, 61]⟩, .string ⟨#[61, 61, 61]⟩, .string ⟨#[33, 61, 61]⟩, .string ⟨#[38, 38]⟩, .string ⟨#[124, 124]⟩] 9) = w4 := ⟨_, rfl⟩
      rw [hw4] at HS3' HF3' HT3 ⊢
      obtain ⟨B, hB⟩ : ∃ B, w3.heap.size = B := ⟨_, rfl⟩
      rw [hB] at HT3 HBP ⊢
      clear hw4 hB HS3 HF3 HTX HAP
      clear w3
      go_wp2_with fail
      refine Calls.mono (take_any HST.out 13 (by omega) (by omega) HS3'.out) ?_
      rintro e w5 ⟨k, rfl, hk, hs5, hf5⟩
      have hk' : (k : Int) < 13 := by omega
      have hk0 : (0 : Int) ≤ k := by omega
      have HS5 : Hid (_) := hs5.out
      have HF5 : Hid (Fr p W w5) := HF3'.out.trans hf5.out
      have HT5 : Hid (Txs w5 B 13 3) := HT3.out.fr hf5.out HBP.out
      clear hs5 hf5 HS3' HF3' HT3
      go_wp2_with fail
      refine Calls.mono (HE.out _ HS5.out) ?_
      rintro e w6 ⟨x, rfl, hx, hs6, hf6⟩
      obtain ⟨hbl, htx⟩ := HT5.out.fr hf6.out HBP.out
      obtain ⟨sg, csg, hsg⟩ := htx k hk
      have HG : SgS w0 p ad n cap B k sg W w6 := ⟨csg, hbl, hs6.out, HF5.out.trans hf6.out⟩
      have HEE : Hid (∀ V, SgS w0 p ad n cap B k sg W V → Calls Try.prog 30 #[.pointer (some ⟨p, 0, none⟩), .int .i64 (D : Int)] V fun e w' => ∃ s : ByteArray, e = .returned (.string s) ∧ s.size ≤ M ∧ SgS w0 p ad n cap B k sg W w') := fun V hV => (HE.out V hV.2.2.out.1).mono (by
        rintro e w' ⟨s, rfl, h1, h2, h3⟩
        exact ⟨s, rfl, h1, hV.on HBP.out h2.out h3.out⟩)
      clear htx hs6 hf6 HS5 HF5 HT5 HE csg hbl HBP HST
      have g1 : ¬ 9223372036854775807 < 1 + x.size := by omega
      have g2 : ¬ 9223372036854775807 < 1 + x.size + 1 := by omega
      have g3 : ¬ 9223372036854775807 < 1 + x.size + 1 + sg.size := by omega
      have g4 : ¬ 9223372036854775807 < 1 + x.size + 1 + sg.size + 1 := by omega
      go_upto_region 11 with fail
      go_region_held3 (fun V => V.cell? ⟨B, k, none⟩ = some (.string sg) ∧ Hid (B < V.heap.size) ∧ Hid (Src8 w0 p ad n cap V ∧ Fr p W V)) (first | (with_reducible assumption) | (with_reducible exact SgS.drew (by with_reducible assumption))) (first | (go_at_call 30; refine Calls.mono (HEE.out _ (by first | (with_reducible assumption) | (with_reducible exact SgS.drew (by with_reducible assumption)))) ?_; rintro e w7 ⟨y, rfl, hy, hS7⟩; have g5 : ¬ 9223372036854775807 < 1 + x.size + 1 + sg.size + 1 + y.size := (by omega); have g6 : ¬ 9223372036854775807 < 1 + x.size + 1 + sg.size + 1 + y.size + 1 := (by omega)))
      go_wp2_with fail
      go_ret
      exact ⟨_, rfl, by simp only [ByteArray.size_append', ByteArray.size_mk', List.size_toArray, List.length_cons, List.length_nil]; omega, hS7.2.2.out.1, hS7.2.2.out.2⟩
    · skip
      have HS3' : Hid (Src8 w0 p ad n cap (w3.alloc (.cells signsV 9))) := HS3.out.below ((Below.refl _ _).alloc (Nat.le_refl _) _)
      have HF3' : Hid (Fr p W (w3.alloc (.cells signsV 9))) := HF3.out.trans (Fr.of ((Below.refl _ _).alloc (Nat.le_refl _) _))
      have HT3 : Hid (Txs (w3.alloc (.cells signsV 9)) w3.heap.size 13 3) := txs_of (MapKept.heap_alloc w3 (.cells signsV 9)).1 rfl signs_short
      have HBP : Hid (w3.heap.size ≠ p) := (show w3.heap.size ≠ p from fun e => by have := HS3.out.lt; omega)
      simp only [signsV] at HS3' HF3' HT3
      go_upto_region 9 with fail
      obtain ⟨w4, hw4⟩ : ∃ w4, w3.alloc (.cells #[.string ⟨#[43]⟩, .string ⟨#[45]⟩, .string ⟨#[42]⟩, .string ⟨#[47]⟩, .string ⟨#[37]⟩, .string ⟨#[60]⟩, .string ⟨#[60, 61]⟩, .string ⟨#[62]⟩, .string ⟨#[62, 61]⟩, .string ⟨#[61, 61, 61]⟩, .string ⟨#[33, 61, 61]⟩, .string ⟨#[38, 38]⟩, .string ⟨#[124, 124]⟩] 9) = w4 := ⟨_, rfl⟩
      rw [hw4] at HS3' HF3' HT3 ⊢
      obtain ⟨B, hB⟩ : ∃ B, w3.heap.size = B := ⟨_, rfl⟩
      rw [hB] at HT3 HBP ⊢
      clear hw4 hB HS3 HF3 HTX HAP
      clear w3
      go_wp2_with fail
      refine Calls.mono (take_any HST.out 13 (by omega) (by omega) HS3'.out) ?_
      rintro e w5 ⟨k, rfl, hk, hs5, hf5⟩
      have hk' : (k : Int) < 13 := by omega
      have hk0 : (0 : Int) ≤ k := by omega
      have HS5 : Hid (_) := hs5.out
      have HF5 : Hid (Fr p W w5) := HF3'.out.trans hf5.out
      have HT5 : Hid (Txs w5 B 13 3) := HT3.out.fr hf5.out HBP.out
      clear hs5 hf5 HS3' HF3' HT3
      go_wp2_with fail
      refine Calls.mono (HE.out _ HS5.out) ?_
      rintro e w6 ⟨x, rfl, hx, hs6, hf6⟩
      obtain ⟨hbl, htx⟩ := HT5.out.fr hf6.out HBP.out
      obtain ⟨sg, csg, hsg⟩ := htx k hk
      have HG : SgS w0 p ad n cap B k sg W w6 := ⟨csg, hbl, hs6.out, HF5.out.trans hf6.out⟩
      have HEE : Hid (∀ V, SgS w0 p ad n cap B k sg W V → Calls Try.prog 30 #[.pointer (some ⟨p, 0, none⟩), .int .i64 (D : Int)] V fun e w' => ∃ s : ByteArray, e = .returned (.string s) ∧ s.size ≤ M ∧ SgS w0 p ad n cap B k sg W w') := fun V hV => (HE.out V hV.2.2.out.1).mono (by
        rintro e w' ⟨s, rfl, h1, h2, h3⟩
        exact ⟨s, rfl, h1, hV.on HBP.out h2.out h3.out⟩)
      clear htx hs6 hf6 HS5 HF5 HT5 HE csg hbl HBP HST
      have g1 : ¬ 9223372036854775807 < 1 + x.size := by omega
      have g2 : ¬ 9223372036854775807 < 1 + x.size + 1 := by omega
      have g3 : ¬ 9223372036854775807 < 1 + x.size + 1 + sg.size := by omega
      have g4 : ¬ 9223372036854775807 < 1 + x.size + 1 + sg.size + 1 := by omega
      go_upto_region 11 with fail
      go_region_held3 (fun V => V.cell? ⟨B, k, none⟩ = some (.string sg) ∧ Hid (B < V.heap.size) ∧ Hid (Src8 w0 p ad n cap V ∧ Fr p W V)) (first | (with_reducible assumption) | (with_reducible exact SgS.drew (by with_reducible assumption))) (first | (go_at_call 30; refine Calls.mono (HEE.out _ (by first | (with_reducible assumption) | (with_reducible exact SgS.drew (by with_reducible assumption)))) ?_; rintro e w7 ⟨y, rfl, hy, hS7⟩; have g5 : ¬ 9223372036854775807 < 1 + x.size + 1 + sg.size + 1 + y.size := (by omega); have g6 : ¬ 9223372036854775807 < 1 + x.size + 1 + sg.size + 1 + y.size + 1 := (by omega)))
      go_wp2_with fail
      go_ret
      exact ⟨_, rfl, by simp only [ByteArray.size_append', ByteArray.size_mk', List.size_toArray, List.length_cons, List.length_nil]; omega, hS7.2.2.out.1, hS7.2.2.out.2⟩
    · skip
      have HS3' : Hid (Src8 w0 p ad n cap (w3.alloc (.cells signsV 9))) := HS3.out.below ((Below.refl _ _).alloc (Nat.le_refl _) _)
      have HF3' : Hid (Fr p W (w3.alloc (.cells signsV 9))) := HF3.out.trans (Fr.of ((Below.refl _ _).alloc (Nat.le_refl _) _))
      have HT3 : Hid (Txs (w3.alloc (.cells signsV 9)) w3.heap.size 13 3) := txs_of (MapKept.heap_alloc w3 (.cells signsV 9)).1 rfl signs_short
      have HBP : Hid (w3.heap.size ≠ p) := (show w3.heap.size ≠ p from fun e => by have := HS3.out.lt; omega)
      simp only [signsV] at HS3' HF3' HT3
      go_upto_region 9 with fail
      obtain ⟨w4, hw4⟩ : ∃ w4, w3.alloc (.cells #[.string ⟨#[43]⟩, .string ⟨#[45]⟩, .string ⟨#[42]⟩, .string ⟨#[47]⟩, .string ⟨#[37]⟩, .string ⟨#[60]⟩, .string ⟨#[60, 61]⟩, .string ⟨#[62]⟩, .string ⟨#[62, 61]⟩, .string ⟨#[61, 61, 61]⟩, .string ⟨#[33, 61, 61]⟩, .string ⟨#[38, 38]⟩, .string ⟨#[124, 124]⟩] 9) = w4 := ⟨_, rfl⟩
      rw [hw4] at HS3' HF3' HT3 ⊢
      obtain ⟨B, hB⟩ : ∃ B, w3.heap.size = B := ⟨_, rfl⟩
      rw [hB] at HT3 HBP ⊢
      clear hw4 hB HS3 HF3 HTX HAP
      clear w3
      go_wp2_with fail
      refine Calls.mono (take_any HST.out 13 (by omega) (by omega) HS3'.out) ?_
      rintro e w5 ⟨k, rfl, hk, hs5, hf5⟩
      have hk' : (k : Int) < 13 := by omega
      have hk0 : (0 : Int) ≤ k := by omega
      have HS5 : Hid (_) := hs5.out
      have HF5 : Hid (Fr p W w5) := HF3'.out.trans hf5.out
      have HT5 : Hid (Txs w5 B 13 3) := HT3.out.fr hf5.out HBP.out
      clear hs5 hf5 HS3' HF3' HT3
      go_wp2_with fail
      refine Calls.mono (HE.out _ HS5.out) ?_
      rintro e w6 ⟨x, rfl, hx, hs6, hf6⟩
      obtain ⟨hbl, htx⟩ := HT5.out.fr hf6.out HBP.out
      obtain ⟨sg, csg, hsg⟩ := htx k hk
      have HG : SgS w0 p ad n cap B k sg W w6 := ⟨csg, hbl, hs6.out, HF5.out.trans hf6.out⟩
      have HEE : Hid (∀ V, SgS w0 p ad n cap B k sg W V → Calls Try.prog 30 #[.pointer (some ⟨p, 0, none⟩), .int .i64 (D : Int)] V fun e w' => ∃ s : ByteArray, e = .returned (.string s) ∧ s.size ≤ M ∧ SgS w0 p ad n cap B k sg W w') := fun V hV => (HE.out V hV.2.2.out.1).mono (by
        rintro e w' ⟨s, rfl, h1, h2, h3⟩
        exact ⟨s, rfl, h1, hV.on HBP.out h2.out h3.out⟩)
      clear htx hs6 hf6 HS5 HF5 HT5 HE csg hbl HBP HST
      have g1 : ¬ 9223372036854775807 < 1 + x.size := by omega
      have g2 : ¬ 9223372036854775807 < 1 + x.size + 1 := by omega
      have g3 : ¬ 9223372036854775807 < 1 + x.size + 1 + sg.size := by omega
      have g4 : ¬ 9223372036854775807 < 1 + x.size + 1 + sg.size + 1 := by omega
      go_upto_region 11 with fail
      go_region_held3 (fun V => V.cell? ⟨B, k, none⟩ = some (.string sg) ∧ Hid (B < V.heap.size) ∧ Hid (Src8 w0 p ad n cap V ∧ Fr p W V)) (first | (with_reducible assumption) | (with_reducible exact SgS.drew (by with_reducible assumption))) (first | (go_at_call 30; refine Calls.mono (HEE.out _ (by first | (with_reducible assumption) | (with_reducible exact SgS.drew (by with_reducible assumption)))) ?_; rintro e w7 ⟨y, rfl, hy, hS7⟩; have g5 : ¬ 9223372036854775807 < 1 + x.size + 1 + sg.size + 1 + y.size := (by omega); have g6 : ¬ 9223372036854775807 < 1 + x.size + 1 + sg.size + 1 + y.size + 1 := (by omega)))
      go_wp2_with fail
      go_ret
      exact ⟨_, rfl, by simp only [ByteArray.size_append', ByteArray.size_mk', List.size_toArray, List.length_cons, List.length_nil]; omega, hS7.2.2.out.1, hS7.2.2.out.2⟩
    · skip
      have HSS : Hid (Src8 w0 p ad n cap w3 ∧ Fr p W w3) := ⟨HS3.out, HF3.out⟩
      have HBP : Hid (w3.heap.size ≠ p) := (show w3.heap.size ≠ p from fun e => by have := HS3.out.lt; omega)
      have HTK : Hid (∀ V, Hid (Src8 w0 p ad n cap V ∧ Fr p W V) → Calls Try.prog 31 #[.pointer (some ⟨p, 0, none⟩), .int .i64 3] V fun e w' => ∃ r : Nat, e = .returned (.int .i64 (r : Int)) ∧ r < 3 ∧ Hid (Src8 w0 p ad n cap w' ∧ Fr p W w') ∧ Hid (Fr p V w')) := fun V hV => (take_any HST.out 3 (by omega) (by omega) hV.out.1).mono (by
        rintro e w' ⟨r, rfl, h1, h2, h3⟩
        exact ⟨r, rfl, h1, (show Src8 _ _ _ _ _ _ ∧ _ from ⟨h2.out, hV.out.2.trans h3.out⟩), h3⟩)
      have HEE : Hid (∀ V, Hid (Src8 w0 p ad n cap V ∧ Fr p W V) → Calls Try.prog 30 #[.pointer (some ⟨p, 0, none⟩), .int .i64 (D : Int)] V fun e w' => ∃ s : ByteArray, e = .returned (.string s) ∧ s.size ≤ M ∧ Hid (Src8 w0 p ad n cap w' ∧ Fr p W w') ∧ Hid (Fr p V w')) := fun V hV => (HE.out V hV.out.1).mono (by
        rintro e w' ⟨s, rfl, h1, h2, h3⟩
        exact ⟨s, rfl, h1, (show Src8 _ _ _ _ _ _ ∧ _ from ⟨h2.out, hV.out.2.trans h3.out⟩), h3⟩)
      clear HS3 HF3 HTX HAP HE HST
      go_upto_region 13 with fail
      go_region_with (first | (go_at_call 31; refine Calls.mono (HTK.out _ (by repeat (first | (with_reducible assumption) | (with_reducible refine alloc8 ?_ _) | (with_reducible refine drew8 ?_)))) ?_; rintro e wT ⟨r, rfl, hr, hST, hfT⟩; obtain ⟨s, hs1, hs2⟩ := lit3_at r hr; have hlit := fun X : World => alloc_lit X (t := 9) hs1; have hrr : (r : Int) < 3 := (by omega); have hr0 : (0 : Int) ≤ r := (by omega); have hTP : wT.heap.size ≠ p := (fun e => by have := hST.out.1.lt; omega); have g1 : ¬ 9223372036854775807 < 1 + s.size := (by omega); first | (obtain ⟨csT, hlT⟩ := lit_after hfT.out HBP.out hs1) | skip) | (go_at_call 30; refine Calls.mono (HEE.out _ (by repeat (first | (with_reducible assumption) | (with_reducible refine alloc8 ?_ _) | (with_reducible refine drew8 ?_)))) ?_; rintro e wE ⟨y, rfl, hy, hSE, hfE⟩; have g2 : ¬ 9223372036854775807 < 1 + s.size + y.size := (by omega); have g3 : ¬ 9223372036854775807 < 1 + s.size + y.size + 1 := (by omega); first | (have csE := (hfE.out.cell hlT HBP.out).trans csT) | (obtain ⟨csE, hlE⟩ := lit_after hfE.out hTP hs1) | skip))
      all_goals
        go_wp2_with fail
        go_ret
        exact ⟨_, rfl, by simp only [ByteArray.size_append', ByteArray.size_mk', List.size_toArray, List.length_cons, List.length_nil]; omega, fin8 (by repeat (first | (with_reducible assumption) | (with_reducible refine alloc8 ?_ _) | (with_reducible refine drew8 ?_)))⟩
    · skip
      have HSS : Hid (Src8 w0 p ad n cap w3 ∧ Fr p W w3) := ⟨HS3.out, HF3.out⟩
      have HBP : Hid (w3.heap.size ≠ p) := (show w3.heap.size ≠ p from fun e => by have := HS3.out.lt; omega)
      have HTK : Hid (∀ V, Hid (Src8 w0 p ad n cap V ∧ Fr p W V) → Calls Try.prog 31 #[.pointer (some ⟨p, 0, none⟩), .int .i64 12] V fun e w' => ∃ r : Nat, e = .returned (.int .i64 (r : Int)) ∧ r < 12 ∧ Hid (Src8 w0 p ad n cap w' ∧ Fr p W w') ∧ Hid (Fr p V w')) := fun V hV => (take_any HST.out 12 (by omega) (by omega) hV.out.1).mono (by
        rintro e w' ⟨r, rfl, h1, h2, h3⟩
        exact ⟨r, rfl, h1, (show Src8 _ _ _ _ _ _ ∧ _ from ⟨h2.out, hV.out.2.trans h3.out⟩), h3⟩)
      have HEE : Hid (∀ V, Hid (Src8 w0 p ad n cap V ∧ Fr p W V) → Calls Try.prog 30 #[.pointer (some ⟨p, 0, none⟩), .int .i64 (D : Int)] V fun e w' => ∃ s : ByteArray, e = .returned (.string s) ∧ s.size ≤ M ∧ Hid (Src8 w0 p ad n cap w' ∧ Fr p W w') ∧ Hid (Fr p V w')) := fun V hV => (HE.out V hV.out.1).mono (by
        rintro e w' ⟨s, rfl, h1, h2, h3⟩
        exact ⟨s, rfl, h1, (show Src8 _ _ _ _ _ _ ∧ _ from ⟨h2.out, hV.out.2.trans h3.out⟩), h3⟩)
      clear HS3 HF3 HTX HAP HE HST
      go_wp2_with fail
      refine Calls.mono (HEE.out _ HSS) ?_
      rintro e wx ⟨x, rfl, hx, hSx, hfx⟩
      have g1 : ¬ 9223372036854775807 < 1 + x.size := by omega
      have g2 : ¬ 9223372036854775807 < 1 + x.size + 3 := by omega
      go_wp2_with fail
      refine Calls.mono (HEE.out _ hSx) ?_
      rintro e wy ⟨y, rfl, hy, hSy, hfy⟩
      have g3 : ¬ 9223372036854775807 < 1 + x.size + 3 + y.size := by omega
      have g4 : ¬ 9223372036854775807 < 1 + x.size + 3 + y.size + 3 := by omega
      go_wp2_with fail
      refine Calls.mono (HEE.out _ hSy) ?_
      rintro e wz ⟨z, rfl, hz, hSz, hfz⟩
      have g5 : ¬ 9223372036854775807 < 1 + x.size + 3 + y.size + 3 + z.size := by omega
      have g6 : ¬ 9223372036854775807 < 1 + x.size + 3 + y.size + 3 + z.size + 1 := by omega
      go_wp2_with fail
      go_ret
      exact ⟨_, rfl, by simp only [ByteArray.size_append', ByteArray.size_mk', List.size_toArray, List.length_cons, List.length_nil]; omega, fin8 (by repeat (first | (with_reducible assumption) | (with_reducible refine alloc8 ?_ _) | (with_reducible refine drew8 ?_)))⟩
    · skip
      have HSS : Hid (Src8 w0 p ad n cap w3 ∧ Fr p W w3) := ⟨HS3.out, HF3.out⟩
      have HBP : Hid (w3.heap.size ≠ p) := (show w3.heap.size ≠ p from fun e => by have := HS3.out.lt; omega)
      have HTK : Hid (∀ V, Hid (Src8 w0 p ad n cap V ∧ Fr p W V) → Calls Try.prog 31 #[.pointer (some ⟨p, 0, none⟩), .int .i64 6] V fun e w' => ∃ r : Nat, e = .returned (.int .i64 (r : Int)) ∧ r < 6 ∧ Hid (Src8 w0 p ad n cap w' ∧ Fr p W w') ∧ Hid (Fr p V w')) := fun V hV => (take_any HST.out 6 (by omega) (by omega) hV.out.1).mono (by
        rintro e w' ⟨r, rfl, h1, h2, h3⟩
        exact ⟨r, rfl, h1, (show Src8 _ _ _ _ _ _ ∧ _ from ⟨h2.out, hV.out.2.trans h3.out⟩), h3⟩)
      have HEE : Hid (∀ V, Hid (Src8 w0 p ad n cap V ∧ Fr p W V) → Calls Try.prog 30 #[.pointer (some ⟨p, 0, none⟩), .int .i64 (D : Int)] V fun e w' => ∃ s : ByteArray, e = .returned (.string s) ∧ s.size ≤ M ∧ Hid (Src8 w0 p ad n cap w' ∧ Fr p W w') ∧ Hid (Fr p V w')) := fun V hV => (HE.out V hV.out.1).mono (by
        rintro e w' ⟨s, rfl, h1, h2, h3⟩
        exact ⟨s, rfl, h1, (show Src8 _ _ _ _ _ _ ∧ _ from ⟨h2.out, hV.out.2.trans h3.out⟩), h3⟩)
      clear HS3 HF3 HTX HAP HE HST
      go_upto_region 19 with fail
      go_region_with (first | (go_at_call 31; refine Calls.mono (HTK.out _ (by repeat (first | (with_reducible assumption) | (with_reducible refine alloc8 ?_ _) | (with_reducible refine drew8 ?_)))) ?_; rintro e wT ⟨r, rfl, hr, hST, hfT⟩; obtain ⟨s, hs1, hs2⟩ := lit6_at r hr; have hlit := fun X : World => alloc_lit X (t := 9) hs1; have hrr : (r : Int) < 6 := (by omega); have hr0 : (0 : Int) ≤ r := (by omega); have hTP : wT.heap.size ≠ p := (fun e => by have := hST.out.1.lt; omega); skip; first | (obtain ⟨csT, hlT⟩ := lit_after hfT.out HBP.out hs1) | skip) | (go_at_call 30; refine Calls.mono (HEE.out _ (by repeat (first | (with_reducible assumption) | (with_reducible refine alloc8 ?_ _) | (with_reducible refine drew8 ?_)))) ?_; rintro e wE ⟨y, rfl, hy, hSE, hfE⟩; have g1 : ¬ 9223372036854775807 < s.size + y.size := (by omega); have g2 : ¬ 9223372036854775807 < s.size + y.size + 1 := (by omega); first | (have csE := (hfE.out.cell hlT HBP.out).trans csT) | (obtain ⟨csE, hlE⟩ := lit_after hfE.out hTP hs1) | skip))
      all_goals
        go_wp2_with fail
        go_ret
        exact ⟨_, rfl, by simp only [ByteArray.size_append', ByteArray.size_mk', List.size_toArray, List.length_cons, List.length_nil]; omega, fin8 (by repeat (first | (with_reducible assumption) | (with_reducible refine alloc8 ?_ _) | (with_reducible refine drew8 ?_)))⟩
    · skip
      have HSS : Hid (Src8 w0 p ad n cap w3 ∧ Fr p W w3) := ⟨HS3.out, HF3.out⟩
      have HBP : Hid (w3.heap.size ≠ p) := (show w3.heap.size ≠ p from fun e => by have := HS3.out.lt; omega)
      have HTK : Hid (∀ V, Hid (Src8 w0 p ad n cap V ∧ Fr p W V) → Calls Try.prog 31 #[.pointer (some ⟨p, 0, none⟩), .int .i64 11] V fun e w' => ∃ r : Nat, e = .returned (.int .i64 (r : Int)) ∧ r < 11 ∧ Hid (Src8 w0 p ad n cap w' ∧ Fr p W w') ∧ Hid (Fr p V w')) := fun V hV => (take_any HST.out 11 (by omega) (by omega) hV.out.1).mono (by
        rintro e w' ⟨r, rfl, h1, h2, h3⟩
        exact ⟨r, rfl, h1, (show Src8 _ _ _ _ _ _ ∧ _ from ⟨h2.out, hV.out.2.trans h3.out⟩), h3⟩)
      have HEE : Hid (∀ V, Hid (Src8 w0 p ad n cap V ∧ Fr p W V) → Calls Try.prog 30 #[.pointer (some ⟨p, 0, none⟩), .int .i64 (D : Int)] V fun e w' => ∃ s : ByteArray, e = .returned (.string s) ∧ s.size ≤ M ∧ Hid (Src8 w0 p ad n cap w' ∧ Fr p W w') ∧ Hid (Fr p V w')) := fun V hV => (HE.out V hV.out.1).mono (by
        rintro e w' ⟨s, rfl, h1, h2, h3⟩
        exact ⟨s, rfl, h1, (show Src8 _ _ _ _ _ _ ∧ _ from ⟨h2.out, hV.out.2.trans h3.out⟩), h3⟩)
      clear HS3 HF3 HTX HAP HE HST
      go_wp2_with fail
      refine Calls.mono (HTK.out _ (alloc8 HSS _)) ?_
      rintro e wT ⟨r, rfl, hr, hST, hfT⟩
      obtain ⟨s, hs1, hs2⟩ := lit11_at r hr
      obtain ⟨csT, hlT⟩ := lit_after hfT.out HBP.out hs1
      have hrr : (r : Int) < 11 := by omega
      have hr0 : (0 : Int) ≤ r := by omega
      go_wp2_with fail
      refine Calls.mono (HEE.out _ hST) ?_
      rintro e wy ⟨y, rfl, hy, hSy, hfy⟩
      have g1 : ¬ 9223372036854775807 < s.size + y.size := by omega
      have g2 : ¬ 9223372036854775807 < s.size + y.size + 1 := by omega
      go_wp2_with fail
      go_ret
      exact ⟨_, rfl, by simp only [ByteArray.size_append', ByteArray.size_mk', List.size_toArray, List.length_cons, List.length_nil]; omega, fin8 (by repeat (first | (with_reducible assumption) | (with_reducible refine alloc8 ?_ _) | (with_reducible refine drew8 ?_)))⟩
    · skip
      have HSS : Hid (Src8 w0 p ad n cap w3 ∧ Fr p W w3) := ⟨HS3.out, HF3.out⟩
      have HBP : Hid (w3.heap.size ≠ p) := (show w3.heap.size ≠ p from fun e => by have := HS3.out.lt; omega)
      have HTK : Hid (∀ V, Hid (Src8 w0 p ad n cap V ∧ Fr p W V) → Calls Try.prog 31 #[.pointer (some ⟨p, 0, none⟩), .int .i64 12] V fun e w' => ∃ r : Nat, e = .returned (.int .i64 (r : Int)) ∧ r < 12 ∧ Hid (Src8 w0 p ad n cap w' ∧ Fr p W w') ∧ Hid (Fr p V w')) := fun V hV => (take_any HST.out 12 (by omega) (by omega) hV.out.1).mono (by
        rintro e w' ⟨r, rfl, h1, h2, h3⟩
        exact ⟨r, rfl, h1, (show Src8 _ _ _ _ _ _ ∧ _ from ⟨h2.out, hV.out.2.trans h3.out⟩), h3⟩)
      have HEE : Hid (∀ V, Hid (Src8 w0 p ad n cap V ∧ Fr p W V) → Calls Try.prog 30 #[.pointer (some ⟨p, 0, none⟩), .int .i64 (D : Int)] V fun e w' => ∃ s : ByteArray, e = .returned (.string s) ∧ s.size ≤ M ∧ Hid (Src8 w0 p ad n cap w' ∧ Fr p W w') ∧ Hid (Fr p V w')) := fun V hV => (HE.out V hV.out.1).mono (by
        rintro e w' ⟨s, rfl, h1, h2, h3⟩
        exact ⟨s, rfl, h1, (show Src8 _ _ _ _ _ _ ∧ _ from ⟨h2.out, hV.out.2.trans h3.out⟩), h3⟩)
      clear HS3 HF3 HTX HAP HE HST
      go_wp2_with fail
      refine Calls.mono (HEE.out _ HSS) ?_
      rintro e wx ⟨x, rfl, hx, hSx, hfx⟩
      have g1 : ¬ 9223372036854775807 < 1 + x.size := by omega
      have g2 : ¬ 9223372036854775807 < 1 + x.size + 2 := by omega
      go_wp2_with fail
      refine Calls.mono (HEE.out _ hSx) ?_
      rintro e wy ⟨y, rfl, hy, hSy, hfy⟩
      have g3 : ¬ 9223372036854775807 < 1 + x.size + 2 + y.size := by omega
      have g4 : ¬ 9223372036854775807 < 1 + x.size + 2 + y.size + 1 := by omega
      go_wp2_with fail
      go_ret
      exact ⟨_, rfl, by simp only [ByteArray.size_append', ByteArray.size_mk', List.size_toArray, List.length_cons, List.length_nil]; omega, fin8 (by repeat (first | (with_reducible assumption) | (with_reducible refine alloc8 ?_ _) | (with_reducible refine drew8 ?_)))⟩
    · skip
      have HSS : Hid (Src8 w0 p ad n cap w3 ∧ Fr p W w3) := ⟨HS3.out, HF3.out⟩
      have HBP : Hid (w3.heap.size ≠ p) := (show w3.heap.size ≠ p from fun e => by have := HS3.out.lt; omega)
      have HTK : Hid (∀ V, Hid (Src8 w0 p ad n cap V ∧ Fr p W V) → Calls Try.prog 31 #[.pointer (some ⟨p, 0, none⟩), .int .i64 12] V fun e w' => ∃ r : Nat, e = .returned (.int .i64 (r : Int)) ∧ r < 12 ∧ Hid (Src8 w0 p ad n cap w' ∧ Fr p W w') ∧ Hid (Fr p V w')) := fun V hV => (take_any HST.out 12 (by omega) (by omega) hV.out.1).mono (by
        rintro e w' ⟨r, rfl, h1, h2, h3⟩
        exact ⟨r, rfl, h1, (show Src8 _ _ _ _ _ _ ∧ _ from ⟨h2.out, hV.out.2.trans h3.out⟩), h3⟩)
      have HEE : Hid (∀ V, Hid (Src8 w0 p ad n cap V ∧ Fr p W V) → Calls Try.prog 30 #[.pointer (some ⟨p, 0, none⟩), .int .i64 (D : Int)] V fun e w' => ∃ s : ByteArray, e = .returned (.string s) ∧ s.size ≤ M ∧ Hid (Src8 w0 p ad n cap w' ∧ Fr p W w') ∧ Hid (Fr p V w')) := fun V hV => (HE.out V hV.out.1).mono (by
        rintro e w' ⟨s, rfl, h1, h2, h3⟩
        exact ⟨s, rfl, h1, (show Src8 _ _ _ _ _ _ ∧ _ from ⟨h2.out, hV.out.2.trans h3.out⟩), h3⟩)
      clear HS3 HF3 HTX HAP HE HST
      go_wp2_with fail
      refine Calls.mono (HEE.out _ HSS) ?_
      rintro e wx ⟨x, rfl, hx, hSx, hfx⟩
      have g1 : ¬ 9223372036854775807 < 4 + x.size := by omega
      have g2 : ¬ 9223372036854775807 < 4 + x.size + 5 := by omega
      go_wp2_with fail
      refine Calls.mono (HEE.out _ hSx) ?_
      rintro e wy ⟨y, rfl, hy, hSy, hfy⟩
      have g3 : ¬ 9223372036854775807 < 4 + x.size + 5 + y.size := by omega
      have g4 : ¬ 9223372036854775807 < 4 + x.size + 5 + y.size + 3 := by omega
      go_wp2_with fail
      go_ret
      exact ⟨_, rfl, by simp only [ByteArray.size_append', ByteArray.size_mk', List.size_toArray, List.length_cons, List.length_nil]; omega, fin8 (by repeat (first | (with_reducible assumption) | (with_reducible refine alloc8 ?_ _) | (with_reducible refine drew8 ?_)))⟩
    · skip
      have q0 : ¬ (r : Int) = 0 := by omega
      have b0 : ((r : Int) == 0) = false := by rw [beq_eq_false_iff_ne]; exact q0
      have q1 : ¬ (r : Int) = 1 := by omega
      have b1 : ((r : Int) == 1) = false := by rw [beq_eq_false_iff_ne]; exact q1
      have q2 : ¬ (r : Int) = 2 := by omega
      have b2 : ((r : Int) == 2) = false := by rw [beq_eq_false_iff_ne]; exact q2
      have q3 : ¬ (r : Int) = 3 := by omega
      have b3 : ((r : Int) == 3) = false := by rw [beq_eq_false_iff_ne]; exact q3
      have q4 : ¬ (r : Int) = 4 := by omega
      have b4 : ((r : Int) == 4) = false := by rw [beq_eq_false_iff_ne]; exact q4
      have q5 : ¬ (r : Int) = 5 := by omega
      have b5 : ((r : Int) == 5) = false := by rw [beq_eq_false_iff_ne]; exact q5
      have q6 : ¬ (r : Int) = 6 := by omega
      have b6 : ((r : Int) == 6) = false := by rw [beq_eq_false_iff_ne]; exact q6
      have q7 : ¬ (r : Int) = 7 := by omega
      have b7 : ((r : Int) == 7) = false := by rw [beq_eq_false_iff_ne]; exact q7
      have q8 : ¬ (r : Int) = 8 := by omega
      have b8 : ((r : Int) == 8) = false := by rw [beq_eq_false_iff_ne]; exact q8
      go_wp2_with fail
      refine Calls.mono (take_any HST.out 24 (by omega) (by omega) HS3.out) ?_
      rintro e w5 ⟨r2, rfl, hr2, hs5, hf5⟩
      have hr' : (r2 : Int) < 24 := by omega
      have hr0 : (0 : Int) ≤ r2 := by omega
      obtain ⟨hal, htx⟩ := HTX.out.fr hf5.out (HAP.out)
      obtain ⟨s, cs, hss⟩ := htx r2 hr2
      have HS5 : Hid (_) := hs5.out
      have HF5 : Hid (Fr p W w5) := HF3.out.trans hf5.out
      clear htx hs5 hf5 HTX
      go_wp2_with fail
      go_ret
      exact ⟨s, rfl, by omega, HS5.out, HF5.out⟩
/-- How long an expression may be. -/
def eB : Nat → Nat
  | 0 => 12
  | d + 1 => 3 * eB d + 60
theorem e_any (hst : St8 w0 p ad n cap Z) : ∀ (d : Nat), d ≤ 4 → ∀ V, Src8 w0 p ad n cap V → Calls Try.prog 30 #[.pointer (some ⟨p, 0, none⟩), .int .i64 (d : Int)] V fun e w' => Tell w0 p ad n cap (eB d) V e w'
  | 0, _, V, h => e_leaf hst h
  | d + 1, hd, V, h => by
    have ih := e_any hst d (by omega)
    have hb : eB d ≤ 2000 ∧ 12 ≤ eB d := by
      have : d = 0 ∨ d = 1 ∨ d = 2 ∨ d = 3 := by omega
      rcases this with rfl | rfl | rfl | rfl <;> decide
    have := e_step hst h d (eB d) (by omega) hb.1 hb.2 ih
    simpa [eB] using this
end
end Go.Proofs.Ytkaacmghgobhmaa.W8
