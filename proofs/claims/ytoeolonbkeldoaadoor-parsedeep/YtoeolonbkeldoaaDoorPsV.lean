/- The parser's items by their contracts: e's, names, with a comma between. -/
import Derived.Test.YtoeolonbkeldoaaDoorPsQ
namespace Go.Proofs.YtoeolonbkeldoaaDoor.R
open Go.RowKit
open L (tkA intOf wpList_append_run)
set_option linter.unusedVariables false
open Ps in
theorem take_fewer {s : Ps.St} (g : Ps.Good s) {m : List UInt8} (hm : m ≠ []) {s' : Ps.St} (h : take m s = (true, s')) : s'.toks.length + 1 ≤ s.toks.length := by
  unfold take at h
  split at h
  · rename_i e
    have h1 := more_of g (mark_kind (by rw [e]; exact hm))
    unfold skip at h
    rw [if_pos h1] at h
    have : s' = { s with toks := s.toks.tail } := (Prod.mk.injEq .. ▸ h).2.symm
    subst this
    simp; omega
  · simp at h
open Ps in
theorem items_ru {α : Type} {item : M α} {m : List UInt8} {s s' : Ps.St} {K : List α} (g : Gr item) (h : Ru (items m item) s K s') :
    (Ru (take m) s true s' ∧ K = []) ∨ ∃ s1 x s2 s3 u, Ru (take m) s false s1 ∧ Ru item s1 x s2 ∧ Ru (itemsLoop item s2.toks.length [x]) s2 K s3 ∧ Ru (want m) s3 u s' := by
  obtain ⟨e, n⟩ := h
  unfold items at e
  rcases e0 : take m s with ⟨b, s1⟩
  rw [e0] at e
  cases b
  · right
    simp only at e
    rcases e1 : item s1 with ⟨x, s2⟩
    simp only [e1] at e
    rcases e2 : itemsLoop item s2.toks.length [x] s2 with ⟨K', s3⟩
    simp only [e2] at e
    obtain ⟨rfl, e3⟩ := Prod.mk.inj e
    have e4 : want m s3 = ((), s') := Prod.ext rfl e3
    have n3 := gb (gr_want m) e4 n
    have n2 := gb (gr_itemsLoop g _ _) e2 n3
    have n1 := gb g e1 n2
    exact ⟨s1, x, s2, s3, (), ⟨e0, n1⟩, ⟨e1, n2⟩, ⟨e2, n3⟩, ⟨e4, n⟩⟩
  · left
    simp only at e
    obtain ⟨rfl, rfl⟩ := Prod.mk.inj e
    exact ⟨⟨e0, n⟩, rfl⟩
open Ps in
theorem itemsLoop_ru {α : Type} {item : M α} {f : Nat} {l K : List α} {s s' : Ps.St} (g : Gr item) (h : Ru (itemsLoop item (f + 1) l) s K s') :
    (Ru (take [44]) s false s' ∧ K = l) ∨ ∃ s1 x s2, Ru (take [44]) s true s1 ∧ Ru item s1 x s2 ∧ Ru (itemsLoop item f (l ++ [x])) s2 K s' := by
  obtain ⟨e, n⟩ := h
  unfold itemsLoop at e
  rcases e0 : take [44] s with ⟨b, s1⟩
  rw [e0] at e
  cases b
  · left
    simp only at e
    obtain ⟨rfl, rfl⟩ := Prod.mk.inj e
    exact ⟨⟨e0, n⟩, rfl⟩
  · right
    simp only at e
    rcases e1 : item s1 with ⟨x, s2⟩
    simp only [e1] at e
    have n2 := gb (gr_itemsLoop g _ _) e n
    have n1 := gb g e1 n2
    exact ⟨s1, x, s2, ⟨e0, n1⟩, ⟨e1, n2⟩, ⟨e, n⟩⟩
/-- A call tells names and leaves the reader in a state. -/
def TellsN (F : Nat → Prop) (base B dep : Nat) (nv : Value) (w : World) (s' : Ps.St) (K : List (List UInt8)) : Ending → World → Prop := fun e w' => ∃ ad cap, e = .returned (.slice ad K.length cap) ∧ ∃ nv', RS F base B dep s' nv' w' ∧ Chg B nv nv' w w' ∧ NV F B nv' w' (.slice ad K.length cap) K
/-- Where the loop of items stands. -/
structure Ite (F : Nat → Prop) (base B dep : Nat) (item : Ps.M Nat) (nv : Value) (w W : World) (a : Option Addr) (cap : Nat) (K1 : List Nat) (s1 : Ps.St) (K : List Nat) (s' : Ps.St) : Prop where
  ko : ∃ nv1, KO F base B dep s1 nv1 w W 3 (.slice a K1.length cap) K1.length (kc K1) ∧ Chg B nv nv1 w W
  run : ∃ f, Ru (Ps.itemsLoop item f K1) s1 K s' ∧ s1.toks.length ≤ f
  cnt : K1.length + s1.toks.length ≤ 100001
set_option maxRecDepth 100000 in
set_option maxHeartbeats 2000000 in
theorem c_items_e {F : Nat → Prop} {base B dep : Nat} {L : Ps.Lv} {s s' : Ps.St} {nv : Value} {w : World} {K : List Nat} {m : List UInt8} (hL : ∀ F, LvC F base B dep L) (hS : Ps.ShL L) (E : Ru (Ps.items m L.e) s K s') (h : RS F base B dep s nv w) : Calls Tryd.prog 89 #[.pointer (some ⟨B, 0, none⟩), .string ⟨m.toArray⟩, .func (.func 67) #[.pointer (some ⟨B, 0, none⟩)] #[]] w (TellsK F base B dep nv w s' K) := by
  rcases items_ru (hL F).gr.e E with ⟨E0, rfl⟩ | ⟨s1, x, s2, s3, u, E1, E2, E3, E4⟩
  · have H : Hid (_) := h
    go_enter Tryd.func89, Tryd.ntmps89
    go_wp2_with fail
    refine Calls.mono (c_take E0 h) ?_
    rintro e w1 ⟨rfl, nv1, hr1, hc1⟩
    go_wp2_with fail
    go_ret
    exact ⟨none, 0, rfl, nv1, hr1, hc1, KV.nil _ _ _ _⟩
  · have H : Hid (_) := h
    go_enter Tryd.func89, Tryd.ntmps89
    go_wp2_with fail
    refine Calls.mono (c_take E1 h) ?_
    rintro e w1 ⟨rfl, nv1, hr1, hc1⟩
    go_wp2_with fail
    refine Calls.mono (c_e hL E2 hr1) ?_
    rintro e w2 ⟨rfl, nv2, hr2, hc2⟩
    have hko := KO.lit (w0 := w) (e := 3) hr2 (Nat.le_trans hc1.size hc2.size) #[.int .i64 (x : Int)] 1 rfl (by omega)
    have hg2 := hr2.good
    have HSTART : Hid (Ite F base B dep L.e nv w (w2.alloc (.cells #[.int .i64 (x : Int)] 3)) (some ⟨w2.heap.size, 0, none⟩) 1 [x] s2 K s3) := (show Ite _ _ _ _ _ _ _ _ _ _ _ _ _ _ from ⟨⟨nv2, hko, (hc1.trans hc2).alloc _⟩, ⟨_, E3, Nat.le_refl _⟩, by have := hr2.few; simp; omega⟩)
    clear hko hg2 hr2 hc2 hr1 hc1 h E1 E2 E3 E
    go_wp2_with fail
    go_loopw [7] (fun v W => ∃ (K1 : List Nat) (a : Option Addr) (cap : Nat) (s1 : Ps.St), v = .slice a K1.length cap ∧ Hid (Ite F base B dep L.e nv w W a cap K1 s1 K s3)) (fun _ W => tokN B W)
    case atStart => exact ⟨[x], _, 1, s2, rfl, HSTART⟩
    case round =>
      obtain ⟨K1, a, cap, s1, rfl, HI⟩ := hrel
      clear HSTART
      obtain ⟨⟨nv1, hko, hchg⟩, ⟨f, hrun, hf⟩, hcnt⟩ := HI.out
      have hg := hko.rs.good
      have HT0 : Hid (_) := hko.rs.tokN
      obtain ⟨f, rfl⟩ : ∃ f', f = f' + 1 := ⟨f - 1, by have := hg.one; omega⟩
      rcases itemsLoop_ru (hL F).gr.e hrun with ⟨E5, rfl⟩ | ⟨s4, y, s5, E5, E6, E7⟩
      · have HKO : Hid (_) := hko
        have HC : Hid (_) := hchg
        clear hrun hf hcnt hko HI HT0 hchg hg
        go_wp2_with fail
        refine Calls.mono (c_take (m := [44]) E5 HKO.out.rs) ?_
        rintro e w2 ⟨rfl, nv2, hr2, hc2⟩
        have HKO2 : Hid (_) := HKO.out.go hr2 hc2
        have HC2 : Hid (_) := HC.out.trans hc2
        clear hr2 hc2 HKO HC
        go_wp2_with fail
        refine Calls.mono (c_want E4 HKO2.out.rs) ?_
        rintro e w3 ⟨rfl, nv3, hr3, hc3⟩
        have HE : Hid (_) := (HKO2.out.go hr3 hc3).kv H.out
        have HC3 : Hid (_) := HC2.out.trans hc3
        clear hr3 hc3 HKO2 HC2
        go_wp2_with fail
        go_ret
        exact ⟨a, cap, rfl, nv3, HE.out.1, HC3.out, HE.out.2⟩
      · have htf := take_fewer hg (by decide) E5.eq
        have hle : s5.toks.length ≤ s4.toks.length := by
          have := hS.e s4 (by have := Ps.sh_take [44] s1 hg; rw [E5.eq] at this; exact this.good)
          rw [E6.eq] at this
          exact this.le
        have HKO : Hid (_) := hko
        have HC : Hid (_) := hchg
        have HD : Hid (_ ∧ _) := (show _ ∧ _ from ⟨hf, hcnt⟩)
        have HD2 : Hid (_ ∧ _) := (show _ ∧ _ from ⟨htf, hle⟩)
        clear hrun hf hcnt hko HI hchg htf hle hg
        go_wp2_with fail
        refine Calls.mono (c_take (m := [44]) E5 HKO.out.rs) ?_
        rintro e w2 ⟨rfl, nv2, hr2, hc2⟩
        have HKO2 : Hid (_) := HKO.out.go hr2 hc2
        have HC2 : Hid (_) := HC.out.trans hc2
        clear hr2 hc2 HKO HC
        go_wp2_with fail
        refine Calls.mono (c_e hL E6 HKO2.out.rs) ?_
        rintro e w3 ⟨rfl, nv3, hr3, hc3⟩
        obtain ⟨a4, cap4, w4, hap, hko4, hc4⟩ := (HKO2.out.go hr3 hc3).kid y (by have := HD.out; have := HD2.out; omega)
        have HRn : Hid (_) := hap
        have HKO4 : Hid (_) := hko4
        have HC4 : Hid (_) := hc4 _ (HC2.out.trans hc3)
        clear hr3 hc3 HKO2 HC2 hap hko4 hc4
        go_wp2_with (at_builtin; refine wpList_append_run _ _ 28 rfl rfl _ _ _ _ rfl rfl HRn.out ?_)
        go_roundw
        case rel =>
          refine ⟨K1 ++ [y], a4, cap4, s5, by simp, ?_⟩
          have h1 := HD.out
          have h2 := HD2.out
          exact (show Ite _ _ _ _ _ _ _ _ _ _ _ _ _ _ from ⟨⟨nv3, by simpa using HKO4.out, HC4.out⟩, ⟨f, E7, by omega⟩, by simp; omega⟩)
        case measure =>
          have h1 := HKO4.out.rs.tokN
          have := HD2.out
          have h3 := HT0.out
          show _ < _
          rw [h1, h3]; omega
/-- Where the loop of items stands. -/
structure Itn (F : Nat → Prop) (base B dep : Nat) (item : Ps.M (List UInt8)) (nv : Value) (w W : World) (a : Option Addr) (cap : Nat) (K1 : List (List UInt8)) (s1 : Ps.St) (K : List (List UInt8)) (s' : Ps.St) : Prop where
  ko : ∃ nv1, KO F base B dep s1 nv1 w W 9 (.slice a K1.length cap) K1.length (nc K1) ∧ Chg B nv nv1 w W
  run : ∃ f, Ru (Ps.itemsLoop item f K1) s1 K s' ∧ s1.toks.length ≤ f
  cnt : K1.length + s1.toks.length ≤ 100001
set_option maxRecDepth 100000 in
set_option maxHeartbeats 2000000 in
theorem c_items_n {F : Nat → Prop} {base B dep : Nat} {s s' : Ps.St} {nv : Value} {w : World} {K : List (List UInt8)} {m : List UInt8} (E : Ru (Ps.items m Ps.name) s K s') (h : RS F base B dep s nv w) : Calls Tryd.prog 76 #[.pointer (some ⟨B, 0, none⟩), .string ⟨m.toArray⟩, .func (.func 69) #[.pointer (some ⟨B, 0, none⟩)] #[]] w (TellsN F base B dep nv w s' K) := by
  rcases items_ru Ps.gr_name E with ⟨E0, rfl⟩ | ⟨s1, x, s2, s3, u, E1, E2, E3, E4⟩
  · have H : Hid (_) := h
    go_enter Tryd.func76, Tryd.ntmps76
    go_wp2_with fail
    refine Calls.mono (c_take E0 h) ?_
    rintro e w1 ⟨rfl, nv1, hr1, hc1⟩
    go_wp2_with fail
    go_ret
    exact ⟨none, 0, rfl, nv1, hr1, hc1, NV.nil _ _ _ _⟩
  · have H : Hid (_) := h
    go_enter Tryd.func76, Tryd.ntmps76
    go_wp2_with fail
    refine Calls.mono (c_take E1 h) ?_
    rintro e w1 ⟨rfl, nv1, hr1, hc1⟩
    go_wp2_with fail
    refine Calls.mono (c_name E2 hr1) ?_
    rintro e w2 ⟨rfl, nv2, hr2, hc2⟩
    have hko := KO.lit (w0 := w) (e := 9) hr2 (Nat.le_trans hc1.size hc2.size) #[.string ⟨x.toArray⟩] 1 rfl (by omega)
    have hg2 := hr2.good
    have HSTART : Hid (Itn F base B dep Ps.name nv w (w2.alloc (.cells #[.string ⟨x.toArray⟩] 9)) (some ⟨w2.heap.size, 0, none⟩) 1 [x] s2 K s3) := (show Itn _ _ _ _ _ _ _ _ _ _ _ _ _ _ from ⟨⟨nv2, hko, (hc1.trans hc2).alloc _⟩, ⟨_, E3, Nat.le_refl _⟩, by have := hr2.few; simp; omega⟩)
    clear hko hg2 hr2 hc2 hr1 hc1 h E1 E2 E3 E
    go_wp2_with fail
    go_loopw [7] (fun v W => ∃ (K1 : List (List UInt8)) (a : Option Addr) (cap : Nat) (s1 : Ps.St), v = .slice a K1.length cap ∧ Hid (Itn F base B dep Ps.name nv w W a cap K1 s1 K s3)) (fun _ W => tokN B W)
    case atStart => exact ⟨[x], _, 1, s2, rfl, HSTART⟩
    case round =>
      obtain ⟨K1, a, cap, s1, rfl, HI⟩ := hrel
      clear HSTART
      obtain ⟨⟨nv1, hko, hchg⟩, ⟨f, hrun, hf⟩, hcnt⟩ := HI.out
      have hg := hko.rs.good
      have HT0 : Hid (_) := hko.rs.tokN
      obtain ⟨f, rfl⟩ : ∃ f', f = f' + 1 := ⟨f - 1, by have := hg.one; omega⟩
      rcases itemsLoop_ru Ps.gr_name hrun with ⟨E5, rfl⟩ | ⟨s4, y, s5, E5, E6, E7⟩
      · have HKO : Hid (_) := hko
        have HC : Hid (_) := hchg
        clear hrun hf hcnt hko HI HT0 hchg hg
        go_wp2_with fail
        refine Calls.mono (c_take (m := [44]) E5 HKO.out.rs) ?_
        rintro e w2 ⟨rfl, nv2, hr2, hc2⟩
        have HKO2 : Hid (_) := HKO.out.go hr2 hc2
        have HC2 : Hid (_) := HC.out.trans hc2
        clear hr2 hc2 HKO HC
        go_wp2_with fail
        refine Calls.mono (c_want E4 HKO2.out.rs) ?_
        rintro e w3 ⟨rfl, nv3, hr3, hc3⟩
        have HE : Hid (_) := (HKO2.out.go hr3 hc3).nmv H.out
        have HC3 : Hid (_) := HC2.out.trans hc3
        clear hr3 hc3 HKO2 HC2
        go_wp2_with fail
        go_ret
        exact ⟨a, cap, rfl, nv3, HE.out.1, HC3.out, HE.out.2⟩
      · have htf := take_fewer hg (by decide) E5.eq
        have hle : s5.toks.length ≤ s4.toks.length := by
          have := Ps.sh_name s4 (by have := Ps.sh_take [44] s1 hg; rw [E5.eq] at this; exact this.good)
          rw [E6.eq] at this
          exact this.le
        have HKO : Hid (_) := hko
        have HC : Hid (_) := hchg
        have HD : Hid (_ ∧ _) := (show _ ∧ _ from ⟨hf, hcnt⟩)
        have HD2 : Hid (_ ∧ _) := (show _ ∧ _ from ⟨htf, hle⟩)
        clear hrun hf hcnt hko HI hchg htf hle hg
        go_wp2_with fail
        refine Calls.mono (c_take (m := [44]) E5 HKO.out.rs) ?_
        rintro e w2 ⟨rfl, nv2, hr2, hc2⟩
        have HKO2 : Hid (_) := HKO.out.go hr2 hc2
        have HC2 : Hid (_) := HC.out.trans hc2
        clear hr2 hc2 HKO HC
        go_wp2_with fail
        refine Calls.mono (c_name E6 HKO2.out.rs) ?_
        rintro e w3 ⟨rfl, nv3, hr3, hc3⟩
        obtain ⟨a4, cap4, w4, hap, hko4, hc4⟩ := (HKO2.out.go hr3 hc3).nm y (by have := HD.out; have := HD2.out; omega)
        have HRn : Hid (_) := hap
        have HKO4 : Hid (_) := hko4
        have HC4 : Hid (_) := hc4 _ (HC2.out.trans hc3)
        clear hr3 hc3 HKO2 HC2 hap hko4 hc4
        go_wp2_with (at_builtin; refine wpList_append_run _ _ 27 rfl rfl _ _ _ _ rfl rfl HRn.out ?_)
        go_roundw
        case rel =>
          refine ⟨K1 ++ [y], a4, cap4, s5, by simp, ?_⟩
          have h1 := HD.out
          have h2 := HD2.out
          exact (show Itn _ _ _ _ _ _ _ _ _ _ _ _ _ _ from ⟨⟨nv3, by simpa using HKO4.out, HC4.out⟩, ⟨f, E7, by omega⟩, by simp; omega⟩)
        case measure =>
          have h1 := HKO4.out.rs.tokN
          have := HD2.out
          have h3 := HT0.out
          show _ < _
          rw [h1, h3]; omega
end Go.Proofs.YtoeolonbkeldoaaDoor.R
