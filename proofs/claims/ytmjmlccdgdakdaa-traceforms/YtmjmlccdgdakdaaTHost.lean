-- PROVED: the statements' own 'Host': inputs by numbers.
import Derived.Test.YtmjmlccdgdakdaaTAwake
import Derived.Test.YtmjmlccdgdakdaaHMath
import Derived.OpenShut
namespace Go.Proofs.Ytmjmlccdgdakdaa.T
open Go.RowKit
/-- The bytes Z lie from the address on. -/
def Ns (w : World) (ad : Option Addr) (Z : List Nat) : Prop :=
  Z.length = 0 ∨ ∃ b off, ad = some ⟨b, off, none⟩ ∧ b < w.heap.size ∧ ∀ j (h : j < Z.length), w.cell? ⟨b, off + j, none⟩ = some (.int .u8 ((Z[j] : Nat) : Int))
theorem Ns.below {w w' : World} {ad : Option Addr} {Z : List Nat} (h : Ns w ad Z) (hb : Below w.heap.size w w') : Ns w' ad Z := by
  rcases h with h | ⟨b, off, h1, h2, h3⟩
  · exact .inl h
  · exact .inr ⟨b, off, h1, Nat.lt_of_lt_of_le h2 hb.size, fun j hj => (hb.cell h2).trans (h3 j hj)⟩
/-- What the walk is told of a slice of bytes that came in. -/
def IsB (w : World) (a : Option Addr) (len cap : Nat) (zs : List Int) : Prop :=
  (a = none ∧ len = 0 ∧ cap = 0 ∧ zs = []) ∨
  ∃ x, a = some x ∧ len ≤ cap ∧ cap ≤ maxLen ∧ zs.length = cap ∧ (∀ i, i < zs.length → w.cell? (x.add i) = some (.int .u8 (zs.getD i 0))) ∧ ∀ n ∈ zs, (Lit.int .u8 n).wf = true
theorem bytes_at {w : World} {a : Addr} {zs : List Int} (h : ∀ i, i < zs.length → w.cell? (a.add i) = some (.int .u8 (zs.getD i 0))) (hp : 0 < zs.length) :
    ∃ b off, a = ⟨b, off, none⟩ ∧ ∀ j, j < zs.length → w.cell? ⟨b, off + j, none⟩ = some (.int .u8 (zs.getD j 0)) := by
  obtain ⟨b, off, spot⟩ := a
  have hspot : spot = none := by simpa [Addr.add] using World.cell?_spot (h 0 hp)
  subst hspot
  exact ⟨b, off, rfl, fun j hj => by rw [← Go.WideShapes.add_plain]; exact h j hj⟩
theorem IsB.ns {w : World} {a : Option Addr} {len cap : Nat} {zs : List Int} (h : IsB w a len cap zs) :
    ∃ Z : List Nat, Z.length = len ∧ len ≤ cap ∧ cap ≤ maxLen ∧ Ns w a Z ∧ ∀ z ∈ Z, z < 256 := by
  rcases h with ⟨rfl, rfl, rfl, rfl⟩ | ⟨x, rfl, hl, hm, hz, hc, hw⟩
  · exact ⟨[], rfl, Nat.le_refl _, Nat.zero_le _, .inl rfl, by simp⟩
  · refine ⟨(zs.take len).map Int.toNat, by rw [List.length_map, List.length_take]; omega, hl, hm, ?_, ?_⟩
    · by_cases h0 : len = 0
      · exact .inl (by simp [h0])
      · obtain ⟨b, off, rfl, hc2⟩ := bytes_at hc (by omega)
        refine .inr ⟨b, off, rfl, cell_lt (hc2 0 (by omega)), fun j hj => ?_⟩
        rw [List.length_map, List.length_take] at hj
        have hj2 : j < zs.length := by omega
        have hb := bounds_u8 (hw zs[j] (List.getElem_mem hj2))
        rw [hc2 j hj2]
        simp [List.getD, List.getElem?_eq_getElem hj2]
        omega
    · intro z hz2
      obtain ⟨n, hn, rfl⟩ := List.mem_map.1 hz2
      have hb := bounds_u8 (hw n (List.mem_of_mem_take hn))
      omega
def inCells (L : List Tm.Rec) : List Value := L.flatMap fun r => [.int .i64 r.kind, .int .i64 r.n, .string ⟨r.s.toArray⟩]
theorem inCells_snoc (L : List Tm.Rec) (r : Tm.Rec) : inCells L ++ [.int .i64 r.kind, .int .i64 r.n, .string ⟨r.s.toArray⟩] = inCells (L ++ [r]) := by simp [inCells]
theorem infoIn : (Try.prog.info? 25).map (fun i => (i.zero, i.size, i.bytes)) = some (some (.agg #[.int .i64 0, .int .i64 0, .string ⟨#[]⟩]), 3, 32) := by kernel_rfl
theorem inp_cases (a n : Nat) :
    (128 ≤ a ∧ Hm.inp a n = ⟨0, 5, n, []⟩) ∨ a < 128 ∧ ((a % 5 = 0 ∧ Hm.inp a n = ⟨0, 1, n, []⟩) ∨ (a % 5 = 1 ∧ Hm.inp a n = ⟨0, 2, (n : Int) - 100, []⟩) ∨ (a % 5 = 4 ∧ Hm.inp a n = ⟨0, 5, n, []⟩) ∨
      ((a % 5 = 2 ∧ Hm.inp a n = ⟨0, 3, 0, Hm.word (n % 5)⟩ ∨ a % 5 = 3 ∧ Hm.inp a n = ⟨0, 4, 0, Hm.word (n % 5)⟩) ∧
        (n % 5 = 0 ∧ Hm.word (n % 5) = [] ∨ n % 5 = 1 ∧ Hm.word (n % 5) = [111, 107] ∨ n % 5 = 2 ∧ Hm.word (n % 5) = [101] ∨ n % 5 = 3 ∧ Hm.word (n % 5) = [97, 32, 98] ∨ n % 5 = 4 ∧ Hm.word (n % 5) = [91, 49, 44, 50, 93]))) := by
  by_cases h : 128 ≤ a
  · exact .inl ⟨h, by unfold Hm.inp; rw [if_pos h]⟩
  · refine .inr ⟨by omega, ?_⟩
    have hw : n % 5 = 0 ∧ Hm.word (n % 5) = [] ∨ n % 5 = 1 ∧ Hm.word (n % 5) = [111, 107] ∨ n % 5 = 2 ∧ Hm.word (n % 5) = [101] ∨ n % 5 = 3 ∧ Hm.word (n % 5) = [97, 32, 98] ∨ n % 5 = 4 ∧ Hm.word (n % 5) = [91, 49, 44, 50, 93] := by
      have : n % 5 < 5 := Nat.mod_lt _ (by omega)
      generalize n % 5 = m at *
      match m, this with
      | 0, _ => exact .inl ⟨rfl, rfl⟩
      | 1, _ => exact .inr (.inl ⟨rfl, rfl⟩)
      | 2, _ => exact .inr (.inr (.inl ⟨rfl, rfl⟩))
      | 3, _ => exact .inr (.inr (.inr (.inl ⟨rfl, rfl⟩)))
      | 4, _ => exact .inr (.inr (.inr (.inr ⟨rfl, rfl⟩)))
    unfold Hm.inp
    rw [if_neg h]
    have : a % 5 < 5 := Nat.mod_lt _ (by omega)
    generalize a % 5 = m at *
    match m, this with
    | 0, _ => exact .inl ⟨rfl, rfl⟩
    | 1, _ => exact .inr (.inl ⟨rfl, rfl⟩)
    | 2, _ => exact .inr (.inr (.inr ⟨.inl ⟨rfl, rfl⟩, hw⟩))
    | 3, _ => exact .inr (.inr (.inr ⟨.inr ⟨rfl, rfl⟩, hw⟩))
    | 4, _ => exact .inr (.inr (.inl ⟨rfl, rfl⟩))
theorem three_new (W : World) (x y z : Value) (t : TypeId) (n : Nat) (hn : n = W.heap.size) : ∀ j u, [x, y, z][j]? = some u → (W.alloc (.cells #[x, y, z] t)).cell? ((⟨n, 0, none⟩ : Addr).add j) = some u := by
  subst hn
  intro j v hj
  rw [Go.WideShapes.add_plain]
  simp only [World.cell?, heap_alloc_new]
  match j, hj with
  | 0, hj => simpa using hj
  | 1, hj => simpa using hj
  | 2, hj => simpa using hj
set_option maxRecDepth 100000 in
set_option maxHeartbeats 4000000 in
theorem host_any (Z : List Nat) (ad : Option Addr) (cap : Nat) (w : World) (hL : Z.length ≤ maxLen) (hz : ∀ z ∈ Z, z < 256) (hr : Ns w ad Z) :
    Calls Try.prog 23 #[.slice ad Z.length cap] w fun e w' => ∃ v, e = .returned v ∧ w'.ownsRow w.heap.size 25 3 v (Hm.hosts Z).length (inCells (Hm.hosts Z)) ∧ Below w.heap.size w w' := by
  obtain ⟨i0, hi0, hz0, hz1, hz2⟩ := info_parts infoIn
  have HR : Hid (_) := hr
  have HZ : Hid (_) := hz
  clear hr hz
  unfold maxLen at hL
  generalize hn : Z.length = N at hL ⊢
  have HN : Hid (_) := hn
  clear hn
  go_enter Try.func23, Try.ntmps23
  go_wp2_with fail
  go_loopw [3, 4] (fun v c wr => ∃ (j : Nat) (R : List Tm.Rec), j ≤ 20 ∧ 2 * j ≤ N ∧ c = .int .i64 ((2 * j : Nat) : Int) ∧ R.length = j ∧ Hid (Below w.heap.size w wr) ∧ Hid (wr.ownsRow w.heap.size 25 3 v R.length (inCells R)) ∧ Hid (Hm.hosts Z = R ++ Hm.host (20 - j) (Z.drop (2 * j)))) (fun _ c _ => N - (intOf c).toNat)
  case atStart => exact ⟨0, [], by omega, by omega, rfl, rfl, Below.refl _ _, World.ownsRow_nil _ _ _ _, (show Hm.hosts Z = [] ++ Hm.host (20 - 0) (Z.drop (2 * 0)) from by simp [Hm.hosts])⟩
  case round =>
    obtain ⟨j, R, hj, hjN, rfl, hRl, HB, HO, HH⟩ := hrel
    obtain ⟨av, cv, rfl⟩ := own_form HO.out
    rw [hRl] at HO ⊢
    by_cases hlt : 2 * j + 1 < N
    · have hlt' : ((2 * j : Nat) : Int) + 1 < N := by omega
      by_cases hj20 : j < 20
      · have hj20' : (j : Int) < 20 := by omega
        have hiL : 2 * j + 1 < Z.length := by rw [HN.out]; exact hlt
        obtain ⟨b, off, rfl, hb, hc⟩ := HR.out.resolve_left (by omega)
        have c0 := (HB.out.cell (p := ⟨b, off + 2 * j, none⟩) hb).trans (hc (2 * j) (by omega))
        have c1 := (HB.out.cell (p := ⟨b, off + (2 * j + 1), none⟩) hb).trans (hc (2 * j + 1) hiL)
        have hst := Hm.host_step Z (2 * j) j hiL hj20
        have HNX : Hid (Hm.hosts Z = (R ++ [Hm.inp Z[2 * j] Z[2 * j + 1]]) ++ Hm.host (20 - (j + 1)) (Z.drop (2 * (j + 1)))) := (show Hm.hosts Z = (R ++ [Hm.inp Z[2 * j] Z[2 * j + 1]]) ++ Hm.host (20 - (j + 1)) (Z.drop (2 * (j + 1))) from by rw [HH.out, hst]; simp; rfl)
        have hb0 := HZ.out Z[2 * j] (List.getElem_mem _)
        have hb1 := HZ.out Z[2 * j + 1] (List.getElem_mem _)
        clear hst hc HH
        generalize Z[2 * j] = a at *
        generalize Z[2 * j + 1] = n at *
        generalize hi2 : 2 * j = i at *
        have hbw : b < wr.heap.size := Nat.lt_of_lt_of_le hb HB.out.size
        have hne : b ≠ wr.heap.size := by omega
        rcases inp_cases a n with ⟨h128, hin⟩ | ⟨h128, ⟨h5, hin⟩ | ⟨h5, hin⟩ | ⟨h5, hin⟩ | ⟨hk, hw⟩⟩
        · have h128' : (128 : Int) ≤ a := by omega
          rw [hin] at HNX
          go_wp2_with (at_builtin; refine wpList_append_own _ rfl _ _ 54 rfl w.heap.size 25 i0 (.agg #[.int .i64 0, .int .i64 0, .string ⟨#[]⟩]) 3 32 Try.underlying54 hi0 hz0 hz1 hz2 rfl (by decide) _ _ _ rfl (F.own_below HO.out (by repeat (first | exact Below.refl _ _ | refine Below.alloc ?_ (by first | (simp; done) | (simp; omega)) _ | refine Below.setCell ?_ (by first | (simp; done) | (simp; omega)) _))) ⟨_, 0, none⟩ 1 1 [.int .i64 5, .int .i64 (n : Int), .string ⟨#[]⟩] rfl rfl (three_new _ _ _ _ _ _ (by simp)) (by intro u hu; simp at hu; rcases hu with rfl | rfl | rfl <;> rfl) (by unfold maxLen; omega) (by omega) (by have := HB.out.size; simp; omega) ?_; intro v2 w2 hown2 hgrow2 _; have HB2 : Hid (_) := (C.below_chain HB.out (show Below wr.heap.size wr _ from (by repeat (first | exact Below.refl _ _ | refine Below.alloc ?_ (by first | (simp; done) | (simp; omega)) _ | refine Below.setCell ?_ (by first | (simp; done) | (simp; omega)) _)))).grown hgrow2 (by have := HB.out.size; simp; omega) (fun k hk => (HO.out.lt k hk).1); clear hgrow2)
          go_roundw
          case rel => exact ⟨j + 1, R ++ [(⟨0, 5, n, []⟩ : Tm.Rec)], by omega, by omega, by rw [show ((2 * (j + 1) : Nat) : Int) = (i : Int) + 2 by omega], by simp [hRl], HB2, (show w2.ownsRow w.heap.size 25 3 v2 (R ++ [(⟨0, 5, n, []⟩ : Tm.Rec)]).length (inCells (R ++ [(⟨0, 5, n, []⟩ : Tm.Rec)])) from by rw [← inCells_snoc, List.length_append, hRl]; exact hown2), HNX⟩
          case measure => simp [intOf]; omega
        · have h128' : (a : Int) < 128 := by omega
          have h5' : (a : Int) % 5 = 0 := by omega
          rw [hin] at HNX
          go_wp2_with (at_builtin; refine wpList_append_own _ rfl _ _ 54 rfl w.heap.size 25 i0 (.agg #[.int .i64 0, .int .i64 0, .string ⟨#[]⟩]) 3 32 Try.underlying54 hi0 hz0 hz1 hz2 rfl (by decide) _ _ _ rfl (F.own_below HO.out (by repeat (first | exact Below.refl _ _ | refine Below.alloc ?_ (by first | (simp; done) | (simp; omega)) _ | refine Below.setCell ?_ (by first | (simp; done) | (simp; omega)) _))) ⟨_, 0, none⟩ 1 1 [.int .i64 1, .int .i64 (n : Int), .string ⟨#[]⟩] rfl rfl (three_new _ _ _ _ _ _ (by simp)) (by intro u hu; simp at hu; rcases hu with rfl | rfl | rfl <;> rfl) (by unfold maxLen; omega) (by omega) (by have := HB.out.size; simp; omega) ?_; intro v2 w2 hown2 hgrow2 _; have HB2 : Hid (_) := (C.below_chain HB.out (show Below wr.heap.size wr _ from (by repeat (first | exact Below.refl _ _ | refine Below.alloc ?_ (by first | (simp; done) | (simp; omega)) _ | refine Below.setCell ?_ (by first | (simp; done) | (simp; omega)) _)))).grown hgrow2 (by have := HB.out.size; simp; omega) (fun k hk => (HO.out.lt k hk).1); clear hgrow2)
          go_roundw
          case rel => exact ⟨j + 1, R ++ [(⟨0, 1, (n : Int), []⟩ : Tm.Rec)], by omega, by omega, by rw [show ((2 * (j + 1) : Nat) : Int) = (i : Int) + 2 by omega], by simp [hRl], HB2, (show w2.ownsRow w.heap.size 25 3 v2 (R ++ [(⟨0, 1, (n : Int), []⟩ : Tm.Rec)]).length (inCells (R ++ [(⟨0, 1, (n : Int), []⟩ : Tm.Rec)])) from by rw [← inCells_snoc, List.length_append, hRl]; exact hown2), HNX⟩
          case measure => simp [intOf]; omega
        · have h128' : (a : Int) < 128 := by omega
          have h5' : (a : Int) % 5 = 1 := by omega
          rw [hin] at HNX
          go_wp2_with (at_builtin; refine wpList_append_own _ rfl _ _ 54 rfl w.heap.size 25 i0 (.agg #[.int .i64 0, .int .i64 0, .string ⟨#[]⟩]) 3 32 Try.underlying54 hi0 hz0 hz1 hz2 rfl (by decide) _ _ _ rfl (F.own_below HO.out (by repeat (first | exact Below.refl _ _ | refine Below.alloc ?_ (by first | (simp; done) | (simp; omega)) _ | refine Below.setCell ?_ (by first | (simp; done) | (simp; omega)) _))) ⟨_, 0, none⟩ 1 1 [.int .i64 2, .int .i64 ((n : Int) - 100), .string ⟨#[]⟩] rfl rfl (three_new _ _ _ _ _ _ (by simp)) (by intro u hu; simp at hu; rcases hu with rfl | rfl | rfl <;> rfl) (by unfold maxLen; omega) (by omega) (by have := HB.out.size; simp; omega) ?_; intro v2 w2 hown2 hgrow2 _; have HB2 : Hid (_) := (C.below_chain HB.out (show Below wr.heap.size wr _ from (by repeat (first | exact Below.refl _ _ | refine Below.alloc ?_ (by first | (simp; done) | (simp; omega)) _ | refine Below.setCell ?_ (by first | (simp; done) | (simp; omega)) _)))).grown hgrow2 (by have := HB.out.size; simp; omega) (fun k hk => (HO.out.lt k hk).1); clear hgrow2)
          go_roundw
          case rel => exact ⟨j + 1, R ++ [(⟨0, 2, ((n : Int) - 100), []⟩ : Tm.Rec)], by omega, by omega, by rw [show ((2 * (j + 1) : Nat) : Int) = (i : Int) + 2 by omega], by simp [hRl], HB2, (show w2.ownsRow w.heap.size 25 3 v2 (R ++ [(⟨0, 2, ((n : Int) - 100), []⟩ : Tm.Rec)]).length (inCells (R ++ [(⟨0, 2, ((n : Int) - 100), []⟩ : Tm.Rec)])) from by rw [← inCells_snoc, List.length_append, hRl]; exact hown2), HNX⟩
          case measure => simp [intOf]; omega
        · have h128' : (a : Int) < 128 := by omega
          have h5' : (a : Int) % 5 = 4 := by omega
          rw [hin] at HNX
          go_wp2_with (at_builtin; refine wpList_append_own _ rfl _ _ 54 rfl w.heap.size 25 i0 (.agg #[.int .i64 0, .int .i64 0, .string ⟨#[]⟩]) 3 32 Try.underlying54 hi0 hz0 hz1 hz2 rfl (by decide) _ _ _ rfl (F.own_below HO.out (by repeat (first | exact Below.refl _ _ | refine Below.alloc ?_ (by first | (simp; done) | (simp; omega)) _ | refine Below.setCell ?_ (by first | (simp; done) | (simp; omega)) _))) ⟨_, 0, none⟩ 1 1 [.int .i64 5, .int .i64 (n : Int), .string ⟨#[]⟩] rfl rfl (three_new _ _ _ _ _ _ (by simp)) (by intro u hu; simp at hu; rcases hu with rfl | rfl | rfl <;> rfl) (by unfold maxLen; omega) (by omega) (by have := HB.out.size; simp; omega) ?_; intro v2 w2 hown2 hgrow2 _; have HB2 : Hid (_) := (C.below_chain HB.out (show Below wr.heap.size wr _ from (by repeat (first | exact Below.refl _ _ | refine Below.alloc ?_ (by first | (simp; done) | (simp; omega)) _ | refine Below.setCell ?_ (by first | (simp; done) | (simp; omega)) _)))).grown hgrow2 (by have := HB.out.size; simp; omega) (fun k hk => (HO.out.lt k hk).1); clear hgrow2)
          go_roundw
          case rel => exact ⟨j + 1, R ++ [(⟨0, 5, (n : Int), []⟩ : Tm.Rec)], by omega, by omega, by rw [show ((2 * (j + 1) : Nat) : Int) = (i : Int) + 2 by omega], by simp [hRl], HB2, (show w2.ownsRow w.heap.size 25 3 v2 (R ++ [(⟨0, 5, (n : Int), []⟩ : Tm.Rec)]).length (inCells (R ++ [(⟨0, 5, (n : Int), []⟩ : Tm.Rec)])) from by rw [← inCells_snoc, List.length_append, hRl]; exact hown2), HNX⟩
          case measure => simp [intOf]; omega
        · rcases hk with ⟨h5, hin⟩ | ⟨h5, hin⟩
          · rcases hw with ⟨n5, hw⟩ | ⟨n5, hw⟩ | ⟨n5, hw⟩ | ⟨n5, hw⟩ | ⟨n5, hw⟩
            · have h128' : (a : Int) < 128 := by omega
              have h5' : (a : Int) % 5 = 2 := by omega
              have n5' : (n : Int) % 5 = 0 := by omega
              rw [hw] at hin
              rw [hin] at HNX
              go_wp2_with (at_builtin; refine wpList_append_own _ rfl _ _ 54 rfl w.heap.size 25 i0 (.agg #[.int .i64 0, .int .i64 0, .string ⟨#[]⟩]) 3 32 Try.underlying54 hi0 hz0 hz1 hz2 rfl (by decide) _ _ _ rfl (F.own_below HO.out (by repeat (first | exact Below.refl _ _ | refine Below.alloc ?_ (by first | (simp; done) | (simp; omega)) _ | refine Below.setCell ?_ (by first | (simp; done) | (simp; omega)) _))) ⟨_, 0, none⟩ 1 1 [.int .i64 3, .int .i64 0, .string ⟨#[]⟩] rfl rfl (three_new _ _ _ _ _ _ (by simp)) (by intro u hu; simp at hu; rcases hu with rfl | rfl | rfl <;> rfl) (by unfold maxLen; omega) (by omega) (by have := HB.out.size; simp; omega) ?_; intro v2 w2 hown2 hgrow2 _; have HB2 : Hid (_) := (C.below_chain HB.out (show Below wr.heap.size wr _ from (by repeat (first | exact Below.refl _ _ | refine Below.alloc ?_ (by first | (simp; done) | (simp; omega)) _ | refine Below.setCell ?_ (by first | (simp; done) | (simp; omega)) _)))).grown hgrow2 (by have := HB.out.size; simp; omega) (fun k hk => (HO.out.lt k hk).1); clear hgrow2)
              go_roundw
              case rel => exact ⟨j + 1, R ++ [(⟨0, 3, 0, []⟩ : Tm.Rec)], by omega, by omega, by rw [show ((2 * (j + 1) : Nat) : Int) = (i : Int) + 2 by omega], by simp [hRl], HB2, (show w2.ownsRow w.heap.size 25 3 v2 (R ++ [(⟨0, 3, 0, []⟩ : Tm.Rec)]).length (inCells (R ++ [(⟨0, 3, 0, []⟩ : Tm.Rec)])) from by rw [← inCells_snoc, List.length_append, hRl]; exact hown2), HNX⟩
              case measure => simp [intOf]; omega
            · have h128' : (a : Int) < 128 := by omega
              have h5' : (a : Int) % 5 = 2 := by omega
              have n5' : (n : Int) % 5 = 1 := by omega
              rw [hw] at hin
              rw [hin] at HNX
              go_wp2_with (at_builtin; refine wpList_append_own _ rfl _ _ 54 rfl w.heap.size 25 i0 (.agg #[.int .i64 0, .int .i64 0, .string ⟨#[]⟩]) 3 32 Try.underlying54 hi0 hz0 hz1 hz2 rfl (by decide) _ _ _ rfl (F.own_below HO.out (by repeat (first | exact Below.refl _ _ | refine Below.alloc ?_ (by first | (simp; done) | (simp; omega)) _ | refine Below.setCell ?_ (by first | (simp; done) | (simp; omega)) _))) ⟨_, 0, none⟩ 1 1 [.int .i64 3, .int .i64 0, .string ⟨#[111, 107]⟩] rfl rfl (three_new _ _ _ _ _ _ (by simp)) (by intro u hu; simp at hu; rcases hu with rfl | rfl | rfl <;> rfl) (by unfold maxLen; omega) (by omega) (by have := HB.out.size; simp; omega) ?_; intro v2 w2 hown2 hgrow2 _; have HB2 : Hid (_) := (C.below_chain HB.out (show Below wr.heap.size wr _ from (by repeat (first | exact Below.refl _ _ | refine Below.alloc ?_ (by first | (simp; done) | (simp; omega)) _ | refine Below.setCell ?_ (by first | (simp; done) | (simp; omega)) _)))).grown hgrow2 (by have := HB.out.size; simp; omega) (fun k hk => (HO.out.lt k hk).1); clear hgrow2)
              go_roundw
              case rel => exact ⟨j + 1, R ++ [(⟨0, 3, 0, [111, 107]⟩ : Tm.Rec)], by omega, by omega, by rw [show ((2 * (j + 1) : Nat) : Int) = (i : Int) + 2 by omega], by simp [hRl], HB2, (show w2.ownsRow w.heap.size 25 3 v2 (R ++ [(⟨0, 3, 0, [111, 107]⟩ : Tm.Rec)]).length (inCells (R ++ [(⟨0, 3, 0, [111, 107]⟩ : Tm.Rec)])) from by rw [← inCells_snoc, List.length_append, hRl]; exact hown2), HNX⟩
              case measure => simp [intOf]; omega
            · have h128' : (a : Int) < 128 := by omega
              have h5' : (a : Int) % 5 = 2 := by omega
              have n5' : (n : Int) % 5 = 2 := by omega
              rw [hw] at hin
              rw [hin] at HNX
              go_wp2_with (at_builtin; refine wpList_append_own _ rfl _ _ 54 rfl w.heap.size 25 i0 (.agg #[.int .i64 0, .int .i64 0, .string ⟨#[]⟩]) 3 32 Try.underlying54 hi0 hz0 hz1 hz2 rfl (by decide) _ _ _ rfl (F.own_below HO.out (by repeat (first | exact Below.refl _ _ | refine Below.alloc ?_ (by first | (simp; done) | (simp; omega)) _ | refine Below.setCell ?_ (by first | (simp; done) | (simp; omega)) _))) ⟨_, 0, none⟩ 1 1 [.int .i64 3, .int .i64 0, .string ⟨#[101]⟩] rfl rfl (three_new _ _ _ _ _ _ (by simp)) (by intro u hu; simp at hu; rcases hu with rfl | rfl | rfl <;> rfl) (by unfold maxLen; omega) (by omega) (by have := HB.out.size; simp; omega) ?_; intro v2 w2 hown2 hgrow2 _; have HB2 : Hid (_) := (C.below_chain HB.out (show Below wr.heap.size wr _ from (by repeat (first | exact Below.refl _ _ | refine Below.alloc ?_ (by first | (simp; done) | (simp; omega)) _ | refine Below.setCell ?_ (by first | (simp; done) | (simp; omega)) _)))).grown hgrow2 (by have := HB.out.size; simp; omega) (fun k hk => (HO.out.lt k hk).1); clear hgrow2)
              go_roundw
              case rel => exact ⟨j + 1, R ++ [(⟨0, 3, 0, [101]⟩ : Tm.Rec)], by omega, by omega, by rw [show ((2 * (j + 1) : Nat) : Int) = (i : Int) + 2 by omega], by simp [hRl], HB2, (show w2.ownsRow w.heap.size 25 3 v2 (R ++ [(⟨0, 3, 0, [101]⟩ : Tm.Rec)]).length (inCells (R ++ [(⟨0, 3, 0, [101]⟩ : Tm.Rec)])) from by rw [← inCells_snoc, List.length_append, hRl]; exact hown2), HNX⟩
              case measure => simp [intOf]; omega
            · have h128' : (a : Int) < 128 := by omega
              have h5' : (a : Int) % 5 = 2 := by omega
              have n5' : (n : Int) % 5 = 3 := by omega
              rw [hw] at hin
              rw [hin] at HNX
              go_wp2_with (at_builtin; refine wpList_append_own _ rfl _ _ 54 rfl w.heap.size 25 i0 (.agg #[.int .i64 0, .int .i64 0, .string ⟨#[]⟩]) 3 32 Try.underlying54 hi0 hz0 hz1 hz2 rfl (by decide) _ _ _ rfl (F.own_below HO.out (by repeat (first | exact Below.refl _ _ | refine Below.alloc ?_ (by first | (simp; done) | (simp; omega)) _ | refine Below.setCell ?_ (by first | (simp; done) | (simp; omega)) _))) ⟨_, 0, none⟩ 1 1 [.int .i64 3, .int .i64 0, .string ⟨#[97, 32, 98]⟩] rfl rfl (three_new _ _ _ _ _ _ (by simp)) (by intro u hu; simp at hu; rcases hu with rfl | rfl | rfl <;> rfl) (by unfold maxLen; omega) (by omega) (by have := HB.out.size; simp; omega) ?_; intro v2 w2 hown2 hgrow2 _; have HB2 : Hid (_) := (C.below_chain HB.out (show Below wr.heap.size wr _ from (by repeat (first | exact Below.refl _ _ | refine Below.alloc ?_ (by first | (simp; done) | (simp; omega)) _ | refine Below.setCell ?_ (by first | (simp; done) | (simp; omega)) _)))).grown hgrow2 (by have := HB.out.size; simp; omega) (fun k hk => (HO.out.lt k hk).1); clear hgrow2)
              go_roundw
              case rel => exact ⟨j + 1, R ++ [(⟨0, 3, 0, [97, 32, 98]⟩ : Tm.Rec)], by omega, by omega, by rw [show ((2 * (j + 1) : Nat) : Int) = (i : Int) + 2 by omega], by simp [hRl], HB2, (show w2.ownsRow w.heap.size 25 3 v2 (R ++ [(⟨0, 3, 0, [97, 32, 98]⟩ : Tm.Rec)]).length (inCells (R ++ [(⟨0, 3, 0, [97, 32, 98]⟩ : Tm.Rec)])) from by rw [← inCells_snoc, List.length_append, hRl]; exact hown2), HNX⟩
              case measure => simp [intOf]; omega
            · have h128' : (a : Int) < 128 := by omega
              have h5' : (a : Int) % 5 = 2 := by omega
              have n5' : (n : Int) % 5 = 4 := by omega
              rw [hw] at hin
              rw [hin] at HNX
              go_wp2_with (at_builtin; refine wpList_append_own _ rfl _ _ 54 rfl w.heap.size 25 i0 (.agg #[.int .i64 0, .int .i64 0, .string ⟨#[]⟩]) 3 32 Try.underlying54 hi0 hz0 hz1 hz2 rfl (by decide) _ _ _ rfl (F.own_below HO.out (by repeat (first | exact Below.refl _ _ | refine Below.alloc ?_ (by first | (simp; done) | (simp; omega)) _ | refine Below.setCell ?_ (by first | (simp; done) | (simp; omega)) _))) ⟨_, 0, none⟩ 1 1 [.int .i64 3, .int .i64 0, .string ⟨#[91, 49, 44, 50, 93]⟩] rfl rfl (three_new _ _ _ _ _ _ (by simp)) (by intro u hu; simp at hu; rcases hu with rfl | rfl | rfl <;> rfl) (by unfold maxLen; omega) (by omega) (by have := HB.out.size; simp; omega) ?_; intro v2 w2 hown2 hgrow2 _; have HB2 : Hid (_) := (C.below_chain HB.out (show Below wr.heap.size wr _ from (by repeat (first | exact Below.refl _ _ | refine Below.alloc ?_ (by first | (simp; done) | (simp; omega)) _ | refine Below.setCell ?_ (by first | (simp; done) | (simp; omega)) _)))).grown hgrow2 (by have := HB.out.size; simp; omega) (fun k hk => (HO.out.lt k hk).1); clear hgrow2)
              go_roundw
              case rel => exact ⟨j + 1, R ++ [(⟨0, 3, 0, [91, 49, 44, 50, 93]⟩ : Tm.Rec)], by omega, by omega, by rw [show ((2 * (j + 1) : Nat) : Int) = (i : Int) + 2 by omega], by simp [hRl], HB2, (show w2.ownsRow w.heap.size 25 3 v2 (R ++ [(⟨0, 3, 0, [91, 49, 44, 50, 93]⟩ : Tm.Rec)]).length (inCells (R ++ [(⟨0, 3, 0, [91, 49, 44, 50, 93]⟩ : Tm.Rec)])) from by rw [← inCells_snoc, List.length_append, hRl]; exact hown2), HNX⟩
              case measure => simp [intOf]; omega
          · rcases hw with ⟨n5, hw⟩ | ⟨n5, hw⟩ | ⟨n5, hw⟩ | ⟨n5, hw⟩ | ⟨n5, hw⟩
            · have h128' : (a : Int) < 128 := by omega
              have h5' : (a : Int) % 5 = 3 := by omega
              have n5' : (n : Int) % 5 = 0 := by omega
              rw [hw] at hin
              rw [hin] at HNX
              go_wp2_with (at_builtin; refine wpList_append_own _ rfl _ _ 54 rfl w.heap.size 25 i0 (.agg #[.int .i64 0, .int .i64 0, .string ⟨#[]⟩]) 3 32 Try.underlying54 hi0 hz0 hz1 hz2 rfl (by decide) _ _ _ rfl (F.own_below HO.out (by repeat (first | exact Below.refl _ _ | refine Below.alloc ?_ (by first | (simp; done) | (simp; omega)) _ | refine Below.setCell ?_ (by first | (simp; done) | (simp; omega)) _))) ⟨_, 0, none⟩ 1 1 [.int .i64 4, .int .i64 0, .string ⟨#[]⟩] rfl rfl (three_new _ _ _ _ _ _ (by simp)) (by intro u hu; simp at hu; rcases hu with rfl | rfl | rfl <;> rfl) (by unfold maxLen; omega) (by omega) (by have := HB.out.size; simp; omega) ?_; intro v2 w2 hown2 hgrow2 _; have HB2 : Hid (_) := (C.below_chain HB.out (show Below wr.heap.size wr _ from (by repeat (first | exact Below.refl _ _ | refine Below.alloc ?_ (by first | (simp; done) | (simp; omega)) _ | refine Below.setCell ?_ (by first | (simp; done) | (simp; omega)) _)))).grown hgrow2 (by have := HB.out.size; simp; omega) (fun k hk => (HO.out.lt k hk).1); clear hgrow2)
              go_roundw
              case rel => exact ⟨j + 1, R ++ [(⟨0, 4, 0, []⟩ : Tm.Rec)], by omega, by omega, by rw [show ((2 * (j + 1) : Nat) : Int) = (i : Int) + 2 by omega], by simp [hRl], HB2, (show w2.ownsRow w.heap.size 25 3 v2 (R ++ [(⟨0, 4, 0, []⟩ : Tm.Rec)]).length (inCells (R ++ [(⟨0, 4, 0, []⟩ : Tm.Rec)])) from by rw [← inCells_snoc, List.length_append, hRl]; exact hown2), HNX⟩
              case measure => simp [intOf]; omega
            · have h128' : (a : Int) < 128 := by omega
              have h5' : (a : Int) % 5 = 3 := by omega
              have n5' : (n : Int) % 5 = 1 := by omega
              rw [hw] at hin
              rw [hin] at HNX
              go_wp2_with (at_builtin; refine wpList_append_own _ rfl _ _ 54 rfl w.heap.size 25 i0 (.agg #[.int .i64 0, .int .i64 0, .string ⟨#[]⟩]) 3 32 Try.underlying54 hi0 hz0 hz1 hz2 rfl (by decide) _ _ _ rfl (F.own_below HO.out (by repeat (first | exact Below.refl _ _ | refine Below.alloc ?_ (by first | (simp; done) | (simp; omega)) _ | refine Below.setCell ?_ (by first | (simp; done) | (simp; omega)) _))) ⟨_, 0, none⟩ 1 1 [.int .i64 4, .int .i64 0, .string ⟨#[111, 107]⟩] rfl rfl (three_new _ _ _ _ _ _ (by simp)) (by intro u hu; simp at hu; rcases hu with rfl | rfl | rfl <;> rfl) (by unfold maxLen; omega) (by omega) (by have := HB.out.size; simp; omega) ?_; intro v2 w2 hown2 hgrow2 _; have HB2 : Hid (_) := (C.below_chain HB.out (show Below wr.heap.size wr _ from (by repeat (first | exact Below.refl _ _ | refine Below.alloc ?_ (by first | (simp; done) | (simp; omega)) _ | refine Below.setCell ?_ (by first | (simp; done) | (simp; omega)) _)))).grown hgrow2 (by have := HB.out.size; simp; omega) (fun k hk => (HO.out.lt k hk).1); clear hgrow2)
              go_roundw
              case rel => exact ⟨j + 1, R ++ [(⟨0, 4, 0, [111, 107]⟩ : Tm.Rec)], by omega, by omega, by rw [show ((2 * (j + 1) : Nat) : Int) = (i : Int) + 2 by omega], by simp [hRl], HB2, (show w2.ownsRow w.heap.size 25 3 v2 (R ++ [(⟨0, 4, 0, [111, 107]⟩ : Tm.Rec)]).length (inCells (R ++ [(⟨0, 4, 0, [111, 107]⟩ : Tm.Rec)])) from by rw [← inCells_snoc, List.length_append, hRl]; exact hown2), HNX⟩
              case measure => simp [intOf]; omega
            · have h128' : (a : Int) < 128 := by omega
              have h5' : (a : Int) % 5 = 3 := by omega
              have n5' : (n : Int) % 5 = 2 := by omega
              rw [hw] at hin
              rw [hin] at HNX
              go_wp2_with (at_builtin; refine wpList_append_own _ rfl _ _ 54 rfl w.heap.size 25 i0 (.agg #[.int .i64 0, .int .i64 0, .string ⟨#[]⟩]) 3 32 Try.underlying54 hi0 hz0 hz1 hz2 rfl (by decide) _ _ _ rfl (F.own_below HO.out (by repeat (first | exact Below.refl _ _ | refine Below.alloc ?_ (by first | (simp; done) | (simp; omega)) _ | refine Below.setCell ?_ (by first | (simp; done) | (simp; omega)) _))) ⟨_, 0, none⟩ 1 1 [.int .i64 4, .int .i64 0, .string ⟨#[101]⟩] rfl rfl (three_new _ _ _ _ _ _ (by simp)) (by intro u hu; simp at hu; rcases hu with rfl | rfl | rfl <;> rfl) (by unfold maxLen; omega) (by omega) (by have := HB.out.size; simp; omega) ?_; intro v2 w2 hown2 hgrow2 _; have HB2 : Hid (_) := (C.below_chain HB.out (show Below wr.heap.size wr _ from (by repeat (first | exact Below.refl _ _ | refine Below.alloc ?_ (by first | (simp; done) | (simp; omega)) _ | refine Below.setCell ?_ (by first | (simp; done) | (simp; omega)) _)))).grown hgrow2 (by have := HB.out.size; simp; omega) (fun k hk => (HO.out.lt k hk).1); clear hgrow2)
              go_roundw
              case rel => exact ⟨j + 1, R ++ [(⟨0, 4, 0, [101]⟩ : Tm.Rec)], by omega, by omega, by rw [show ((2 * (j + 1) : Nat) : Int) = (i : Int) + 2 by omega], by simp [hRl], HB2, (show w2.ownsRow w.heap.size 25 3 v2 (R ++ [(⟨0, 4, 0, [101]⟩ : Tm.Rec)]).length (inCells (R ++ [(⟨0, 4, 0, [101]⟩ : Tm.Rec)])) from by rw [← inCells_snoc, List.length_append, hRl]; exact hown2), HNX⟩
              case measure => simp [intOf]; omega
            · have h128' : (a : Int) < 128 := by omega
              have h5' : (a : Int) % 5 = 3 := by omega
              have n5' : (n : Int) % 5 = 3 := by omega
              rw [hw] at hin
              rw [hin] at HNX
              go_wp2_with (at_builtin; refine wpList_append_own _ rfl _ _ 54 rfl w.heap.size 25 i0 (.agg #[.int .i64 0, .int .i64 0, .string ⟨#[]⟩]) 3 32 Try.underlying54 hi0 hz0 hz1 hz2 rfl (by decide) _ _ _ rfl (F.own_below HO.out (by repeat (first | exact Below.refl _ _ | refine Below.alloc ?_ (by first | (simp; done) | (simp; omega)) _ | refine Below.setCell ?_ (by first | (simp; done) | (simp; omega)) _))) ⟨_, 0, none⟩ 1 1 [.int .i64 4, .int .i64 0, .string ⟨#[97, 32, 98]⟩] rfl rfl (three_new _ _ _ _ _ _ (by simp)) (by intro u hu; simp at hu; rcases hu with rfl | rfl | rfl <;> rfl) (by unfold maxLen; omega) (by omega) (by have := HB.out.size; simp; omega) ?_; intro v2 w2 hown2 hgrow2 _; have HB2 : Hid (_) := (C.below_chain HB.out (show Below wr.heap.size wr _ from (by repeat (first | exact Below.refl _ _ | refine Below.alloc ?_ (by first | (simp; done) | (simp; omega)) _ | refine Below.setCell ?_ (by first | (simp; done) | (simp; omega)) _)))).grown hgrow2 (by have := HB.out.size; simp; omega) (fun k hk => (HO.out.lt k hk).1); clear hgrow2)
              go_roundw
              case rel => exact ⟨j + 1, R ++ [(⟨0, 4, 0, [97, 32, 98]⟩ : Tm.Rec)], by omega, by omega, by rw [show ((2 * (j + 1) : Nat) : Int) = (i : Int) + 2 by omega], by simp [hRl], HB2, (show w2.ownsRow w.heap.size 25 3 v2 (R ++ [(⟨0, 4, 0, [97, 32, 98]⟩ : Tm.Rec)]).length (inCells (R ++ [(⟨0, 4, 0, [97, 32, 98]⟩ : Tm.Rec)])) from by rw [← inCells_snoc, List.length_append, hRl]; exact hown2), HNX⟩
              case measure => simp [intOf]; omega
            · have h128' : (a : Int) < 128 := by omega
              have h5' : (a : Int) % 5 = 3 := by omega
              have n5' : (n : Int) % 5 = 4 := by omega
              rw [hw] at hin
              rw [hin] at HNX
              go_wp2_with (at_builtin; refine wpList_append_own _ rfl _ _ 54 rfl w.heap.size 25 i0 (.agg #[.int .i64 0, .int .i64 0, .string ⟨#[]⟩]) 3 32 Try.underlying54 hi0 hz0 hz1 hz2 rfl (by decide) _ _ _ rfl (F.own_below HO.out (by repeat (first | exact Below.refl _ _ | refine Below.alloc ?_ (by first | (simp; done) | (simp; omega)) _ | refine Below.setCell ?_ (by first | (simp; done) | (simp; omega)) _))) ⟨_, 0, none⟩ 1 1 [.int .i64 4, .int .i64 0, .string ⟨#[91, 49, 44, 50, 93]⟩] rfl rfl (three_new _ _ _ _ _ _ (by simp)) (by intro u hu; simp at hu; rcases hu with rfl | rfl | rfl <;> rfl) (by unfold maxLen; omega) (by omega) (by have := HB.out.size; simp; omega) ?_; intro v2 w2 hown2 hgrow2 _; have HB2 : Hid (_) := (C.below_chain HB.out (show Below wr.heap.size wr _ from (by repeat (first | exact Below.refl _ _ | refine Below.alloc ?_ (by first | (simp; done) | (simp; omega)) _ | refine Below.setCell ?_ (by first | (simp; done) | (simp; omega)) _)))).grown hgrow2 (by have := HB.out.size; simp; omega) (fun k hk => (HO.out.lt k hk).1); clear hgrow2)
              go_roundw
              case rel => exact ⟨j + 1, R ++ [(⟨0, 4, 0, [91, 49, 44, 50, 93]⟩ : Tm.Rec)], by omega, by omega, by rw [show ((2 * (j + 1) : Nat) : Int) = (i : Int) + 2 by omega], by simp [hRl], HB2, (show w2.ownsRow w.heap.size 25 3 v2 (R ++ [(⟨0, 4, 0, [91, 49, 44, 50, 93]⟩ : Tm.Rec)]).length (inCells (R ++ [(⟨0, 4, 0, [91, 49, 44, 50, 93]⟩ : Tm.Rec)])) from by rw [← inCells_snoc, List.length_append, hRl]; exact hown2), HNX⟩
              case measure => simp [intOf]; omega
      · have hj20' : ¬ ((j : Int) < 20) := by omega
        have HV : Hid (Hm.hosts Z = R) := (show Hm.hosts Z = R from by rw [HH.out, Hm.host_none Z (2 * j) j (by omega)]; simp)
        go_wp2_with fail
        go_ret
        exact ⟨_, rfl, by rw [HV.out, hRl]; exact HO.out, HB.out⟩
    · have hlt' : ¬ (((2 * j : Nat) : Int) + 1 < N) := by omega
      have HV : Hid (Hm.hosts Z = R) := (show Hm.hosts Z = R from by rw [HH.out, Hm.host_none Z (2 * j) j (by rw [HN.out]; omega)]; simp)
      go_wp2_with fail
      go_ret
      exact ⟨_, rfl, by rw [HV.out, hRl]; exact HO.out, HB.out⟩
end Go.Proofs.Ytmjmlccdgdakdaa.T
