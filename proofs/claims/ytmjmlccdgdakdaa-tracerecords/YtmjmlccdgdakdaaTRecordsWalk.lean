-- PROVED: the walk of 'TraceRecords'.
import Derived.Test.YtmjmlccdgdakdaaTRecs
import Derived.BigRegion
namespace Go.Proofs.Ytmjmlccdgdakdaa.T
open Go.RowKit
theorem hosts_ok (Z : List Nat) (hz : ∀ z ∈ Z, z < 256) (h : 0 < (Hm.hosts Z).length) (st : Int) (h0 : 0 ≤ st) (h1 : st ≤ 65535) :
    ∃ r : Tm.Rec, r = ⟨st, (Hm.hosts Z)[0].kind, (Hm.hosts Z)[0].n, (Hm.hosts Z)[0].s⟩ ∧ Tm.ok r = true ∧ Tm.fits r := by
  have hm := Hm.host_may 20 Z hz (Hm.hosts Z)[0] (List.getElem_mem h)
  have ho : Tm.ok ⟨st, (Hm.hosts Z)[0].kind, (Hm.hosts Z)[0].n, (Hm.hosts Z)[0].s⟩ = true := by
    unfold Tm.ok
    simp only []
    rw [hm, Bool.and_true]
    exact decide_eq_true h0
  exact ⟨_, rfl, ho, Hm.fits_of ho (by simp only []; omega)⟩
/-- Two records in blocks of their own. -/
def Eight (w : World) (bp bq : Nat) (a k n : Int) (s : ByteArray) (b k2 n2 : Int) (s2 : ByteArray) (W : World) : Prop :=
  W.cell? ⟨bp, 0, none⟩ = some (.int .i64 a) ∧ W.cell? ⟨bp, 1, none⟩ = some (.int .i64 k) ∧ W.cell? ⟨bp, 2, none⟩ = some (.int .i64 n) ∧ W.cell? ⟨bp, 3, none⟩ = some (.string s) ∧
  W.cell? ⟨bq, 0, none⟩ = some (.int .i64 b) ∧ W.cell? ⟨bq, 1, none⟩ = some (.int .i64 k2) ∧ W.cell? ⟨bq, 2, none⟩ = some (.int .i64 n2) ∧ W.cell? ⟨bq, 3, none⟩ = some (.string s2) ∧
  Hid (Below w.heap.size w W) ∧ Hid (bp < W.heap.size) ∧ Hid (bq < W.heap.size)
theorem Eight.go {w : World} {bp bq : Nat} {a k n : Int} {s : ByteArray} {b k2 n2 : Int} {s2 : ByteArray} {W W' : World} (h : Eight w bp bq a k n s b k2 n2 s2 W) (hb : Below W.heap.size W W') : Eight w bp bq a k n s b k2 n2 s2 W' := by
  obtain ⟨h1, h2, h3, h4, h5, h6, h7, h8, h9, h10, h11⟩ := h
  exact ⟨(hb.cell (p := ⟨bp, 0, none⟩) h10.out).trans h1, (hb.cell (p := ⟨bp, 1, none⟩) h10.out).trans h2, (hb.cell (p := ⟨bp, 2, none⟩) h10.out).trans h3, (hb.cell (p := ⟨bp, 3, none⟩) h10.out).trans h4,
    (hb.cell (p := ⟨bq, 0, none⟩) h11.out).trans h5, (hb.cell (p := ⟨bq, 1, none⟩) h11.out).trans h6, (hb.cell (p := ⟨bq, 2, none⟩) h11.out).trans h7, (hb.cell (p := ⟨bq, 3, none⟩) h11.out).trans h8,
    C.below_chain h9.out hb, Nat.lt_of_lt_of_le h10.out hb.size, Nat.lt_of_lt_of_le h11.out hb.size⟩
theorem rec_first {W : World} {x y z u : Value} {t : TypeId} {o : Obj} : (((W.alloc (.cells #[x, y, z, u] t)).alloc o).drew.cell? ⟨W.heap.size, 0, none⟩ = some x ∧ ((W.alloc (.cells #[x, y, z, u] t)).alloc o).drew.cell? ⟨W.heap.size, 1, none⟩ = some y ∧ ((W.alloc (.cells #[x, y, z, u] t)).alloc o).drew.cell? ⟨W.heap.size, 2, none⟩ = some z ∧ ((W.alloc (.cells #[x, y, z, u] t)).alloc o).drew.cell? ⟨W.heap.size, 3, none⟩ = some u) := by
  have h : Below (W.heap.size + 1) (W.alloc (.cells #[x, y, z, u] t)) ((W.alloc (.cells #[x, y, z, u] t)).alloc o).drew := ((Below.refl _ _).alloc (by simp) _).drew
  exact (cell4 rfl h).1
theorem rec_second {W : World} {x y z u : Value} {t : TypeId} {o : Obj} : (((W.alloc o).alloc (.cells #[x, y, z, u] t)).drew.cell? ⟨W.heap.size + 1, 0, none⟩ = some x ∧ ((W.alloc o).alloc (.cells #[x, y, z, u] t)).drew.cell? ⟨W.heap.size + 1, 1, none⟩ = some y ∧ ((W.alloc o).alloc (.cells #[x, y, z, u] t)).drew.cell? ⟨W.heap.size + 1, 2, none⟩ = some z ∧ ((W.alloc o).alloc (.cells #[x, y, z, u] t)).drew.cell? ⟨W.heap.size + 1, 3, none⟩ = some u) := by
  have h : Below (W.heap.size + 1 + 1) ((W.alloc o).alloc (.cells #[x, y, z, u] t)) ((W.alloc o).alloc (.cells #[x, y, z, u] t)).drew := (Below.refl _ _).drew
  exact (cell4 (w := W.alloc o) (b := W.heap.size + 1) (by simp) h).1
theorem eight_a {w W : World} (hB : Below w.heap.size w W) (a k n : Int) (s : ByteArray) (b k2 n2 : Int) (s2 : ByteArray) (t : TypeId) :
    Eight w W.heap.size (W.heap.size + 1) a k n s b k2 n2 s2 ((W.alloc (.cells #[.int .i64 a, .int .i64 k, .int .i64 n, .string s] t)).alloc (.cells #[.int .i64 b, .int .i64 k2, .int .i64 n2, .string s2] t)).drew := by
  obtain ⟨h1, h2, h3, h4⟩ := rec_first (W := W) (x := .int .i64 a) (y := .int .i64 k) (z := .int .i64 n) (u := .string s) (t := t) (o := .cells #[.int .i64 b, .int .i64 k2, .int .i64 n2, .string s2] t)
  obtain ⟨h5, h6, h7, h8⟩ := rec_second (W := W) (x := .int .i64 b) (y := .int .i64 k2) (z := .int .i64 n2) (u := .string s2) (t := t) (o := .cells #[.int .i64 a, .int .i64 k, .int .i64 n, .string s] t)
  exact ⟨h1, h2, h3, h4, h5, h6, h7, h8, ((hB.alloc hB.size _).alloc (Nat.le_trans hB.size (by simp)) _).drew, (show W.heap.size < _ from by simp; omega), (show W.heap.size + 1 < _ from by simp)⟩
theorem eight_b {w W : World} (hB : Below w.heap.size w W) (a k n : Int) (s : ByteArray) (b k2 n2 : Int) (s2 : ByteArray) (t : TypeId) :
    Eight w (W.heap.size + 1) W.heap.size a k n s b k2 n2 s2 ((W.alloc (.cells #[.int .i64 b, .int .i64 k2, .int .i64 n2, .string s2] t)).alloc (.cells #[.int .i64 a, .int .i64 k, .int .i64 n, .string s] t)).drew := by
  obtain ⟨h1, h2, h3, h4, h5, h6, h7, h8, h9, h10, h11⟩ := eight_a hB b k2 n2 s2 a k n s t
  exact ⟨h5, h6, h7, h8, h1, h2, h3, h4, h9, h11, h10⟩
/-- One record in a block of its own. -/
def OneR (br : Nat) (a k n : Int) (s : ByteArray) (W : World) : Prop :=
  W.cell? ⟨br, 0, none⟩ = some (.int .i64 a) ∧ W.cell? ⟨br, 1, none⟩ = some (.int .i64 k) ∧ W.cell? ⟨br, 2, none⟩ = some (.int .i64 n) ∧ W.cell? ⟨br, 3, none⟩ = some (.string s) ∧ Hid (br < W.heap.size)
theorem OneR.go {br : Nat} {a k n : Int} {s : ByteArray} {W W' : World} (h : OneR br a k n s W) (hb : Below W.heap.size W W') : OneR br a k n s W' := by
  obtain ⟨h1, h2, h3, h4, h5⟩ := h
  exact ⟨(hb.cell (p := ⟨br, 0, none⟩) h5.out).trans h1, (hb.cell (p := ⟨br, 1, none⟩) h5.out).trans h2, (hb.cell (p := ⟨br, 2, none⟩) h5.out).trans h3, (hb.cell (p := ⟨br, 3, none⟩) h5.out).trans h4, Nat.lt_of_lt_of_le h5.out hb.size⟩
theorem last_rec (W : World) (a k n : Int) (s : ByteArray) (t : TypeId) : OneR W.heap.size a k n s (W.alloc (.cells #[.int .i64 a, .int .i64 k, .int .i64 n, .string s] t)) := by
  refine ⟨?_, ?_, ?_, ?_, (show W.heap.size < _ from by simp)⟩ <;> simp
theorem toList_mk (l : List UInt8) : (⟨l.toArray⟩ : ByteArray).data.toList = l := rfl
theorem get_put (R : Tm.Rec) (W : World) (hf : Tm.fits R) (ho : Tm.ok R = true) :
    Calls Try.prog 14 #[.string ⟨(Tm.put R).toArray⟩] W fun e w' => e = .returned (.tuple #[recV R, .int .i64 0]) ∧ Below W.heap.size W w' := by
  have hol := Tm.ok_len ho
  have hgy := Tm.is_put hf ho
  have := get_yes ⟨(Tm.put R).toArray⟩ W (by rw [mk_size]; unfold maxLen; omega) (by rw [toList_mk]; exact hgy.1)
  rw [toList_mk, hgy.2] at this
  exact this
theorem get_put_more (R : Tm.Rec) (W : World) (hf : Tm.fits R) (ho : Tm.ok R = true) :
    Calls Try.prog 14 #[.string (⟨(Tm.put R).toArray⟩ ++ ⟨#[0]⟩)] W fun e w' => e = .returned (.tuple #[(.agg #[.int .i64 0, .int .i64 0, .int .i64 0, .string ⟨#[]⟩]), .int .i64 4]) ∧ Below W.heap.size W w' := by
  have hol := Tm.ok_len ho
  have hmo := Tm.is_more [0] hf ho (by simp)
  have hcat : (⟨(Tm.put R).toArray⟩ ++ ⟨#[0]⟩ : ByteArray) = ⟨(Tm.put R ++ [0]).toArray⟩ := F.cat_eq (Tm.put R) [0]
  rw [hcat]
  have hlen : (Tm.put R ++ [0]).length ≤ 1065 := by simp; omega
  generalize Tm.put R ++ [0] = l at *
  exact get_no ⟨l.toArray⟩ W (by rw [mk_size]; unfold maxLen; omega) (by rw [toList_mk]; exact hmo)
theorem get_put_less (R : Tm.Rec) (W : World) (hf : Tm.fits R) (ho : Tm.ok R = true) :
    Calls Try.prog 14 #[.string ((⟨(Tm.put R).toArray⟩ : ByteArray).extract 0 ((Tm.put R).length - 1))] W fun e w' => e = .returned (.tuple #[(.agg #[.int .i64 0, .int .i64 0, .int .i64 0, .string ⟨#[]⟩]), .int .i64 4]) ∧ Below W.heap.size W w' := by
  have hol := Tm.ok_len ho
  have hpl := Tm.put_len R
  have hle := Tm.is_less ((Tm.put R).length - 1) hf ho (by omega)
  have hex := C.extract_first ⟨(Tm.put R).toArray⟩ ((Tm.put R).length - 1)
  rw [toList_mk] at hex
  generalize (⟨(Tm.put R).toArray⟩ : ByteArray).extract 0 ((Tm.put R).length - 1) = X at *
  refine get_no X W ?_ (by rw [hex]; exact hle)
  rw [← V.size_list, hex, List.length_take]; unfold maxLen; omega
theorem put_same (R S : Tm.Rec) (hRf : Tm.fits R) (hSf : Tm.fits S) (hRo : Tm.ok R = true) (hSo : Tm.ok S = true) :
    (R.step = S.step ∧ R.kind = S.kind ∧ R.n = S.n ∧ (⟨R.s.toArray⟩ : ByteArray) = ⟨S.s.toArray⟩ ∧ ((⟨(Tm.put R).toArray⟩ : ByteArray).toList == (⟨(Tm.put S).toArray⟩ : ByteArray).toList) = true) ∨
    Hid (R.step = S.step → R.kind = S.kind → R.n = S.n → (⟨R.s.toArray⟩ : ByteArray).toList = (⟨S.s.toArray⟩ : ByteArray).toList → False) ∧ ((⟨(Tm.put R).toArray⟩ : ByteArray).toList == (⟨(Tm.put S).toArray⟩ : ByteArray).toList) = false := by
  by_cases h : R = S
  · exact .inl ⟨by rw [h], by rw [h], by rw [h], by rw [h], C.cmp_yes (by rw [h])⟩
  · refine .inr ⟨?_, C.cmp_no (fun e => h (Tm.put_inj hRf hSf hRo hSo e))⟩
    intro h1 h2 h3 h4
    rw [ByteArray.toList_eq, ByteArray.toList_eq] at h4
    obtain ⟨x1, x2, x3, x4⟩ := R
    obtain ⟨y1, y2, y3, y4⟩ := S
    simp only [] at h1 h2 h3 h4
    exact h (by rw [h1, h2, h3, h4])
set_option maxRecDepth 100000 in
set_option maxHeartbeats 4000000 in
theorem trecords_walk (a b : Nat) (Z Y : List Nat) (ad bd : Option Addr) (cap dap : Nat) (w : World) (ha : a ≤ 65535) (hb : b ≤ 65535) (hL : Z.length ≤ maxLen) (hz : ∀ z ∈ Z, z < 256) (hr : Ns w ad Z) (hL2 : Y.length ≤ maxLen) (hz2 : ∀ z ∈ Y, z < 256) (hr2 : Ns w bd Y) :
    Calls Try.prog 6 #[.int .u16 (a : Int), .int .u16 (b : Int), .slice ad Z.length cap, .slice bd Y.length dap] w fun e w' => e = .returned (.bool true) ∧ Below w.heap.size w w' := by
  have H1 : Hid (_) := fun W h => host_any Z ad cap W hL hz h
  have H2 : Hid (_) := fun W h => host_any Y bd dap W hL2 hz2 h
  have HK : Hid (_) := fun h => hosts_ok Z hz h (a : Int) (by omega) (by omega)
  have HK2 : Hid (_) := fun h => hosts_ok Y hz2 h (b : Int) (by omega) (by omega)
  have HR : Hid (Ns w ad Z) := hr
  have HR2 : Hid (Ns w bd Y) := hr2
  have hla := (Hm.host_len 20 Z).1
  have hlb := (Hm.host_len 20 Y).1
  rw [show Hm.host 20 Z = Hm.hosts Z from rfl] at hla
  rw [show Hm.host 20 Y = Hm.hosts Y from rfl] at hlb
  clear hr hr2 hz hz2
  generalize Hm.hosts Z = H at *
  generalize Hm.hosts Y = J at *
  generalize Z.length = N at H1 hL ⊢
  generalize Y.length = M at H2 hL2 ⊢
  go_enter Try.func6, Try.ntmps6
  go_wp2_with fail
  refine Calls.mono (H1.out _ HR.out) ?_
  rintro e w1 ⟨v1, rfl, ho1, hb1⟩
  go_wp2_with fail
  refine Calls.mono (H2.out _ (Ns.below HR2.out hb1)) ?_
  rintro e w2 ⟨v2, rfl, ho2, hb2⟩
  obtain ⟨a1, c1, rfl, _, hI1⟩ := Ins.own ho1
  obtain ⟨a2, c2, rfl, _, hI2⟩ := Ins.own ho2
  replace hI1 := hI1.below hb2
  have HB : Hid (_) := C.below_chain hb1 hb2
  clear ho1 ho2 hb1 hb2 H1 H2 HR HR2
  by_cases h1 : H.length = 0
  · have h1' : (H.length : Int) = 0 := by omega
    clear hI1 hI2
    rw [h1]
    go_wp2_with (go_at_call 8; refine (awake_any _).mono ?_; rintro e w9 ⟨rfl, hb9⟩)
    go_ret
    exact ⟨rfl, C.below_chain HB.out hb9⟩
  · have h1' : ¬ ((H.length : Int) = 0) := by omega
    by_cases h2 : J.length = 0
    · have h2' : (J.length : Int) = 0 := by omega
      clear hI1 hI2
      rw [h2]
      go_wp2_with (go_at_call 8; refine (awake_any _).mono ?_; rintro e w9 ⟨rfl, hb9⟩)
      go_ret
      exact ⟨rfl, C.below_chain HB.out hb9⟩
    · have h2' : ¬ ((J.length : Int) = 0) := by omega
      obtain ⟨x1, y1, rfl, l1, d1⟩ := hI1.resolve_left h1
      obtain ⟨x2, y2, rfl, l2, d2⟩ := hI2.resolve_left h2
      obtain ⟨d10, d11, d12⟩ := d1 0 (by omega)
      obtain ⟨d20, d21, d22⟩ := d2 0 (by omega)
      obtain ⟨R, hR, hRo, hRf⟩ := HK.out (by omega)
      obtain ⟨S, hS, hSo, hSf⟩ := HK2.out (by omega)
      rw [Nat.zero_mul, Nat.add_zero] at d10 d11 d12 d20 d21 d22
      have hlen1 : (0 : Int) < H.length := by omega
      have q1 : ((H.length : Int) == 0) = false := by rw [beq_eq_false_iff_ne]; omega
      have q2 : ((J.length : Int) == 0) = false := by rw [beq_eq_false_iff_ne]; omega
      have hlen2 : (0 : Int) < J.length := by omega
      clear d1 d2 HK HK2 hI1 hI2
      have rk : R.kind = H[0].kind := by rw [hR]
      have rn : R.n = H[0].n := by rw [hR]
      have rs : (⟨R.s.toArray⟩ : ByteArray) = ⟨H[0].s.toArray⟩ := by rw [hR]
      have rt : R.step = (a : Int) := by rw [hR]
      have sk : S.kind = J[0].kind := by rw [hS]
      have sn : S.n = J[0].n := by rw [hS]
      have ss : (⟨S.s.toArray⟩ : ByteArray) = ⟨J[0].s.toArray⟩ := by rw [hS]
      have st : S.step = (b : Int) := by rw [hS]
      rw [← rk] at d10
      rw [← rn] at d11
      rw [← rs] at d12
      rw [← sk] at d20
      rw [← sn] at d21
      rw [← ss] at d22
      clear rk rn rs sk sn ss hR hS
      have HG1 : Hid (_) := fun W => get_put R W hRf hRo
      have HG2 : Hid (_) := fun W => get_put_more R W hRf hRo
      have HG3 : Hid (_) := fun W => get_put_less R W hRf hRo
      have hpl := Tm.put_len R
      have hol := Tm.ok_len hRo
      have hPs : (⟨(Tm.put R).toArray⟩ : ByteArray).size = (Tm.put R).length := mk_size _
      have hPQ := put_same R S hRf hSf hRo hSo
      have HP : Hid (_) := fun W => put_ok R W hRf hRo
      have HQ : Hid (_) := fun W => put_ok S W hSf hSo
      unfold recV at HP HQ HG1
      rw [rt] at HP HG1
      have hP1 : 4 ≤ (⟨(Tm.put R).toArray⟩ : ByteArray).size := by omega
      have hP2 : (⟨(Tm.put R).toArray⟩ : ByteArray).size ≤ 1064 := by omega
      rw [← hPs] at HG3
      clear hpl hol hPs
      rw [rt, st] at hPQ
      generalize (⟨(Tm.put R).toArray⟩ : ByteArray) = P at HP HG1 HG2 HG3 hPQ hP1 hP2
      generalize (⟨(Tm.put S).toArray⟩ : ByteArray) = Q at HQ hPQ
      rw [st] at HQ
      generalize R.kind = rk at *
      generalize R.n = rn at *
      generalize (⟨R.s.toArray⟩ : ByteArray) = rs at *
      generalize S.kind = sk at *
      generalize S.n = sn at *
      generalize (⟨S.s.toArray⟩ : ByteArray) = ss at *
      generalize H.length = hl at *
      generalize J.length = jl at *
      go_wp2_with fail
      go_region
      · have hE : Eight w w2.heap.size (w2.heap.size + 1) (a : Int) rk rn rs (b : Int) sk sn ss ((w2.alloc (.cells #[.int .i64 (a : Int), .int .i64 rk, .int .i64 rn, .string rs] 27)).alloc (.cells #[.int .i64 (b : Int), .int .i64 sk, .int .i64 sn, .string ss] 27)).drew := eight_a HB.out _ _ _ _ _ _ _ _ _
        generalize ((w2.alloc (.cells #[.int .i64 (a : Int), .int .i64 rk, .int .i64 rn, .string rs] 27)).alloc (.cells #[.int .i64 (b : Int), .int .i64 sk, .int .i64 sn, .string ss] 27)).drew = w3 at hE ⊢
        generalize w2.heap.size + 1 = bq at hE ⊢
        generalize w2.heap.size = bp at hE ⊢
        obtain ⟨p0, p1, p2, p3, q0, q1, q2, q3, _, _, _⟩ := id hE
        have HE : Hid (Eight w bp bq (a : Int) rk rn rs (b : Int) sk sn ss w3) := hE
        clear hE
        go_wp2_with fail
        refine Calls.mono (HP.out _) ?_
        rintro e w4 ⟨rfl, hb4⟩
        have hE4 := HE.out.go hb4
        clear p0 p1 p2 p3 q0 q1 q2 q3 HE hb4
        obtain ⟨p0, p1, p2, p3, q0, q1, q2, q3, _, _, _⟩ := id hE4
        have HE : Hid (Eight w bp bq (a : Int) rk rn rs (b : Int) sk sn ss w4) := hE4
        clear hE4
        go_wp2_with fail
        refine Calls.mono (HQ.out _) ?_
        rintro e w5 ⟨rfl, hb5⟩
        have hE5 := HE.out.go hb5
        clear p0 p1 p2 p3 q0 q1 q2 q3 HE hb5
        have HE : Hid (Eight w bp bq (a : Int) rk rn rs (b : Int) sk sn ss w5) := hE5
        clear hE5
        go_wp2_with fail
        refine Calls.mono (HG1.out _) ?_
        rintro e w6 ⟨rfl, hb6⟩
        have HE6 : Hid (Eight w bp bq (a : Int) rk rn rs (b : Int) sk sn ss (w6.alloc (.cells #[.int .i64 (a : Int), .int .i64 rk, .int .i64 rn, .string rs] 27))) := (HE.out.go hb6).go ((Below.refl _ _).alloc (Nat.le_refl _) (.cells #[.int .i64 (a : Int), .int .i64 rk, .int .i64 rn, .string rs] 27))
        have HL6 : Hid (OneR w6.heap.size (a : Int) rk rn rs (w6.alloc (.cells #[.int .i64 (a : Int), .int .i64 rk, .int .i64 rn, .string rs] 27))) := last_rec w6 (a : Int) rk rn rs 27
        clear HE hb6
        go_wp2_with fail
        generalize w6.alloc (.cells #[.int .i64 (a : Int), .int .i64 rk, .int .i64 rn, .string rs] 27) = w6a at HE6 HL6 ⊢
        generalize w6.heap.size = br at HL6 ⊢
        refine Calls.mono (HG2.out _) ?_
        rintro e w7 ⟨rfl, hb7⟩
        have HE7 : Hid (Eight w bp bq (a : Int) rk rn rs (b : Int) sk sn ss w7) := HE6.out.go hb7
        have HL7 : Hid (OneR br (a : Int) rk rn rs w7) := HL6.out.go hb7
        clear HE6 HL6 hb7
        go_wp2_with fail
        have HE7a : Hid (Eight w bp bq (a : Int) rk rn rs (b : Int) sk sn ss (w7.alloc (.cells #[.int .i64 0, .int .i64 0, .int .i64 0, .string ⟨#[]⟩] 27))) := HE7.out.go ((Below.refl _ _).alloc (Nat.le_refl _) _)
        have HL7a : Hid (OneR br (a : Int) rk rn rs (w7.alloc (.cells #[.int .i64 0, .int .i64 0, .int .i64 0, .string ⟨#[]⟩] 27))) := HL7.out.go ((Below.refl _ _).alloc (Nat.le_refl _) _)
        clear HE7 HL7
        rw [show (max ((P.size : Int) - 1) 0).toNat = P.size - 1 by omega]
        refine Calls.mono (HG3.out _) ?_
        rintro e w8 ⟨rfl, hb8⟩
        have HE8 : Hid (Eight w bp bq (a : Int) rk rn rs (b : Int) sk sn ss (w8.alloc (.cells #[.int .i64 0, .int .i64 0, .int .i64 0, .string ⟨#[]⟩] 27))) := (HE7a.out.go hb8).go ((Below.refl _ _).alloc (Nat.le_refl _) _)
        have HL8 : Hid (OneR br (a : Int) rk rn rs (w8.alloc (.cells #[.int .i64 0, .int .i64 0, .int .i64 0, .string ⟨#[]⟩] 27))) := (HL7a.out.go hb8).go ((Below.refl _ _).alloc (Nat.le_refl _) _)
        clear HE7a HL7a hb8 HG1 HG2 HG3 HP HQ
        go_wp2_with fail
        generalize w8.alloc (.cells #[.int .i64 0, .int .i64 0, .int .i64 0, .string ⟨#[]⟩] 27) = w9 at HE8 HL8 ⊢
        obtain ⟨p0, p1, p2, p3, q0, q1, q2, q3, hbel, _, _⟩ := id HE8.out
        obtain ⟨r0, r1, r2, r3, _⟩ := id HL8.out
        clear HE8 HL8
        rcases hPQ with ⟨ea, rfl, rfl, rfl, hpq⟩ | ⟨hNE, hpq⟩
        · obtain rfl : a = b := by omega
          go_wp2_with (first | (go_at_call 13; refine (V.err_any _ _).mono ?_; rintro e w' ⟨rfl, rfl⟩) | (go_at_call 8; refine (awake_any _).mono ?_; rintro e w10 ⟨rfl, hb10⟩))
          go_ret
          exact ⟨rfl, C.below_chain hbel.out hb10⟩
        · go_wp2_with (first | (go_at_call 13; refine (V.err_any _ _).mono ?_; rintro e w' ⟨rfl, rfl⟩) | (go_at_call 8; refine (awake_any _).mono ?_; rintro e w10 ⟨rfl, hb10⟩))
          all_goals first | (go_ret; exact ⟨rfl, C.below_chain hbel.out hb10⟩) | exact (hNE.out (by assumption) (by assumption) (by assumption) (by assumption)).elim
      · have hE : Eight w (w2.heap.size + 1) w2.heap.size (a : Int) rk rn rs (b : Int) sk sn ss ((w2.alloc (.cells #[.int .i64 (b : Int), .int .i64 sk, .int .i64 sn, .string ss] 27)).alloc (.cells #[.int .i64 (a : Int), .int .i64 rk, .int .i64 rn, .string rs] 27)).drew := eight_b HB.out _ _ _ _ _ _ _ _ _
        generalize ((w2.alloc (.cells #[.int .i64 (b : Int), .int .i64 sk, .int .i64 sn, .string ss] 27)).alloc (.cells #[.int .i64 (a : Int), .int .i64 rk, .int .i64 rn, .string rs] 27)).drew = w3 at hE ⊢
        generalize w2.heap.size + 1 = bp at hE ⊢
        generalize w2.heap.size = bq at hE ⊢
        obtain ⟨p0, p1, p2, p3, q0, q1, q2, q3, _, _, _⟩ := id hE
        have HE : Hid (Eight w bp bq (a : Int) rk rn rs (b : Int) sk sn ss w3) := hE
        clear hE
        go_wp2_with fail
        refine Calls.mono (HP.out _) ?_
        rintro e w4 ⟨rfl, hb4⟩
        have hE4 := HE.out.go hb4
        clear p0 p1 p2 p3 q0 q1 q2 q3 HE hb4
        obtain ⟨p0, p1, p2, p3, q0, q1, q2, q3, _, _, _⟩ := id hE4
        have HE : Hid (Eight w bp bq (a : Int) rk rn rs (b : Int) sk sn ss w4) := hE4
        clear hE4
        go_wp2_with fail
        refine Calls.mono (HQ.out _) ?_
        rintro e w5 ⟨rfl, hb5⟩
        have hE5 := HE.out.go hb5
        clear p0 p1 p2 p3 q0 q1 q2 q3 HE hb5
        have HE : Hid (Eight w bp bq (a : Int) rk rn rs (b : Int) sk sn ss w5) := hE5
        clear hE5
        go_wp2_with fail
        refine Calls.mono (HG1.out _) ?_
        rintro e w6 ⟨rfl, hb6⟩
        have HE6 : Hid (Eight w bp bq (a : Int) rk rn rs (b : Int) sk sn ss (w6.alloc (.cells #[.int .i64 (a : Int), .int .i64 rk, .int .i64 rn, .string rs] 27))) := (HE.out.go hb6).go ((Below.refl _ _).alloc (Nat.le_refl _) (.cells #[.int .i64 (a : Int), .int .i64 rk, .int .i64 rn, .string rs] 27))
        have HL6 : Hid (OneR w6.heap.size (a : Int) rk rn rs (w6.alloc (.cells #[.int .i64 (a : Int), .int .i64 rk, .int .i64 rn, .string rs] 27))) := last_rec w6 (a : Int) rk rn rs 27
        clear HE hb6
        go_wp2_with fail
        generalize w6.alloc (.cells #[.int .i64 (a : Int), .int .i64 rk, .int .i64 rn, .string rs] 27) = w6a at HE6 HL6 ⊢
        generalize w6.heap.size = br at HL6 ⊢
        refine Calls.mono (HG2.out _) ?_
        rintro e w7 ⟨rfl, hb7⟩
        have HE7 : Hid (Eight w bp bq (a : Int) rk rn rs (b : Int) sk sn ss w7) := HE6.out.go hb7
        have HL7 : Hid (OneR br (a : Int) rk rn rs w7) := HL6.out.go hb7
        clear HE6 HL6 hb7
        go_wp2_with fail
        have HE7a : Hid (Eight w bp bq (a : Int) rk rn rs (b : Int) sk sn ss (w7.alloc (.cells #[.int .i64 0, .int .i64 0, .int .i64 0, .string ⟨#[]⟩] 27))) := HE7.out.go ((Below.refl _ _).alloc (Nat.le_refl _) _)
        have HL7a : Hid (OneR br (a : Int) rk rn rs (w7.alloc (.cells #[.int .i64 0, .int .i64 0, .int .i64 0, .string ⟨#[]⟩] 27))) := HL7.out.go ((Below.refl _ _).alloc (Nat.le_refl _) _)
        clear HE7 HL7
        rw [show (max ((P.size : Int) - 1) 0).toNat = P.size - 1 by omega]
        refine Calls.mono (HG3.out _) ?_
        rintro e w8 ⟨rfl, hb8⟩
        have HE8 : Hid (Eight w bp bq (a : Int) rk rn rs (b : Int) sk sn ss (w8.alloc (.cells #[.int .i64 0, .int .i64 0, .int .i64 0, .string ⟨#[]⟩] 27))) := (HE7a.out.go hb8).go ((Below.refl _ _).alloc (Nat.le_refl _) _)
        have HL8 : Hid (OneR br (a : Int) rk rn rs (w8.alloc (.cells #[.int .i64 0, .int .i64 0, .int .i64 0, .string ⟨#[]⟩] 27))) := (HL7a.out.go hb8).go ((Below.refl _ _).alloc (Nat.le_refl _) _)
        clear HE7a HL7a hb8 HG1 HG2 HG3 HP HQ
        go_wp2_with fail
        generalize w8.alloc (.cells #[.int .i64 0, .int .i64 0, .int .i64 0, .string ⟨#[]⟩] 27) = w9 at HE8 HL8 ⊢
        obtain ⟨p0, p1, p2, p3, q0, q1, q2, q3, hbel, _, _⟩ := id HE8.out
        obtain ⟨r0, r1, r2, r3, _⟩ := id HL8.out
        clear HE8 HL8
        rcases hPQ with ⟨ea, rfl, rfl, rfl, hpq⟩ | ⟨hNE, hpq⟩
        · obtain rfl : a = b := by omega
          go_wp2_with (first | (go_at_call 13; refine (V.err_any _ _).mono ?_; rintro e w' ⟨rfl, rfl⟩) | (go_at_call 8; refine (awake_any _).mono ?_; rintro e w10 ⟨rfl, hb10⟩))
          go_ret
          exact ⟨rfl, C.below_chain hbel.out hb10⟩
        · go_wp2_with (first | (go_at_call 13; refine (V.err_any _ _).mono ?_; rintro e w' ⟨rfl, rfl⟩) | (go_at_call 8; refine (awake_any _).mono ?_; rintro e w10 ⟨rfl, hb10⟩))
          all_goals first | (go_ret; exact ⟨rfl, C.below_chain hbel.out hb10⟩) | exact (hNE.out (by assumption) (by assumption) (by assumption) (by assumption)).elim
end Go.Proofs.Ytmjmlccdgdakdaa.T
