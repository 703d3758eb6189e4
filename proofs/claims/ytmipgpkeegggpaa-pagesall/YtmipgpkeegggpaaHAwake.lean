-- PROVED: the statements' own 'awake' of layer 6; cells without lists by address.
import Derived.Test.YtmipgpkeegggpaaHKit
namespace Go.Proofs.Ytmipgpkeegggpaa.P
open Go.RowKit
set_option linter.unusedVariables false
section
variable {base : Nat} {w : World} {bs : List Bk}
theorem hload_p (h : Sys base w bs) {i : Nat} {b : Bk} (hb : bs[i]? = some b) {H A : Nat} (hA : b.at_ = A) (hp : Hp w H A) (k : Nat) {K : Int} (hK : (k : Int) + 1 = K) (hk : k < b.len) {x a : Int} (hc : b.slots[k]? = some (pc x a)) :
    Calls Try.prog 15 #[.pointer (some ⟨H, 0, none⟩), .int .i64 K] w fun e w' => ∃ aK kK aV kV, e = .returned (.tuple #[.agg #[.int .i64 x, .int .i64 a, .int .i64 0, .slice aK 0 kK, .slice aV 0 kV], .int .i64 0]) ∧ Hid (Below w.heap.size w w') := by
  have := (h.ok i b hb).1
  exact (hload h hb hA hp (k := k) (K := K) (by rw [IntKind.wrap_i64]; omega) hk hc).mono fun e w' ⟨aK, kK, aV, kV, h1, _, h3⟩ => ⟨aK, kK, aV, kV, h1, h3⟩
theorem halloc_p (h : Sys base w bs) {i : Nat} {b : Bk} (hb : bs[i]? = some b) {H A : Nat} (hA : b.at_ = A) (hp : Hp w H A) (ho : b.opn = true) (hl : b.len < 4096) {n : Int} (hn : (b.len : Int) + 1 = n) (x a : Int) :
    Calls Try.prog 14 #[.pointer (some ⟨H, 0, none⟩), .agg #[.int .i64 x, .int .i64 a, .int .i64 0, .slice none 0 0, .slice none 0 0]] w fun e w' => e = .returned (.tuple #[.int .i64 n, .int .i64 0]) ∧
      ∃ b', Hid (Sys base w' (bs.set i b')) ∧ Hid (Added w.heap.size bs b (pc x a) b') ∧ Hid (Keep Four base w w') :=
  halloc h hb hA hp ho hl hn (c := pc x a) (Parts.nil _ _ _ _ _)
theorem hstore_p (h : Sys base w bs) {i : Nat} {b : Bk} (hb : bs[i]? = some b) {H A : Nat} (hA : b.at_ = A) (hp : Hp w H A) (k : Nat) {K : Int} (hK : (k : Int) + 1 = K) (hk : k < b.len) (x a : Int) :
    Calls Try.prog 13 #[.pointer (some ⟨H, 0, none⟩), .int .i64 K, .agg #[.int .i64 x, .int .i64 a, .int .i64 0, .slice none 0 0, .slice none 0 0]] w fun e w' => e = .returned (.int .i64 0) ∧
      ∃ q, Hid (w.heap.size ≤ q) ∧ Hid (Sys base w' (bs.set i (upd bs b k (pc x a) q))) ∧ Hid (Keep Four base w w') := by
  have := (h.ok i b hb).1
  exact hstore h hb hA hp (k := k) (K := K) (by rw [IntKind.wrap_i64]; omega) hk (c := pc x a) (Parts.nil _ _ _ _ _)
end
set_option maxRecDepth 100000 in
set_option maxHeartbeats 2000000 in
theorem hawake_any (w : World) : Calls Try.prog 10 #[] w fun e w' => e = .returned (.bool true) ∧ Below w.heap.size w w' := by
  go_enter Try.func10, Try.ntmps10
  go_wp2_with fail
  refine Calls.mono (hnew (sys_nil w) (by simp)) ?_
  rintro e w1 ⟨H, A, rfl, b, HS1, HF, HH, HQ, HB1⟩
  have HA1 : Hid (_) := halloc_p HS1.out (i := 0) rfl HF.out.at_ HH.out HF.out.opn (by rw [HF.out.len]; omega) (n := 1) (by rw [HF.out.len]; rfl) 1 0
  go_wp2_with fail
  refine Calls.mono HA1.out ?_
  rintro e w2 ⟨rfl, b2, HS2, HD2, HK2⟩
  have HG2 : Hid (_) := hload_p HS2.out (i := 0) rfl (HD2.out.at_.trans HF.out.at_) (HH.out.keep HK2.out (by simp [Four])) 0 (K := 1) rfl (by rw [HD2.out.len, HF.out.len]; omega) (by have := HD2.out.new; rwa [HF.out.len] at this)
  have HBB : Hid (Below w.heap.size w w2) := HB1.out.trans HK2.out.bel
  clear HA1 HS1 HF HH HD2 HK2 HB1 HS2
  go_wp2_with fail
  refine Calls.mono HG2.out ?_
  rintro e w3 ⟨aK, kK, aV, kV, rfl, HB3⟩
  have HEND : Hid (Below w.heap.size w (w3.alloc (.cells #[.int .i64 1, .int .i64 0, .int .i64 0, .slice aK 0 kK, .slice aV 0 kV] 30))) :=
    (Below.chain HBB.out HB3.out HBB.out.size).alloc (Nat.le_trans HBB.out.size HB3.out.size) _
  clear HG2
  go_wp2_with (first | (go_at_call 12; refine Calls.mono (err_any _ _) ?_; rintro e w9 ⟨rfl, rfl⟩))
  go_ret
  exact ⟨rfl, HEND.out⟩
end Go.Proofs.Ytmipgpkeegggpaa.P
