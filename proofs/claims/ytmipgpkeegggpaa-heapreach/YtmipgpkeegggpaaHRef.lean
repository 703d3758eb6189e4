-- PROVED: the reference's Reach (6.2).
import Derived.Test.YtmipgpkeegggpaaHVals
namespace Go.Proofs.Ytmipgpkeegggpaa.P
open Go.RowKit Hq
set_option linter.unusedVariables false
def leadsL (c : Cl) : List Vl := (c.vals ++ if c.kind = 1 ∨ c.kind = 4 then [⟨5, c.a, ⟨#[]⟩⟩] else []) ++ if c.kind = 3 then [⟨5, c.b, ⟨#[]⟩⟩] else []
theorem tv_app (L M : List Vl) : tv (L ++ M) = tv L ++ tv M := by simp [tv]
theorem leads_out (c : Cl) : tv (leadsL c) = outC c := by
  unfold leadsL outC
  rw [tv_app, tv_app]
  by_cases h : c.kind = 1 ∨ c.kind = 4
  · have h3 : ¬ c.kind = 3 := by omega
    simp [h, h3, tv, to1]
  · by_cases h3 : c.kind = 3
    · simp [h3, tv, to1]
    · simp [h, h3, tv]
theorem leads_len (c : Cl) : (leadsL c).length ≤ c.vals.length + 2 := by
  unfold leadsL
  rw [List.length_append, List.length_append]
  split <;> split <;> simp
structure RInv (n : Nat) (R : List Vl) (out : Nat → List Int) (K : Nat) (S : List Bool) (Q : List Vl) (i : Nat) : Prop where
  len : S.length = n
  sound : ∀ x, On S x → Rch n (tv R) out x
  src : ∀ v, v ∈ Q → ∀ x : Nat, (x : Int) ∈ to1 v → 1 ≤ x → x ≤ n → Rch n (tv R) out x
  done : ∀ j, j < i → ∀ v, Q[j]? = some v → ∀ x : Nat, (x : Int) ∈ to1 v → 1 ≤ x → x ≤ n → On S x
  closed : ∀ y, On S y → ∀ x : Int, x ∈ out y → ∃ v, v ∈ Q ∧ x ∈ to1 v
  roots : ∀ x : Int, x ∈ tv R → ∃ v, v ∈ Q ∧ x ∈ to1 v
  few : Q.length + K * S.count false ≤ R.length + K * n
  le : i ≤ Q.length
theorem mem_tv {L : List Vl} {x : Int} : x ∈ tv L ↔ ∃ v, v ∈ L ∧ x ∈ to1 v := by simp [tv, List.mem_flatMap]
theorem RInv.start (n : Nat) (R : List Vl) (out : Nat → List Int) (K : Nat) : RInv n R out K (List.replicate n false) R 0 where
  len := by simp
  sound := fun x h => h.none.elim
  src := fun v hv x hx h1 h2 => .root (mem_tv.2 ⟨v, hv, hx⟩) h1 h2
  done := fun j hj => by omega
  closed := fun y h => h.none.elim
  roots := fun x hx => mem_tv.1 hx
  few := by simp
  le := by omega
section
variable {n K i : Nat} {R Q : List Vl} {out : Nat → List Int} {S : List Bool}
theorem RInv.skip (h : RInv n R out K S Q i) {v : Vl} (hv : Q[i]? = some v) (hs : ∀ x : Nat, (x : Int) ∈ to1 v → 1 ≤ x → x ≤ n → On S x) : RInv n R out K S Q (i + 1) where
  len := h.len
  sound := h.sound
  src := h.src
  done := fun j hj u hu x hx h1 h2 => by
    by_cases e : j = i
    · subst e; rw [hv] at hu; cases hu; exact hs x hx h1 h2
    · exact h.done j (by omega) u hu x hx h1 h2
  closed := h.closed
  roots := h.roots
  few := h.few
  le := by
    rcases Nat.lt_or_ge i Q.length with h | h
    · omega
    · rw [List.getElem?_eq_none h] at hv; cases hv
theorem On.set {S : List Bool} {k y : Nat} (hk : k < S.length) : On (S.set k true) y ↔ On S y ∨ y = k + 1 := by
  unfold On
  by_cases e : y = k + 1
  · subst e
    rw [Nat.add_sub_cancel, List.getElem?_set_self hk]
    simp
  · constructor
    · rintro ⟨h1, h2⟩
      rw [List.getElem?_set_ne (by omega)] at h2
      exact .inl ⟨h1, h2⟩
    · rintro (⟨h1, h2⟩ | h)
      · exact ⟨h1, by rw [List.getElem?_set_ne (by omega)]; exact h2⟩
      · exact absurd h e
theorem RInv.add (h : RInv n R out K S Q i) {v : Vl} (hv : Q[i]? = some v) {k : Nat} (ht : to1 v = [((k + 1 : Nat) : Int)]) (hk : S[k]? = some false) {M : List Vl} (hM : tv M = out (k + 1)) (hl : M.length ≤ K) : RInv n R out K (S.set k true) (Q ++ M) (i + 1) := by
  have hkl : k < S.length := by
    rcases Nat.lt_or_ge k S.length with h | h
    · exact h
    · rw [List.getElem?_eq_none h] at hk; cases hk
  have hil : i < Q.length := by
    rcases Nat.lt_or_ge i Q.length with h | h
    · exact h
    · rw [List.getElem?_eq_none h] at hv; cases hv
  have hkn : k + 1 ≤ n := by rw [← h.len]; exact hkl
  have hr : Rch n (tv R) out (k + 1) := h.src v (List.mem_of_getElem? hv) (k + 1) (by rw [ht]; simp) (by omega) hkn
  have hc := falses_set S k hk
  refine ⟨by simpa using h.len, ?_, ?_, ?_, ?_, ?_, ?_, ?_⟩
  · intro x hx
    rcases (On.set hkl).1 hx with h1 | rfl
    · exact h.sound x h1
    · exact hr
  · intro u hu x hx h1 h2
    rcases List.mem_append.1 hu with h3 | h3
    · exact h.src u h3 x hx h1 h2
    · exact .step hr (by rw [← hM]; exact mem_tv.2 ⟨u, h3, hx⟩) h1 h2
  · intro j hj u hu x hx h1 h2
    rw [On.set hkl]
    by_cases e : j = i
    · subst e
      rw [List.getElem?_append_left hil, hv] at hu
      cases hu
      rw [ht, List.mem_singleton] at hx
      exact .inr (Int.ofNat.inj hx)
    · rw [List.getElem?_append_left (by omega)] at hu
      exact .inl (h.done j (by omega) u hu x hx h1 h2)
  · intro y hy x hx
    rcases (On.set hkl).1 hy with h1 | rfl
    · obtain ⟨u, h2, h3⟩ := h.closed y h1 x hx
      exact ⟨u, List.mem_append_left _ h2, h3⟩
    · rw [← hM] at hx
      obtain ⟨u, h2, h3⟩ := mem_tv.1 hx
      exact ⟨u, List.mem_append_right _ h2, h3⟩
  · intro x hx
    obtain ⟨u, h2, h3⟩ := h.roots x hx
    exact ⟨u, List.mem_append_left _ h2, h3⟩
  · have := h.few
    rw [List.length_append, ← hc, Nat.mul_add] at *
    omega
  · rw [List.length_append]; omega
theorem RInv.all (h : RInv n R out K S Q Q.length) (x : Nat) : On S x ↔ Rch n (tv R) out x := by
  have key : ∀ (v : Vl) (x : Nat), v ∈ Q → (x : Int) ∈ to1 v → 1 ≤ x → x ≤ n → On S x := fun v x hv hx h1 h2 => by
    obtain ⟨j, hj⟩ := List.getElem?_of_mem hv
    have hjl : j < Q.length := by
      rcases Nat.lt_or_ge j Q.length with h | h
      · exact h
      · rw [List.getElem?_eq_none h] at hj; cases hj
    exact h.done j hjl v hj x hx h1 h2
  refine ⟨h.sound x, fun hr => ?_⟩
  induction hr with
  | root a b c =>
    obtain ⟨v, h1, h2⟩ := h.roots _ a
    exact key v _ h1 h2 b c
  | step _ a b c ih =>
    obtain ⟨v, h1, h2⟩ := h.closed _ ih _ a
    exact key v _ h1 h2 b c
end
section
variable {base : Nat} {w w' : World}
set_option maxRecDepth 100000 in
set_option maxHeartbeats 2000000 in
theorem leads_any {c : Cl} {aK : Option Addr} {nK kK : Nat} {vV : Value} (hB : base ≤ w.heap.size) (hv : VB base w vV c.vals) (hL : c.vals.length ≤ 1000) : Calls Try.prog 43 #[.agg #[.int .i64 c.kind, .int .i64 c.a, .int .i64 c.b, .slice aK nK kK, vV]] w fun e w' => ∃ r, e = .returned r ∧ Hid (OV w.heap.size w' r (leadsL c)) ∧ Hid (Below w.heap.size w w') := by
  obtain ⟨aV, kV, rfl, -⟩ := id hv
  have hal : Below w.heap.size w (w.alloc (.cells #[.int .i64 c.kind, .int .i64 c.a, .int .i64 c.b, .slice aK nK kK, .slice aV c.vals.length kV] 30)) := (Below.refl _ _).alloc (Nat.le_refl _) _
  have hal2 : Below w.heap.size w ((w.alloc (.cells #[.int .i64 c.kind, .int .i64 c.a, .int .i64 c.b, .slice aK nK kK, .slice aV c.vals.length kV] 30)).alloc (.cells #[] 46)) := hal.alloc hal.size _
  have hx := heap_alloc_new w (.cells #[.int .i64 c.kind, .int .i64 c.a, .int .i64 c.b, .slice aK nK kK, .slice aV c.vals.length kV] 30)
  obtain ⟨x0, x1, x2, x3, x4, y0, y1, y2, y3, y4, lx⟩ := blk5 hx
  have hO := OV.new (base := w.heap.size) (w := w.alloc (.cells #[.int .i64 c.kind, .int .i64 c.a, .int .i64 c.b, .slice aK nK kK, .slice aV c.vals.length kV] 30)) hal.size
  obtain ⟨a3, cap3, w3, hr, ho, hk⟩ := hO.app (hv.below (hal2.mono hB)) hal2.size (by simp; omega) 28
  have hx2 : ((w.alloc (.cells #[.int .i64 c.kind, .int .i64 c.a, .int .i64 c.b, .slice aK nK kK, .slice aV c.vals.length kV] 30)).alloc (.cells #[] 46)).heap[w.heap.size]? = some (.cells #[.int .i64 c.kind, .int .i64 c.a, .int .i64 c.b, .slice aK nK kK, .slice aV c.vals.length kV] 30 (0, 0)) := (Below.heap_alloc _ _ _ (by simp)).trans hx
  have HX3 : Hid (w3.heap[w.heap.size]? = some (.cells #[.int .i64 c.kind, .int .i64 c.a, .int .i64 c.b, .slice aK nK kK, .slice aV c.vals.length kV] 30 (0, 0))) := (hk.same _ _ _ _ hx2 (by simp)).trans hx2
  have HO3 : Hid (OV w.heap.size w3 (.slice a3 c.vals.length cap3) c.vals) := (show OV _ _ _ _ from by simpa using ho)
  have HB3 : Hid (Below w.heap.size w w3) := hal2.trans hk.bel
  have HR : Hid (_) := hr
  clear hr ho hk hO hal hal2 hx hx2 hv
  have HLL : Hid (leadsL c = (c.vals ++ if c.kind = 1 ∨ c.kind = 4 then [⟨5, c.a, ⟨#[]⟩⟩] else []) ++ if c.kind = 3 then [⟨5, c.b, ⟨#[]⟩⟩] else []) := rfl
  obtain ⟨k, ca, cb, keys, vals⟩ := c
  simp only at HR HX3 HO3 x0 x1 x2 x3 x4 HLL hL ⊢
  generalize leadsL ⟨k, ca, cb, keys, vals⟩ = LL at *
  simp at HR
  have HP : Hid (∀ (x : Int), ∃ a cap w5, (Builtin.append_ #[28, 28] 28 #[.slice a3 vals.length cap3, .slice (some ⟨w3.heap.size, 0, none⟩) 1 1]).run Try.prog (w3.alloc (.cells #[.int .i64 5, .int .i64 x, .string ⟨#[]⟩] 46)) = .ok (.slice a (vals.length + 1) cap) w5 ∧ OV w.heap.size w5 (.slice a (vals.length + 1) cap) (vals ++ [⟨5, x, ⟨#[]⟩⟩]) ∧ Below w.heap.size w w5 ∧ w5.heap[w.heap.size]? = some (.cells #[.int .i64 k, .int .i64 ca, .int .i64 cb, .slice aK nK kK, .slice aV vals.length kV] 30 (0, 0))) := fun x => by
    have hV := vals_new (base := w.heap.size) (w := w3) (arr := #[.int .i64 5, .int .i64 x, .string ⟨#[]⟩]) (L := [⟨5, x, ⟨#[]⟩⟩]) HB3.out.size 1 rfl (fun i hi => by
      match i, hi with
      | 0, _ => exact ⟨rfl, rfl, rfl⟩
      | n + 1, hi => exact absurd hi (by simp))
    have k4 : Keep [] w.heap.size w3 (w3.alloc (.cells #[.int .i64 5, .int .i64 x, .string ⟨#[]⟩] 46)) := keepB HB3.out.size ((Below.refl _ _).alloc (Nat.le_refl _) _)
    obtain ⟨a, cap, w5, h1, h2, h3⟩ := (HO3.out.keep k4 (by simp)).app hV.vb (Nat.le_trans HB3.out.size k4.size) (by simp; omega) 28
    have e4 := (k4.same _ _ _ _ HX3.out (by simp)).trans HX3.out
    exact ⟨a, cap, w5, h1, h2, (HB3.out.trans k4.bel).trans h3.bel, (h3.same _ _ _ _ e4 (by simp)).trans e4⟩
  by_cases h1 : k = 1 ∨ k = 4
  · have h3 : ¬ k = 3 := by omega
    have h3' : (k == 3) = false := by simp [h3]
    rw [if_pos h1, if_neg h3, List.append_nil] at HLL
    obtain ⟨a5, cap5, w5, hr5, ho5, hb5, hx5⟩ := HP.out ca
    have HR5 : Hid (_) := hr5
    have HO5 : Hid (OV w.heap.size w5 (.slice a5 (vals.length + 1) cap5) LL) := (show OV _ _ _ _ from by rw [HLL.out]; exact ho5)
    have HB5 : Hid (Below w.heap.size w w5) := hb5
    have HX5 : Hid (_) := hx5
    clear hr5 ho5 hb5 hx5 HP HLL
    go_enter Try.func43, Try.ntmps43
    go_upto_region 2 with (at_builtin; refine wpList_append_run _ _ 28 rfl rfl _ _ _ _ rfl rfl HR.out ?_)
    clear x0 x1 x2 x3 x4 y0 y1 y2 y3 y4 lx HR
    obtain ⟨x0, x1, x2, x3, x4, y0, y1, y2, y3, y4, lx⟩ := blk5 HX3.out
    
    rcases h1 with rfl | rfl
    all_goals
      go_upto_region 4 with (at_builtin; refine wpList_append_run _ _ 28 rfl rfl _ _ _ _ rfl rfl HR5.out ?_)
      clear x0 x1 x2 x3 x4 y0 y1 y2 y3 y4 lx HR5
      obtain ⟨x0, x1, x2, x3, x4, y0, y1, y2, y3, y4, lx⟩ := blk5 HX5.out
      go_wp2_with fail
      go_ret
      exact ⟨_, rfl, HO5, HB5⟩
  · obtain ⟨h1, h4⟩ := not_or.mp h1
    have h1' : (k == 1) = false := by simp [h1]
    have h4' : (k == 4) = false := by simp [h4]
    rw [if_neg (by omega), List.append_nil] at HLL
    by_cases h3 : k = 3
    · rw [if_pos h3] at HLL
      obtain ⟨a5, cap5, w5, hr5, ho5, hb5, hx5⟩ := HP.out cb
      have HR5 : Hid (_) := hr5
      have HO5 : Hid (OV w.heap.size w5 (.slice a5 (vals.length + 1) cap5) LL) := (show OV _ _ _ _ from by rw [HLL.out]; exact ho5)
      have HB5 : Hid (Below w.heap.size w w5) := hb5
      clear hr5 ho5 hb5 hx5 HP HLL h1 h4 h1' h4'
      subst h3
      go_enter Try.func43, Try.ntmps43
      go_upto_region 2 with (at_builtin; refine wpList_append_run _ _ 28 rfl rfl _ _ _ _ rfl rfl HR.out ?_)
      clear x0 x1 x2 x3 x4 y0 y1 y2 y3 y4 lx HR
      obtain ⟨x0, x1, x2, x3, x4, y0, y1, y2, y3, y4, lx⟩ := blk5 HX3.out
      
      go_wp2_with (at_builtin; refine wpList_append_run _ _ 28 rfl rfl _ _ _ _ rfl rfl HR5.out ?_)
      go_ret
      exact ⟨_, rfl, HO5, HB5⟩
    · have h3' : (k == 3) = false := by simp [h3]
      rw [if_neg h3, List.append_nil] at HLL
      have HO5 : Hid (OV w.heap.size w3 (.slice a3 vals.length cap3) LL) := (show OV _ _ _ _ from by rw [HLL.out]; exact HO3.out)
      clear HP HLL
      go_enter Try.func43, Try.ntmps43
      go_upto_region 2 with (at_builtin; refine wpList_append_run _ _ 28 rfl rfl _ _ _ _ rfl rfl HR.out ?_)
      clear x0 x1 x2 x3 x4 y0 y1 y2 y3 y4 lx HR
      obtain ⟨x0, x1, x2, x3, x4, y0, y1, y2, y3, y4, lx⟩ := blk5 HX3.out
      
      go_wp2_with fail
      go_ret
      exact ⟨_, rfl, HO5, HB3⟩
end
end Go.Proofs.Ytmipgpkeegggpaa.P
