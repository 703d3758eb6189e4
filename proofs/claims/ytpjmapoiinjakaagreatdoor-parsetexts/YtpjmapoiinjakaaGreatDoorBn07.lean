/- Texts: PsS PsZ PsQ PsV PsB. -/
import Derived.Test.YtpjmapoiinjakaaGreatDoorBn06
import Derived.BigRegion
section
namespace Go.Proofs.YtpjmapoiinjakaaGreatDoor.R
open Go.RowKit
open L (tkA)
set_option linter.unusedVariables false
open Ps in
theorem jump_ru {k : Nat} {s s' : Ps.St} {r : Nat} (h : Ru (jump k) s r s') : ∃ T s1 u s2, Ru skip s T s1 ∧ Ru endS s1 u s2 ∧ Ru (add { k := k, a := T.a }) s2 r s' := by
  obtain ⟨e, n⟩ := h
  unfold jump at e
  simp only [] at e
  rcases e0 : skip s with ⟨T, s1⟩
  simp only [e0] at e
  rcases e1 : endS s1 with ⟨u, s2⟩
  simp only [e1] at e
  have n2 := gb (gr_add _) e n
  have n1 := gb gr_endS e1 n2
  exact ⟨T, s1, u, s2, ⟨e0, n1⟩, ⟨e1, n2⟩, ⟨e, n⟩⟩
open Ps in
theorem whileS_ru {L : Lv} (g : GrL L) {s s' : Ps.St} {r : Nat} (h : Ru (whileS L) s r s') : ∃ T s1 c s2 y s3, Ru skip s T s1 ∧ Ru (inParens L) s1 c s2 ∧ Ru (inner L) s2 y s3 ∧ Ru (add { k := 27, a := T.a, kids := [c, y] }) s3 r s' := by
  obtain ⟨e, n⟩ := h
  unfold whileS at e
  simp only [] at e
  rcases e0 : skip s with ⟨T, s1⟩
  simp only [e0] at e
  rcases e1 : inParens L s1 with ⟨c, s2⟩
  simp only [e1] at e
  rcases e2 : inner L s2 with ⟨y, s3⟩
  simp only [e2] at e
  have n3 := gb (gr_add _) e n
  have n2 := gb (gr_inner g) e2 n3
  have n1 := gb (gr_inParens g) e1 n2
  exact ⟨T, s1, c, s2, y, s3, ⟨e0, n1⟩, ⟨e1, n2⟩, ⟨e2, n3⟩, ⟨e, n⟩⟩
section
variable {F : Nat → Prop} {base B dep : Nat} {L : Ps.Lv} {s s' : Ps.St} {nv : Value} {w : World} {r : Nat}
set_option maxRecDepth 100000 in
set_option maxHeartbeats 2000000 in
theorem c_jump {k : Nat} (E : Ru (Ps.jump k) s r s') (h : RS F base B dep s nv w) : Calls Tryz.prog 81 #[.pointer (some ⟨B, 0, none⟩), .int .i64 (k : Int)] w (Tells F base B dep nv w s' (.int .i64 (r : Int))) := by
  obtain ⟨⟨tk, tt, tn, ta, tl, te⟩, s1, u, s2, E1, E2, E3⟩ := jump_ru E
  have hfl := run_field3
  go_enter Tryz.func81, Tryz.ntmps81
  go_wp2_with fail
  refine Calls.mono (c_skip E1 h) ?_
  rintro e w1 ⟨rfl, nv1, hr1, hc1⟩
  simp only [tkA] at *
  go_wp2_with fail
  refine Calls.mono (c_endS E2 hr1) ?_
  rintro e w2 ⟨rfl, nv2, hr2, hc2⟩
  go_wp2_with fail
  refine Calls.mono (c_addV E3 hr2 (NV.nil _ _ _ _) (KV.nil _ _ _ _)) ?_
  rintro e w3 ⟨rfl, nv3, hr3, hc3⟩
  go_wp2_with fail
  go_ret
  exact ⟨rfl, nv3, hr3, (hc1.trans hc2).trans hc3⟩
set_option maxRecDepth 100000 in
set_option maxHeartbeats 2000000 in
theorem c_inner (hL : ∀ F, LvC F base B dep L) (E : Ru (Ps.inner L) s r s') (h : RS F base B dep s nv w) : Calls Tryz.prog 96 #[.pointer (some ⟨B, 0, none⟩)] w (Tells F base B dep nv w s' (.int .i64 (r : Int))) := by
  have HM : Hid (_) := c_mark h
  have HN : Hid ((Ps.mark s = [108, 101, 116] ∨ Ps.mark s = [99, 111, 110, 115, 116] ∨ Ps.mark s = [102, 117, 110, 99, 116, 105, 111, 110]) → Ru Ps.fail s r s') := fun hc => by
    have := E.eq; unfold Ps.inner at this; rw [if_pos hc] at this; exact ⟨this, E.small⟩
  have HS : Hid (¬ (Ps.mark s = [108, 101, 116] ∨ Ps.mark s = [99, 111, 110, 115, 116] ∨ Ps.mark s = [102, 117, 110, 99, 116, 105, 111, 110]) → Ru L.s s r s') := fun hc => by
    have := E.eq; unfold Ps.inner at this; rw [if_neg hc] at this; exact ⟨this, E.small⟩
  clear E h
  generalize Ps.mark s = m at *
  by_cases hc : m = [108, 101, 116] ∨ m = [99, 111, 110, 115, 116] ∨ m = [102, 117, 110, 99, 116, 105, 111, 110]
  · have E := HN.out hc
    clear HN HS
    rcases hc with rfl | rfl | rfl
    all_goals
      go_enter Tryz.func96, Tryz.ntmps96
      go_wp2_with fail
      refine Calls.mono HM.out ?_
      rintro e w1 ⟨rfl, nv1, hr1, hc1⟩
      go_wp2_with fail
      refine Calls.mono (c_fail E hr1) ?_
      rintro e w2 ⟨rfl, nv2, hr2, hc2⟩
      go_wp2_with fail
      go_ret
      exact ⟨rfl, nv2, hr2, hc1.trans hc2⟩
  · have E := HS.out hc
    clear HN HS
    have n1 : (m == [108, 101, 116]) = false := by simp_all
    have n2 : (m == [99, 111, 110, 115, 116]) = false := by simp_all
    have n3 : (m == [102, 117, 110, 99, 116, 105, 111, 110]) = false := by simp_all
    clear hc
    go_enter Tryz.func96, Tryz.ntmps96
    go_wp2_with fail
    refine Calls.mono HM.out ?_
    rintro e w1 ⟨rfl, nv1, hr1, hc1⟩
    go_wp2_with fail
    refine Calls.mono (c_s hL E hr1) ?_
    rintro e w2 ⟨rfl, nv2, hr2, hc2⟩
    go_wp2_with fail
    go_ret
    exact ⟨rfl, nv2, hr2, hc1.trans hc2⟩
set_option maxRecDepth 100000 in
set_option maxHeartbeats 2000000 in
theorem c_whileS (hL : ∀ F, LvC F base B dep L) (E : Ru (Ps.whileS L) s r s') (h : RS F base B dep s nv w) : Calls Tryz.prog 80 #[.pointer (some ⟨B, 0, none⟩)] w (Tells F base B dep nv w s' (.int .i64 (r : Int))) := by
  obtain ⟨⟨tk, tt, tn, ta, tl, te⟩, s1, c, s2, y, s3, E1, E2, E3, E4⟩ := whileS_ru (hL F).gr E
  have hfl := run_field3
  go_enter Tryz.func80, Tryz.ntmps80
  go_wp2_with fail
  refine Calls.mono (c_skip E1 h) ?_
  rintro e w1 ⟨rfl, nv1, hr1, hc1⟩
  simp only [tkA] at *
  go_wp2_with fail
  refine Calls.mono (c_inParens hL E2 hr1) ?_
  rintro e w2 ⟨rfl, nv2, hr2, hc2⟩
  go_wp2_with fail
  refine Calls.mono (c_inner hL E3 hr2) ?_
  rintro e w3 ⟨rfl, nv3, hr3, hc3⟩
  go_wp2_with fail
  refine Calls.mono (c_addL E4 hr3 #[.int .i64 (c : Int), .int .i64 (y : Int)] 2 rfl (fun j hj => by
    have : j = 0 ∨ j = 1 := by simp at hj; omega
    rcases this with rfl | rfl <;> rfl)) ?_
  rintro e w4 ⟨rfl, nv4, hr4, hc4⟩
  go_wp2_with fail
  go_ret
  exact ⟨rfl, nv4, hr4, ((hc1.trans hc2).trans hc3).trans hc4⟩
end
end Go.Proofs.YtpjmapoiinjakaaGreatDoor.R
end
section
namespace Go.Proofs.YtpjmapoiinjakaaGreatDoor.R
open Go.RowKit
open L (tkA own_block own_below cells5h info_of)
set_option linter.unusedVariables false
/-- The reader where only other ones' blocks have changed, and some are new. -/
theorem RS.grow {F F' : Nat → Prop} {base B dep : Nat} {s : Ps.St} {nv : Value} {W W' : World} (h : RS F base B dep s nv W) (hs : W.heap.size ≤ W'.heap.size) (hb : ∀ k, k < W.heap.size → ¬ F k → W'.heap[k]? = W.heap[k]?)
    (hF : ∀ k, F' k → (F k ∨ W.heap.size ≤ k) ∧ k < W'.heap.size) : RS F' base B dep s nv W' := by
  have hlB := h.lt
  obtain ⟨tv, h1, h2, h3⟩ := h.rd
  obtain ⟨vs, e, ho, hn⟩ := h.nd
  have nB : ¬ F B := fun hf => (h.far B hf).2.1 rfl
  have ap : ∀ v, Apart F B nv v → (∀ k, blockOf v = some k → k < W.heap.size) → Apart F' B nv v := fun v ha hl k hk => ⟨(ha k hk).1, (ha k hk).2.1, fun hf => by
    rcases (hF k hf).1 with e | e
    · exact (ha k hk).2.2 e
    · have := hl k hk; omega⟩
  have sm : ∀ v, Apart F B nv v → ∀ k, blockOf v = some k → k < W.heap.size → W'.heap[k]? = W.heap[k]? := fun v ha k hk hl => hb k hl (ha k hk).2.2
  have tl : ∀ k, blockOf tv = some k → k < W.heap.size := fun k hk => by
    obtain ⟨g, off, cap, rfl, _, _, hg, _⟩ := h2
    have : g = k := by simpa [blockOf] using hk
    omega
  have nl := own_block ho
  refine ⟨h.hB, h.few, h.last, ⟨tv, (hb B hlB nB).trans h1, h2.same hs (sm tv h3), ap tv h3 tl⟩, ⟨vs, e, own_keep ho (fun k hk => hb k (nl k hk).2 (fun hf => (h.far k hf).2.2 hk)), fun x hx => ?_⟩, h.own, fun k hk => ⟨(hF k hk).2, ?_, ?_⟩⟩
  · have hx' := hn x hx
    exact ⟨hx'.names.same hs (sm _ hx'.anm), hx'.kids.same hs (sm _ hx'.akd), ap _ hx'.anm hx'.lnm, ap _ hx'.akd hx'.lkd, fun k hk => Nat.lt_of_lt_of_le (hx'.lnm k hk) hs, fun k hk => Nat.lt_of_lt_of_le (hx'.lkd k hk) hs⟩
  · rcases (hF k hk).1 with e | e
    · exact (h.far k e).2.1
    · omega
  · rcases (hF k hk).1 with e | e
    · exact (h.far k e).2.2
    · intro e2; have := (nl k e2).2; omega
/-- A row of one's own beside the reader, begun behind w0. -/
structure KO (F : Nat → Prop) (base B dep : Nat) (s : Ps.St) (nv : Value) (w0 W : World) (e : TypeId) (v : Value) (n : Nat) (xs : List Value) : Prop where
  rs : RS (fun k => F k ∨ v.ownBlock = some k) base B dep s nv W
  own : W.ownsRow w0.heap.size e 1 v n xs
  sz : w0.heap.size ≤ W.heap.size
variable {F : Nat → Prop} {base B dep : Nat} {s s' : Ps.St} {nv nv' : Value} {w0 W W' : World} {e : TypeId} {v : Value} {n : Nat} {xs : List Value}
theorem KO.nil (h : RS F base B dep s nv W) (hs : w0.heap.size ≤ W.heap.size) : KO F base B dep s nv w0 W e (.slice none 0 0) 0 [] :=
  ⟨h.less (fun k hk => by rcases hk with hk | hk; exact hk; simp [Value.ownBlock] at hk), ⟨rfl, .inl ⟨rfl, rfl⟩⟩, hs⟩
theorem KO.go (h : KO F base B dep s nv w0 W e v n xs) (hr : RS (fun k => F k ∨ v.ownBlock = some k) base B dep s' nv' W') (c : Chg B nv nv' W W') : KO F base B dep s' nv' w0 W' e v n xs :=
  ⟨hr, own_keep h.own (fun k hk => c.block k (own_block h.own k hk).2 (h.rs.far k (.inr hk)).2.1 (h.rs.far k (.inr hk)).2.2), Nat.le_trans h.sz c.size⟩
/-- A new row out of what is written down. -/
theorem KO.lit (h : RS F base B dep s nv W) (hs : w0.heap.size ≤ W.heap.size) (V : Array Value) (m : Nat) (hm : V.size = m) (h64 : m ≤ 100) : KO F base B dep s nv w0 (W.alloc (.cells V e)) e (.slice (some ⟨W.heap.size, 0, none⟩) m m) m V.toList := by
  subst hm
  have hX : (W.alloc (.cells V e)).heap[W.heap.size]? = some (.cells V e (0, 0)) := Array.getElem?_push_size
  refine ⟨(h.more (.cells V e)).less (fun k hk => ?_), ⟨by simp, .inr ⟨_, _, V, rfl, hs, hX, Nat.le_refl _, by unfold maxLen; omega, by simp, by rw [Nat.mul_one]; exact List.take_of_length_le (by simp)⟩⟩, by rw [alloc_size']; omega⟩
  rcases hk with hk | hk
  · exact .inl hk
  · simp [Value.ownBlock] at hk; exact .inr hk.symm
/-- A row behind another one. -/
theorem KO.cat (h : KO F base B dep s nv w0 W e v n xs) (t ty : TypeId) {bytes : Nat} {z : Value} {i0 : TypeInfo} (ht : Tryz.prog.underlying t = some (.slice e)) (hi : Tryz.prog.info? e = some i0) (hz0 : i0.zero = some z) (hz1 : i0.size = 1) (hz2 : i0.bytes = bytes) (hz3 : z.cells.size = 1) (hby : bytes ≤ 16)
    {W1 : World} (hW : Below W.heap.size W W1) (ad : Addr) (m c : Nat) (news : List Value) (hl : news.length = m) (hnews : ∀ j u, news[j]? = some u → W1.cell? (ad.add j) = some u) (h1 : ∀ u ∈ news, u.oneCell' = true) (hn : n + m ≤ 1000000) (hm : 1 ≤ m) :
    ∃ a' cap' w3, (Builtin.append_ #[t, t] ty #[v, .slice (some ad) m c]).run Tryz.prog W1 = .ok (.slice a' (n + m) cap') w3 ∧ KO F base B dep s nv w0 w3 e (.slice a' (n + m) cap') (n + m) (xs ++ news) ∧ (∀ nv0, Chg B nv0 nv w0 W → Chg B nv0 nv w0 w3) := by
  have ho1 := own_below h.own hW
  have nl := own_block h.own
  obtain ⟨v', w3, hr, ho, hg, _, hat⟩ := run_append_own_at (P := Tryz.prog) W1 w0.heap.size t ty e i0 z 1 bytes ht hi hz0 hz1 hz2 hz3 (by decide) v n xs ho1 ad m c news (by omega) hnews h1 (by unfold maxLen; omega) (by
    have : (n + m) * bytes ≤ 1000000 * 16 := Nat.mul_le_mul hn hby
    omega) (Nat.le_trans h.sz hW.size)
  obtain ⟨a, cap, rfl⟩ : ∃ a cap, v' = .slice a (n + m) cap := by
    rcases ho.2 with ⟨_, e⟩ | ⟨g, cap, cur, e, _⟩
    · omega
    · exact ⟨_, _, e⟩
  have hsz : W.heap.size ≤ w3.heap.size := Nat.le_trans hW.size hg.size
  have nl' := own_block ho
  have hbl : ∀ k, k < W.heap.size → v.ownBlock ≠ some k → w3.heap[k]? = W.heap[k]? := fun k hk hne => (hg.block k (Nat.lt_of_lt_of_le hk hW.size) (fun e => hne e.symm)).trans (hW.block k hk)
  refine ⟨a, cap, w3, hr, ⟨h.rs.grow hsz (fun k hk hnf => hbl k hk (fun e => hnf (.inr e))) (fun k hk => ?_), ho, Nat.le_trans h.sz hsz⟩, fun nv0 c0 => ⟨hg.os.trans (hW.os.trans c0.os), hg.tape.trans (hW.tape.trans c0.tape), hg.output.trans (hW.output.trans c0.output), Nat.le_trans c0.size hsz, fun k hk h2 h3 => (hbl k (Nat.lt_of_lt_of_le hk c0.size) (fun e => by have := (nl k e).1; omega)).trans (c0.block k hk h2 h3), c0.fresh⟩⟩
  rcases hk with hk | hk
  · have := (h.rs.far k (.inl hk)).1
    exact ⟨.inl (.inl hk), by omega⟩
  · refine ⟨?_, (nl' k hk).2⟩
    rcases hat with e | e
    · exact .inl (.inr (e ▸ hk))
    · rw [e] at hk
      have hk' : W1.heap.size = k := by simpa using hk
      exact .inr (by have := hW.size; omega)
/-- One more behind a row. -/
theorem KO.more (h : KO F base B dep s nv w0 W e v n xs) (t ty : TypeId) {bytes : Nat} {z : Value} {i0 : TypeInfo} (ht : Tryz.prog.underlying t = some (.slice e)) (hi : Tryz.prog.info? e = some i0) (hz0 : i0.zero = some z) (hz1 : i0.size = 1) (hz2 : i0.bytes = bytes) (hz3 : z.cells.size = 1) (hby : bytes ≤ 16)
    (x : Value) (h1 : x.oneCell' = true) (hn : n + 1 ≤ 1000000) :
    ∃ a' cap' w3, (Builtin.append_ #[t, t] ty #[v, .slice (some ⟨W.heap.size, 0, none⟩) 1 1]).run Tryz.prog (W.alloc (.cells #[x] e)) = .ok (.slice a' (n + 1) cap') w3 ∧ KO F base B dep s nv w0 w3 e (.slice a' (n + 1) cap') (n + 1) (xs ++ [x]) ∧ (∀ nv0, Chg B nv0 nv w0 W → Chg B nv0 nv w0 w3) :=
  h.cat t ty ht hi hz0 hz1 hz2 hz3 hby ((Below.refl _ _).alloc (Nat.le_refl _) _) ⟨W.heap.size, 0, none⟩ 1 1 [x] rfl (fun j u hj => by
    have hj0 : j = 0 := by
      rcases Nat.lt_or_ge j 1 with h | h
      · omega
      · rw [List.getElem?_eq_none (by simpa using h)] at hj; cases hj
    subst hj0
    simp at hj; subst hj; simp [Addr.add]) (by intro u hu; simp at hu; subst hu; exact h1) hn (Nat.le_refl _)
theorem infoInt : (Tryz.prog.info? 3).map (fun i => (i.zero, i.size, i.bytes)) = some (some (.int .i64 0), 1, 8) := by kernel_rfl
theorem infoStr : (Tryz.prog.info? 9).map (fun i => (i.zero, i.size, i.bytes)) = some (some (.string ⟨#[]⟩), 1, 16) := by kernel_rfl
/-- Kids, names as cells. -/
abbrev kc (K : List Nat) : List Value := K.map fun k : Nat => Value.int .i64 (k : Int)
abbrev nc (N : List (List UInt8)) : List Value := N.map fun t : List UInt8 => Value.string ⟨t.toArray⟩
theorem KO.kid {K : List Nat} (h : KO F base B dep s nv w0 W 3 v K.length (kc K)) (x : Nat) (hn : K.length + 1 ≤ 1000000) :
    ∃ a' cap' w3, (Builtin.append_ #[41, 41] 41 #[v, .slice (some ⟨W.heap.size, 0, none⟩) 1 1]).run Tryz.prog (W.alloc (.cells #[.int .i64 (x : Int)] 3)) = .ok (.slice a' (K.length + 1) cap') w3 ∧ KO F base B dep s nv w0 w3 3 (.slice a' (K.length + 1) cap') (K ++ [x]).length (kc (K ++ [x])) ∧ (∀ nv0, Chg B nv0 nv w0 W → Chg B nv0 nv w0 w3) := by
  obtain ⟨i0, hi, hz0, hz1, hz2⟩ := info_of infoInt
  obtain ⟨a', cap', w3, hr, hk, hc⟩ := h.more 41 41 Tryz.underlying41 hi hz0 hz1 hz2 rfl (by omega) (.int .i64 (x : Int)) rfl hn
  exact ⟨a', cap', w3, hr, by simpa using hk, hc⟩
theorem KO.nm {N : List (List UInt8)} (h : KO F base B dep s nv w0 W 9 v N.length (nc N)) (x : List UInt8) (hn : N.length + 1 ≤ 1000000) :
    ∃ a' cap' w3, (Builtin.append_ #[35, 35] 35 #[v, .slice (some ⟨W.heap.size, 0, none⟩) 1 1]).run Tryz.prog (W.alloc (.cells #[.string ⟨x.toArray⟩] 9)) = .ok (.slice a' (N.length + 1) cap') w3 ∧ KO F base B dep s nv w0 w3 9 (.slice a' (N.length + 1) cap') (N ++ [x]).length (nc (N ++ [x])) ∧ (∀ nv0, Chg B nv0 nv w0 W → Chg B nv0 nv w0 w3) := by
  obtain ⟨i0, hi, hz0, hz1, hz2⟩ := info_of infoStr
  obtain ⟨a', cap', w3, hr, hk, hc⟩ := h.more 35 35 Tryz.underlying35 hi hz0 hz1 hz2 rfl (by omega) (.string ⟨x.toArray⟩) rfl hn
  exact ⟨a', cap', w3, hr, by simpa using hk, hc⟩
theorem own_cells (h : W.ownsRow base e 1 v n xs) : ∃ ad cap, v = .slice ad n cap ∧ n ≤ cap ∧ (n = 0 ∨ ∃ g, ad = some ⟨g, 0, none⟩ ∧ g < W.heap.size ∧ ∀ j, j < n → W.cell? ⟨g, j, none⟩ = xs[j]?) ∧ (∀ k, blockOf v = some k → v.ownBlock = some k) ∧ v.oneCell' = true := by
  have nl := own_block h
  rcases h.2 with ⟨rfl, rfl⟩ | ⟨g, cap, cur, rfl, h1, h2, h3, h4, h5, h6⟩
  · exact ⟨none, 0, rfl, Nat.le_refl _, .inl rfl, (fun k hk => nomatch hk), rfl⟩
  · refine ⟨_, cap, rfl, h3, .inr ⟨g, rfl, (nl g rfl).2, fun j hj => ?_⟩, fun k hk => by simpa [blockOf, Value.ownBlock] using hk, rfl⟩
    rw [← h6, List.getElem?_take, if_pos (by omega)]
    simp [World.cell?, h2]
/-- What was gathered, as kids. -/
theorem KO.kv {nv0 : Value} {s0 : Ps.St} {K : List Nat} (h0 : RS F base B dep s0 nv0 w0) (h : KO F base B dep s nv w0 W 3 v K.length (kc K)) : RS F base B dep s nv W ∧ KV F B nv W v K := by
  refine ⟨h.rs.less (fun k hk => .inl hk), ?_⟩
  have nl := own_block h.own
  obtain ⟨ad, cap, hv, h1, h2, h3, h4⟩ := own_cells h.own
  refine ⟨⟨ad, cap, hv, h1, ?_⟩, fun k hk => ⟨(h.rs.far k (.inr (h3 k hk))).2.1, (h.rs.far k (.inr (h3 k hk))).2.2, fun hf => by have := (h0.far k hf).1; have := (nl k (h3 k hk)).1; omega⟩, fun k hk => (nl k (h3 k hk)).2, h4⟩
  rcases h2 with h2 | ⟨g, e, hg, hc⟩
  · exact .inl (List.length_eq_zero_iff.1 h2)
  · exact .inr ⟨g, e, hg, fun j hj => (hc j hj).trans (by simp [kc, hj])⟩
theorem KO.nmv {nv0 : Value} {s0 : Ps.St} {N : List (List UInt8)} (h0 : RS F base B dep s0 nv0 w0) (h : KO F base B dep s nv w0 W 9 v N.length (nc N)) : RS F base B dep s nv W ∧ NV F B nv W v N := by
  refine ⟨h.rs.less (fun k hk => .inl hk), ?_⟩
  have nl := own_block h.own
  obtain ⟨ad, cap, hv, h1, h2, h3, h4⟩ := own_cells h.own
  refine ⟨⟨ad, cap, hv, h1, ?_⟩, fun k hk => ⟨(h.rs.far k (.inr (h3 k hk))).2.1, (h.rs.far k (.inr (h3 k hk))).2.2, fun hf => by have := (h0.far k hf).1; have := (nl k (h3 k hk)).1; omega⟩, fun k hk => (nl k (h3 k hk)).2, h4⟩
  rcases h2 with h2 | ⟨g, e, hg, hc⟩
  · exact .inl (List.length_eq_zero_iff.1 h2)
  · exact .inr ⟨g, e, hg, fun j hj => (hc j hj).trans (by simp [nc, hj])⟩
end Go.Proofs.YtpjmapoiinjakaaGreatDoor.R
end
section
namespace Go.Proofs.YtpjmapoiinjakaaGreatDoor.R
open Go.RowKit
open L (tkA intOf wpList_append_run)
set_option linter.unusedVariables false
theorem RS.good {F : Nat → Prop} {base B dep : Nat} {s : Ps.St} {nv : Value} {W : World} (h : RS F base B dep s nv W) : Ps.Good s := by
  obtain ⟨tv, _, ⟨g, off, cap, _, _, _, _, h1, _⟩, _⟩ := h.rd
  exact ⟨h1, h.last⟩
/-- How many tokens the reader at B has, read off the world; 1 while it has not failed. -/
def tokN (B : Nat) (W : World) : Nat := match W.cell? ⟨B, 0, none⟩ with
  | some (.slice _ n _) => n
  | _ => 0
def flN (B : Nat) (W : World) : Nat := match W.cell? ⟨B, 3, none⟩ with
  | some (.bool true) => 0
  | _ => 1
def fl (s : Ps.St) : Nat := if s.failed = true then 0 else 1
theorem RS.tokN {F : Nat → Prop} {base B dep : Nat} {s : Ps.St} {nv : Value} {W : World} (h : RS F base B dep s nv W) : tokN B W = s.toks.length := by
  obtain ⟨tv, h1, ⟨g, off, cap, rfl, _⟩, _⟩ := h.rd
  obtain ⟨q0, _⟩ := L.cells5h h1
  unfold R.tokN; rw [q0]
theorem RS.flN {F : Nat → Prop} {base B dep : Nat} {s : Ps.St} {nv : Value} {W : World} (h : RS F base B dep s nv W) : flN B W = fl s := by
  obtain ⟨tv, h1, _⟩ := h.rd
  obtain ⟨_, _, _, q3, _⟩ := L.cells5h h1
  unfold R.flN fl; rw [q3]; cases s.failed <;> rfl
theorem RS.cell3 {F : Nat → Prop} {base B dep : Nat} {s : Ps.St} {nv : Value} {W : World} (h : RS F base B dep s nv W) : W.cell? ⟨B, 3, none⟩ = some (.bool s.failed) := h.cells.2.2.1
/-- A call tells kids and leaves the reader in a state. -/
def TellsK (F : Nat → Prop) (base B dep : Nat) (nv : Value) (w : World) (s' : Ps.St) (K : List Nat) : Ending → World → Prop := fun e w' => ∃ ad cap, e = .returned (.slice ad K.length cap) ∧ ∃ nv', RS F base B dep s' nv' w' ∧ Chg B nv nv' w w' ∧ KV F B nv' w' (.slice ad K.length cap) K
/-- Where the loop of statements stands. -/
structure StL (F : Nat → Prop) (base B dep : Nat) (L : Ps.Lv) (nv : Value) (w W : World) (a : Option Addr) (cap : Nat) (K1 : List Nat) (s1 : Ps.St) (K : List Nat) (s' : Ps.St) : Prop where
  ko : ∃ nv1, KO F base B dep s1 nv1 w W 3 (.slice a K1.length cap) K1.length (kc K1) ∧ Chg B nv nv1 w W
  run : ∃ f, Ps.statementsLoop L f K1 s1 = (K, s') ∧ s1.toks.length + fl s1 ≤ f
  cnt : K1.length + s1.toks.length + fl s1 ≤ 100001
set_option maxRecDepth 100000 in
set_option maxHeartbeats 2000000 in
theorem c_statements {F : Nat → Prop} {base B dep : Nat} {L : Ps.Lv} {s s' : Ps.St} {nv : Value} {w : World} {K : List Nat} (hL : ∀ F, LvC F base B dep L) (hS : Ps.ShL L) (E : Ru (Ps.statements L) s K s') (h : RS F base B dep s nv w) : Calls Tryz.prog 21 #[.pointer (some ⟨B, 0, none⟩)] w (TellsK F base B dep nv w s' K) := by
  have HSTART : Hid (StL F base B dep L nv w w none 0 [] s K s') := (show StL _ _ _ _ _ _ _ _ _ _ _ _ _ _ from ⟨⟨nv, KO.nil h (Nat.le_refl _), Chg.refl _ _ _⟩, ⟨s.toks.length + 1, E.eq, by unfold fl; split <;> omega⟩, by have := h.few; unfold fl; split <;> simp <;> omega⟩)
  have hsm := E.small
  have H : Hid (_) := h
  have HSm : Hid (s'.nodes.length ≤ 1000000000) := hsm
  clear E h hsm
  go_enter Tryz.func21, Tryz.ntmps21
  go_wp2_with fail
  go_loopw [2] (fun v W => ∃ (K1 : List Nat) (a : Option Addr) (cap : Nat) (s1 : Ps.St), v = .slice a K1.length cap ∧ Hid (StL F base B dep L nv w W a cap K1 s1 K s')) (fun _ W => tokN B W + flN B W)
  case atStart => exact ⟨[], none, 0, s, rfl, HSTART⟩
  case round =>
    obtain ⟨K1, a, cap, s1, rfl, HI⟩ := hrel
    clear HSTART
    obtain ⟨⟨nv1, hko, hchg⟩, ⟨f, hrun, hf⟩, hcnt⟩ := HI.out
    have hg := hko.rs.good
    have hlt := hko.rs.lt
    have c3 := hko.rs.cell3
    obtain ⟨f, rfl⟩ : ∃ f', f = f' + 1 := ⟨f - 1, by have := hg.one; omega⟩
    have HT0 : Hid (_ ∧ _) := (show _ ∧ _ from ⟨hko.rs.tokN, hko.rs.flN⟩)
    by_cases hfail : s1.failed = true
    · have hr : K1 = K ∧ s1 = s' := by
        unfold Ps.statementsLoop at hrun
        rw [hfail] at hrun
        simpa using hrun
      obtain ⟨rfl, rfl⟩ := hr
      have HE := hko.kv H.out
      rw [hfail] at c3
      have HEE : Hid (_) := HE
      have HC : Hid (_) := hchg
      clear hrun hf hcnt hko HE HI HT0 hchg
      go_wp2_with fail
      go_ret
      exact ⟨a, cap, rfl, nv1, HEE.out.1, HC.out, HEE.out.2⟩
    · have hff : s1.failed = false := by simpa using hfail
      rw [hff] at c3
      have HCL : Hid (_) := c_closes hko.rs
      by_cases hcl : Ps.closes s1 = true
      · have hr : K1 = K ∧ s1 = s' := by
          unfold Ps.statementsLoop at hrun
          rw [hff, hcl] at hrun
          simpa using hrun
        obtain ⟨rfl, rfl⟩ := hr
        have HKO : Hid (_) := hko
        have HC : Hid (_) := hchg
        rw [hcl] at HCL
        clear hrun hf hcnt hko HI HT0 hchg hcl
        go_wp2_with fail
        refine Calls.mono HCL.out ?_
        rintro e w2 ⟨rfl, nv2, hr2, hc2⟩
        have HE : Hid (_) := (HKO.out.go hr2 hc2).kv H.out
        have HC2 : Hid (_) := HC.out.trans hc2
        clear hr2 hc2
        go_wp2_with fail
        go_ret
        exact ⟨a, cap, rfl, nv2, HE.out.1, HC2.out, HE.out.2⟩
      · have hcf : Ps.closes s1 = false := by simpa using hcl
        rw [hcf] at HCL
        have hrun2 : Ps.statementsLoop L f (K1 ++ [(L.s s1).1]) (L.s s1).2 = (K, s') := by
          have h2 := hrun
          unfold Ps.statementsLoop at h2
          rw [hff, hcf] at h2
          simpa using h2
        rcases es : L.s s1 with ⟨r, s2⟩
        rw [es] at hrun2
        simp only at hrun2
        have hle := hS.s s1 hg
        have hgo := hS.gs s1 hg
        rw [es] at hle hgo
        have n2 : s2.nodes.length ≤ 1000000000 := gb (Ps.gr_statementsLoop (hL F).gr f _) hrun2 HSm.out
        have E2 : Ru L.s s1 r s2 := ⟨es, n2⟩
        have hdrop : s2.toks.length + fl s2 + 1 ≤ s1.toks.length + fl s1 := by
          have h1 : fl s1 = 1 := by unfold fl; rw [if_neg hfail]
          have h2 := hle.le
          rcases hgo with h3 | h3
          · have : fl s2 = 0 := by unfold fl; rw [if_pos h3]
            simp only at h2; omega
          · have : fl s2 ≤ 1 := by unfold fl; split <;> omega
            simp only at h3; omega
        have HKO : Hid (_) := hko
        have HC : Hid (_) := hchg
        have HR2 : Hid (_) := hrun2
        have HD : Hid (s2.toks.length + fl s2 + 1 ≤ s1.toks.length + fl s1 ∧ s1.toks.length + fl s1 ≤ f + 1 ∧ K1.length + s1.toks.length + fl s1 ≤ 100001) := (show _ ∧ _ ∧ _ from ⟨hdrop, hf, hcnt⟩)
        clear hrun hf hcnt hko HI hchg hcl hcf hfail hff hrun2 hle hgo n2 hdrop es hg
        go_wp2_with fail
        refine Calls.mono HCL.out ?_
        rintro e w2 ⟨rfl, nv2, hr2, hc2⟩
        have HKO2 : Hid (_) := HKO.out.go hr2 hc2
        have HC2 : Hid (_) := HC.out.trans hc2
        clear hr2 hc2 HKO HC HCL
        go_wp2_with fail
        refine Calls.mono (c_s hL E2 HKO2.out.rs) ?_
        rintro e w3 ⟨rfl, nv3, hr3, hc3⟩
        obtain ⟨a4, cap4, w4, hap, hko4, hc4⟩ := (HKO2.out.go hr3 hc3).kid r (by have := HD.out; omega)
        have HRn : Hid (_) := hap
        have HKO4 : Hid (_) := hko4
        have HC4 : Hid (_) := hc4 _ (HC2.out.trans hc3)
        clear hr3 hc3 HKO2 HC2 hap hko4 hc4
        go_wp2_with (at_builtin; refine wpList_append_run _ _ 41 rfl rfl _ _ _ _ rfl rfl HRn.out ?_)
        go_roundw
        case rel =>
          refine ⟨K1 ++ [r], a4, cap4, s2, by simp, ?_⟩
          have := HD.out
          exact (show StL _ _ _ _ _ _ _ _ _ _ _ _ _ _ from ⟨⟨nv3, by simpa using HKO4.out, HC4.out⟩, ⟨f, HR2.out, by omega⟩, by simp; omega⟩)
        case measure =>
          have h1 := HKO4.out.rs.tokN
          have h2 := HKO4.out.rs.flN
          have := HD.out
          have h3 := HT0.out
          show _ < _
          rw [h1, h2, h3.1, h3.2]; omega
end Go.Proofs.YtpjmapoiinjakaaGreatDoor.R
end
section
namespace Go.Proofs.YtpjmapoiinjakaaGreatDoor.R
open Go.RowKit
open L (tkA intOf wpList_append_run)
set_option linter.unusedVariables false
open Ps in
theorem take_fewer {s : Ps.St} (g : Ps.Good s) {m : List UInt8} (hm : m ≠ []) {s' : Ps.St} (h : take m s = (true, s')) : s'.toks.length + 1 ≤ s.toks.length := by
  unfold take at h
  split at h
  · rename_i e
    have h1 := more_of g (mark_kind (by rw [e]; exact hm))
    unfold skip at h
    rw [if_pos h1] at h
    have : s' = { s with toks := s.toks.tail } := (Prod.mk.injEq .. ▸ h).2.symm
    subst this
    simp; omega
  · simp at h
open Ps in
theorem items_ru {α : Type} {item : M α} {m : List UInt8} {s s' : Ps.St} {K : List α} (g : Gr item) (h : Ru (items m item) s K s') :
    (Ru (take m) s true s' ∧ K = []) ∨ ∃ s1 x s2 s3 u, Ru (take m) s false s1 ∧ Ru item s1 x s2 ∧ Ru (itemsLoop item s2.toks.length [x]) s2 K s3 ∧ Ru (want m) s3 u s' := by
  obtain ⟨e, n⟩ := h
  unfold items at e
  rcases e0 : take m s with ⟨b, s1⟩
  rw [e0] at e
  cases b
  · right
    simp only at e
    rcases e1 : item s1 with ⟨x, s2⟩
    simp only [e1] at e
    rcases e2 : itemsLoop item s2.toks.length [x] s2 with ⟨K', s3⟩
    simp only [e2] at e
    obtain ⟨rfl, e3⟩ := Prod.mk.inj e
    have e4 : want m s3 = ((), s') := Prod.ext rfl e3
    have n3 := gb (gr_want m) e4 n
    have n2 := gb (gr_itemsLoop g _ _) e2 n3
    have n1 := gb g e1 n2
    exact ⟨s1, x, s2, s3, (), ⟨e0, n1⟩, ⟨e1, n2⟩, ⟨e2, n3⟩, ⟨e4, n⟩⟩
  · left
    simp only at e
    obtain ⟨rfl, rfl⟩ := Prod.mk.inj e
    exact ⟨⟨e0, n⟩, rfl⟩
open Ps in
theorem itemsLoop_ru {α : Type} {item : M α} {f : Nat} {l K : List α} {s s' : Ps.St} (g : Gr item) (h : Ru (itemsLoop item (f + 1) l) s K s') :
    (Ru (take [44]) s false s' ∧ K = l) ∨ ∃ s1 x s2, Ru (take [44]) s true s1 ∧ Ru item s1 x s2 ∧ Ru (itemsLoop item f (l ++ [x])) s2 K s' := by
  obtain ⟨e, n⟩ := h
  unfold itemsLoop at e
  rcases e0 : take [44] s with ⟨b, s1⟩
  rw [e0] at e
  cases b
  · left
    simp only at e
    obtain ⟨rfl, rfl⟩ := Prod.mk.inj e
    exact ⟨⟨e0, n⟩, rfl⟩
  · right
    simp only at e
    rcases e1 : item s1 with ⟨x, s2⟩
    simp only [e1] at e
    have n2 := gb (gr_itemsLoop g _ _) e n
    have n1 := gb g e1 n2
    exact ⟨s1, x, s2, ⟨e0, n1⟩, ⟨e1, n2⟩, ⟨e, n⟩⟩
/-- A call tells names and leaves the reader in a state. -/
def TellsN (F : Nat → Prop) (base B dep : Nat) (nv : Value) (w : World) (s' : Ps.St) (K : List (List UInt8)) : Ending → World → Prop := fun e w' => ∃ ad cap, e = .returned (.slice ad K.length cap) ∧ ∃ nv', RS F base B dep s' nv' w' ∧ Chg B nv nv' w w' ∧ NV F B nv' w' (.slice ad K.length cap) K
/-- Where the loop of items stands. -/
structure Ite (F : Nat → Prop) (base B dep : Nat) (item : Ps.M Nat) (nv : Value) (w W : World) (a : Option Addr) (cap : Nat) (K1 : List Nat) (s1 : Ps.St) (K : List Nat) (s' : Ps.St) : Prop where
  ko : ∃ nv1, KO F base B dep s1 nv1 w W 3 (.slice a K1.length cap) K1.length (kc K1) ∧ Chg B nv nv1 w W
  run : ∃ f, Ru (Ps.itemsLoop item f K1) s1 K s' ∧ s1.toks.length ≤ f
  cnt : K1.length + s1.toks.length ≤ 100001
set_option maxRecDepth 100000 in
set_option maxHeartbeats 2000000 in
theorem c_items_e {F : Nat → Prop} {base B dep : Nat} {L : Ps.Lv} {s s' : Ps.St} {nv : Value} {w : World} {K : List Nat} {m : List UInt8} (hL : ∀ F, LvC F base B dep L) (hS : Ps.ShL L) (E : Ru (Ps.items m L.e) s K s') (h : RS F base B dep s nv w) : Calls Tryz.prog 130 #[.pointer (some ⟨B, 0, none⟩), .string ⟨m.toArray⟩, .func (.func 99) #[.pointer (some ⟨B, 0, none⟩)] #[]] w (TellsK F base B dep nv w s' K) := by
  rcases items_ru (hL F).gr.e E with ⟨E0, rfl⟩ | ⟨s1, x, s2, s3, u, E1, E2, E3, E4⟩
  · have H : Hid (_) := h
    go_enter Tryz.func130, Tryz.ntmps130
    go_wp2_with fail
    refine Calls.mono (c_take E0 h) ?_
    rintro e w1 ⟨rfl, nv1, hr1, hc1⟩
    go_wp2_with fail
    go_ret
    exact ⟨none, 0, rfl, nv1, hr1, hc1, KV.nil _ _ _ _⟩
  · have H : Hid (_) := h
    go_enter Tryz.func130, Tryz.ntmps130
    go_wp2_with fail
    refine Calls.mono (c_take E1 h) ?_
    rintro e w1 ⟨rfl, nv1, hr1, hc1⟩
    go_wp2_with fail
    refine Calls.mono (c_e hL E2 hr1) ?_
    rintro e w2 ⟨rfl, nv2, hr2, hc2⟩
    have hko := KO.lit (w0 := w) (e := 3) hr2 (Nat.le_trans hc1.size hc2.size) #[.int .i64 (x : Int)] 1 rfl (by omega)
    have hg2 := hr2.good
    have HSTART : Hid (Ite F base B dep L.e nv w (w2.alloc (.cells #[.int .i64 (x : Int)] 3)) (some ⟨w2.heap.size, 0, none⟩) 1 [x] s2 K s3) := (show Ite _ _ _ _ _ _ _ _ _ _ _ _ _ _ from ⟨⟨nv2, hko, (hc1.trans hc2).alloc _⟩, ⟨_, E3, Nat.le_refl _⟩, by have := hr2.few; simp; omega⟩)
    clear hko hg2 hr2 hc2 hr1 hc1 h E1 E2 E3 E
    go_wp2_with fail
    go_loopw [7] (fun v W => ∃ (K1 : List Nat) (a : Option Addr) (cap : Nat) (s1 : Ps.St), v = .slice a K1.length cap ∧ Hid (Ite F base B dep L.e nv w W a cap K1 s1 K s3)) (fun _ W => tokN B W)
    case atStart => exact ⟨[x], _, 1, s2, rfl, HSTART⟩
    case round =>
      obtain ⟨K1, a, cap, s1, rfl, HI⟩ := hrel
      clear HSTART
      obtain ⟨⟨nv1, hko, hchg⟩, ⟨f, hrun, hf⟩, hcnt⟩ := HI.out
      have hg := hko.rs.good
      have HT0 : Hid (_) := hko.rs.tokN
      obtain ⟨f, rfl⟩ : ∃ f', f = f' + 1 := ⟨f - 1, by have := hg.one; omega⟩
      rcases itemsLoop_ru (hL F).gr.e hrun with ⟨E5, rfl⟩ | ⟨s4, y, s5, E5, E6, E7⟩
      · have HKO : Hid (_) := hko
        have HC : Hid (_) := hchg
        clear hrun hf hcnt hko HI HT0 hchg hg
        go_wp2_with fail
        refine Calls.mono (c_take (m := [44]) E5 HKO.out.rs) ?_
        rintro e w2 ⟨rfl, nv2, hr2, hc2⟩
        have HKO2 : Hid (_) := HKO.out.go hr2 hc2
        have HC2 : Hid (_) := HC.out.trans hc2
        clear hr2 hc2 HKO HC
        go_wp2_with fail
        refine Calls.mono (c_want E4 HKO2.out.rs) ?_
        rintro e w3 ⟨rfl, nv3, hr3, hc3⟩
        have HE : Hid (_) := (HKO2.out.go hr3 hc3).kv H.out
        have HC3 : Hid (_) := HC2.out.trans hc3
        clear hr3 hc3 HKO2 HC2
        go_wp2_with fail
        go_ret
        exact ⟨a, cap, rfl, nv3, HE.out.1, HC3.out, HE.out.2⟩
      · have htf := take_fewer hg (by decide) E5.eq
        have hle : s5.toks.length ≤ s4.toks.length := by
          have := hS.e s4 (by have := Ps.sh_take [44] s1 hg; rw [E5.eq] at this; exact this.good)
          rw [E6.eq] at this
          exact this.le
        have HKO : Hid (_) := hko
        have HC : Hid (_) := hchg
        have HD : Hid (_ ∧ _) := (show _ ∧ _ from ⟨hf, hcnt⟩)
        have HD2 : Hid (_ ∧ _) := (show _ ∧ _ from ⟨htf, hle⟩)
        clear hrun hf hcnt hko HI hchg htf hle hg
        go_wp2_with fail
        refine Calls.mono (c_take (m := [44]) E5 HKO.out.rs) ?_
        rintro e w2 ⟨rfl, nv2, hr2, hc2⟩
        have HKO2 : Hid (_) := HKO.out.go hr2 hc2
        have HC2 : Hid (_) := HC.out.trans hc2
        clear hr2 hc2 HKO HC
        go_wp2_with fail
        refine Calls.mono (c_e hL E6 HKO2.out.rs) ?_
        rintro e w3 ⟨rfl, nv3, hr3, hc3⟩
        obtain ⟨a4, cap4, w4, hap, hko4, hc4⟩ := (HKO2.out.go hr3 hc3).kid y (by have := HD.out; have := HD2.out; omega)
        have HRn : Hid (_) := hap
        have HKO4 : Hid (_) := hko4
        have HC4 : Hid (_) := hc4 _ (HC2.out.trans hc3)
        clear hr3 hc3 HKO2 HC2 hap hko4 hc4
        go_wp2_with (at_builtin; refine wpList_append_run _ _ 41 rfl rfl _ _ _ _ rfl rfl HRn.out ?_)
        go_roundw
        case rel =>
          refine ⟨K1 ++ [y], a4, cap4, s5, by simp, ?_⟩
          have h1 := HD.out
          have h2 := HD2.out
          exact (show Ite _ _ _ _ _ _ _ _ _ _ _ _ _ _ from ⟨⟨nv3, by simpa using HKO4.out, HC4.out⟩, ⟨f, E7, by omega⟩, by simp; omega⟩)
        case measure =>
          have h1 := HKO4.out.rs.tokN
          have := HD2.out
          have h3 := HT0.out
          show _ < _
          rw [h1, h3]; omega
/-- Where the loop of items stands. -/
structure Itn (F : Nat → Prop) (base B dep : Nat) (item : Ps.M (List UInt8)) (nv : Value) (w W : World) (a : Option Addr) (cap : Nat) (K1 : List (List UInt8)) (s1 : Ps.St) (K : List (List UInt8)) (s' : Ps.St) : Prop where
  ko : ∃ nv1, KO F base B dep s1 nv1 w W 9 (.slice a K1.length cap) K1.length (nc K1) ∧ Chg B nv nv1 w W
  run : ∃ f, Ru (Ps.itemsLoop item f K1) s1 K s' ∧ s1.toks.length ≤ f
  cnt : K1.length + s1.toks.length ≤ 100001
set_option maxRecDepth 100000 in
set_option maxHeartbeats 2000000 in
theorem c_items_n {F : Nat → Prop} {base B dep : Nat} {s s' : Ps.St} {nv : Value} {w : World} {K : List (List UInt8)} {m : List UInt8} (E : Ru (Ps.items m Ps.name) s K s') (h : RS F base B dep s nv w) : Calls Tryz.prog 109 #[.pointer (some ⟨B, 0, none⟩), .string ⟨m.toArray⟩, .func (.func 101) #[.pointer (some ⟨B, 0, none⟩)] #[]] w (TellsN F base B dep nv w s' K) := by
  rcases items_ru Ps.gr_name E with ⟨E0, rfl⟩ | ⟨s1, x, s2, s3, u, E1, E2, E3, E4⟩
  · have H : Hid (_) := h
    go_enter Tryz.func109, Tryz.ntmps109
    go_wp2_with fail
    refine Calls.mono (c_take E0 h) ?_
    rintro e w1 ⟨rfl, nv1, hr1, hc1⟩
    go_wp2_with fail
    go_ret
    exact ⟨none, 0, rfl, nv1, hr1, hc1, NV.nil _ _ _ _⟩
  · have H : Hid (_) := h
    go_enter Tryz.func109, Tryz.ntmps109
    go_wp2_with fail
    refine Calls.mono (c_take E1 h) ?_
    rintro e w1 ⟨rfl, nv1, hr1, hc1⟩
    go_wp2_with fail
    refine Calls.mono (c_name E2 hr1) ?_
    rintro e w2 ⟨rfl, nv2, hr2, hc2⟩
    have hko := KO.lit (w0 := w) (e := 9) hr2 (Nat.le_trans hc1.size hc2.size) #[.string ⟨x.toArray⟩] 1 rfl (by omega)
    have hg2 := hr2.good
    have HSTART : Hid (Itn F base B dep Ps.name nv w (w2.alloc (.cells #[.string ⟨x.toArray⟩] 9)) (some ⟨w2.heap.size, 0, none⟩) 1 [x] s2 K s3) := (show Itn _ _ _ _ _ _ _ _ _ _ _ _ _ _ from ⟨⟨nv2, hko, (hc1.trans hc2).alloc _⟩, ⟨_, E3, Nat.le_refl _⟩, by have := hr2.few; simp; omega⟩)
    clear hko hg2 hr2 hc2 hr1 hc1 h E1 E2 E3 E
    go_wp2_with fail
    go_loopw [7] (fun v W => ∃ (K1 : List (List UInt8)) (a : Option Addr) (cap : Nat) (s1 : Ps.St), v = .slice a K1.length cap ∧ Hid (Itn F base B dep Ps.name nv w W a cap K1 s1 K s3)) (fun _ W => tokN B W)
    case atStart => exact ⟨[x], _, 1, s2, rfl, HSTART⟩
    case round =>
      obtain ⟨K1, a, cap, s1, rfl, HI⟩ := hrel
      clear HSTART
      obtain ⟨⟨nv1, hko, hchg⟩, ⟨f, hrun, hf⟩, hcnt⟩ := HI.out
      have hg := hko.rs.good
      have HT0 : Hid (_) := hko.rs.tokN
      obtain ⟨f, rfl⟩ : ∃ f', f = f' + 1 := ⟨f - 1, by have := hg.one; omega⟩
      rcases itemsLoop_ru Ps.gr_name hrun with ⟨E5, rfl⟩ | ⟨s4, y, s5, E5, E6, E7⟩
      · have HKO : Hid (_) := hko
        have HC : Hid (_) := hchg
        clear hrun hf hcnt hko HI HT0 hchg hg
        go_wp2_with fail
        refine Calls.mono (c_take (m := [44]) E5 HKO.out.rs) ?_
        rintro e w2 ⟨rfl, nv2, hr2, hc2⟩
        have HKO2 : Hid (_) := HKO.out.go hr2 hc2
        have HC2 : Hid (_) := HC.out.trans hc2
        clear hr2 hc2 HKO HC
        go_wp2_with fail
        refine Calls.mono (c_want E4 HKO2.out.rs) ?_
        rintro e w3 ⟨rfl, nv3, hr3, hc3⟩
        have HE : Hid (_) := (HKO2.out.go hr3 hc3).nmv H.out
        have HC3 : Hid (_) := HC2.out.trans hc3
        clear hr3 hc3 HKO2 HC2
        go_wp2_with fail
        go_ret
        exact ⟨a, cap, rfl, nv3, HE.out.1, HC3.out, HE.out.2⟩
      · have htf := take_fewer hg (by decide) E5.eq
        have hle : s5.toks.length ≤ s4.toks.length := by
          have := Ps.sh_name s4 (by have := Ps.sh_take [44] s1 hg; rw [E5.eq] at this; exact this.good)
          rw [E6.eq] at this
          exact this.le
        have HKO : Hid (_) := hko
        have HC : Hid (_) := hchg
        have HD : Hid (_ ∧ _) := (show _ ∧ _ from ⟨hf, hcnt⟩)
        have HD2 : Hid (_ ∧ _) := (show _ ∧ _ from ⟨htf, hle⟩)
        clear hrun hf hcnt hko HI hchg htf hle hg
        go_wp2_with fail
        refine Calls.mono (c_take (m := [44]) E5 HKO.out.rs) ?_
        rintro e w2 ⟨rfl, nv2, hr2, hc2⟩
        have HKO2 : Hid (_) := HKO.out.go hr2 hc2
        have HC2 : Hid (_) := HC.out.trans hc2
        clear hr2 hc2 HKO HC
        go_wp2_with fail
        refine Calls.mono (c_name E6 HKO2.out.rs) ?_
        rintro e w3 ⟨rfl, nv3, hr3, hc3⟩
        obtain ⟨a4, cap4, w4, hap, hko4, hc4⟩ := (HKO2.out.go hr3 hc3).nm y (by have := HD.out; have := HD2.out; omega)
        have HRn : Hid (_) := hap
        have HKO4 : Hid (_) := hko4
        have HC4 : Hid (_) := hc4 _ (HC2.out.trans hc3)
        clear hr3 hc3 HKO2 HC2 hap hko4 hc4
        go_wp2_with (at_builtin; refine wpList_append_run _ _ 35 rfl rfl _ _ _ _ rfl rfl HRn.out ?_)
        go_roundw
        case rel =>
          refine ⟨K1 ++ [y], a4, cap4, s5, by simp, ?_⟩
          have h1 := HD.out
          have h2 := HD2.out
          exact (show Itn _ _ _ _ _ _ _ _ _ _ _ _ _ _ from ⟨⟨nv3, by simpa using HKO4.out, HC4.out⟩, ⟨f, E7, by omega⟩, by simp; omega⟩)
        case measure =>
          have h1 := HKO4.out.rs.tokN
          have := HD2.out
          have h3 := HT0.out
          show _ < _
          rw [h1, h3]; omega
end Go.Proofs.YtpjmapoiinjakaaGreatDoor.R
end
section
namespace Go.Proofs.YtpjmapoiinjakaaGreatDoor.R
open Go.RowKit
open L (tkA intOf wpList_append_run)
set_option linter.unusedVariables false
open Ps in
theorem body_ru {L : Lv} (g : GrL L) {s s' : Ps.St} {K : List Nat} (h : Ru (body L) s K s') : ∃ u s1 s2 u', Ru (want [123]) s u s1 ∧ Ru (statements L) s1 K s2 ∧ Ru (want [125]) s2 u' s' := by
  obtain ⟨e, n⟩ := h
  unfold body at e
  simp only [] at e
  rcases e0 : want [123] s with ⟨u, s1⟩
  simp only [e0] at e
  rcases e1 : statements L s1 with ⟨c, s2⟩
  simp only [e1] at e
  obtain ⟨rfl, e2⟩ := Prod.mk.inj e
  have e3 : want [125] s2 = ((), s') := Prod.ext rfl e2
  have n2 := gb (gr_want _) e3 n
  have n1 := gb (gr_statements g) e1 n2
  exact ⟨u, s1, s2, (), ⟨e0, n1⟩, ⟨e1, n2⟩, ⟨e3, n⟩⟩
open Ps in
theorem block_ru {L : Lv} (g : GrL L) {s s' : Ps.St} {r : Nat} (h : Ru (block L) s r s') : ∃ K s1, Ru (body L) s K s1 ∧ Ru (add { k := 25, a := (nxt s).a, kids := K }) s1 r s' := by
  obtain ⟨e, n⟩ := h
  unfold block at e
  simp only [] at e
  rcases e0 : body L s with ⟨K, s1⟩
  simp only [e0] at e
  exact ⟨K, s1, ⟨e0, gb (gr_add _) e n⟩, ⟨e, n⟩⟩
open Ps in
theorem throwS_ru {L : Lv} (g : GrL L) {s s' : Ps.St} {r : Nat} (h : Ru (throwS L) s r s') : ∃ T s1, Ru skip s T s1 ∧ (((nxt s1).ln = true ∧ Ru fail s1 r s') ∨ ((nxt s1).ln = false ∧ ∃ c s2 u s3, Ru L.e s1 c s2 ∧ Ru endS s2 u s3 ∧ Ru (add { k := 31, a := T.a, kids := [c] }) s3 r s')) := by
  obtain ⟨e, n⟩ := h
  unfold throwS at e
  simp only [] at e
  rcases e0 : skip s with ⟨T, s1⟩
  simp only [e0] at e
  by_cases hl : (nxt s1).ln = true
  · rw [if_pos hl] at e
    exact ⟨T, s1, ⟨e0, gb gr_fail e n⟩, .inl ⟨hl, ⟨e, n⟩⟩⟩
  · rw [if_neg hl] at e
    rcases e1 : L.e s1 with ⟨c, s2⟩
    simp only [e1] at e
    rcases e2 : endS s2 with ⟨u, s3⟩
    simp only [e2] at e
    have n3 := gb (gr_add _) e n
    have n2 := gb gr_endS e2 n3
    have n1 := gb g.e e1 n2
    exact ⟨T, s1, ⟨e0, n1⟩, .inr ⟨by simpa using hl, c, s2, u, s3, ⟨e1, n2⟩, ⟨e2, n3⟩, ⟨e, n⟩⟩⟩
open Ps in
theorem binding_ru {L : Lv} {k : Nat} (g : GrL L) {s s' : Ps.St} {r : Nat} (h : Ru (binding L k) s r s') : ∃ T s1 t s2 u s3 c s4 u' s5, Ru skip s T s1 ∧ Ru name s1 t s2 ∧ Ru (want [61]) s2 u s3 ∧ Ru L.e s3 c s4 ∧ Ru endS s4 u' s5 ∧ Ru (add { k := k, t := t, a := T.a, kids := [c] }) s5 r s' := by
  obtain ⟨e, n⟩ := h
  unfold binding at e
  simp only [] at e
  rcases e0 : skip s with ⟨T, s1⟩
  simp only [e0] at e
  rcases e1 : name s1 with ⟨t, s2⟩
  simp only [e1] at e
  rcases e2 : want [61] s2 with ⟨u, s3⟩
  simp only [e2] at e
  rcases e3 : L.e s3 with ⟨c, s4⟩
  simp only [e3] at e
  rcases e4 : endS s4 with ⟨u', s5⟩
  simp only [e4] at e
  have n5 := gb (gr_add _) e n
  have n4 := gb gr_endS e4 n5
  have n3 := gb g.e e3 n4
  have n2 := gb (gr_want _) e2 n3
  have n1 := gb gr_name e1 n2
  exact ⟨T, s1, t, s2, u, s3, c, s4, u', s5, ⟨e0, n1⟩, ⟨e1, n2⟩, ⟨e2, n3⟩, ⟨e3, n4⟩, ⟨e4, n5⟩, ⟨e, n⟩⟩
section
variable {F : Nat → Prop} {base B dep : Nat} {L : Ps.Lv} {s s' : Ps.St} {nv : Value} {w : World} {r : Nat}
set_option maxRecDepth 100000 in
set_option maxHeartbeats 2000000 in
theorem c_body {K : List Nat} (hL : ∀ F, LvC F base B dep L) (hS : Ps.ShL L) (E : Ru (Ps.body L) s K s') (h : RS F base B dep s nv w) : Calls Tryz.prog 93 #[.pointer (some ⟨B, 0, none⟩)] w (TellsK F base B dep nv w s' K) := by
  obtain ⟨u, s1, s2, u', E1, E2, E3⟩ := body_ru (hL F).gr E
  go_enter Tryz.func93, Tryz.ntmps93
  go_wp2_with fail
  refine Calls.mono (c_want (m := [123]) E1 h) ?_
  rintro e w1 ⟨rfl, nv1, hr1, hc1⟩
  go_wp2_with fail
  refine Calls.mono (c_statements hL hS E2 hr1) ?_
  rintro e w2 ⟨ad, cap, rfl, nv2, hr2, hc2, hk2⟩
  go_wp2_with fail
  refine Calls.mono (c_want (m := [125]) E3 hr2) ?_
  rintro e w3 ⟨rfl, nv3, hr3, hc3⟩
  go_wp2_with fail
  go_ret
  exact ⟨ad, cap, rfl, nv3, hr3, (hc1.trans hc2).trans hc3, hk2.go hc3⟩
set_option maxRecDepth 100000 in
set_option maxHeartbeats 2000000 in
theorem c_block (hL : ∀ F, LvC F base B dep L) (hS : Ps.ShL L) (E : Ru (Ps.block L) s r s') (h : RS F base B dep s nv w) : Calls Tryz.prog 78 #[.pointer (some ⟨B, 0, none⟩)] w (Tells F base B dep nv w s' (.int .i64 (r : Int))) := by
  obtain ⟨K, s1, E1, E2⟩ := block_ru (hL F).gr E
  have HN : Hid (_) := c_next h
  have hfl := run_field3
  clear E
  rcases eT : Ps.nxt s with ⟨tk, tt, tn, ta, tl, te⟩
  rw [eT] at HN E2
  simp only [tkA] at HN E2
  clear eT
  go_enter Tryz.func78, Tryz.ntmps78
  go_wp2_with fail
  refine Calls.mono HN.out ?_
  rintro e w1 ⟨rfl, nv1, hr1, hc1⟩
  go_wp2_with fail
  refine Calls.mono (c_body hL hS E1 hr1) ?_
  rintro e w2 ⟨ad, cap, rfl, nv2, hr2, hc2, hk2⟩
  go_wp2_with fail
  refine Calls.mono (c_addV E2 hr2 (NV.nil _ _ _ _) hk2) ?_
  rintro e w3 ⟨rfl, nv3, hr3, hc3⟩
  go_wp2_with fail
  go_ret
  exact ⟨rfl, nv3, hr3, (hc1.trans hc2).trans hc3⟩
set_option maxRecDepth 100000 in
set_option maxHeartbeats 2000000 in
theorem c_throwS (hL : ∀ F, LvC F base B dep L) (E : Ru (Ps.throwS L) s r s') (h : RS F base B dep s nv w) : Calls Tryz.prog 83 #[.pointer (some ⟨B, 0, none⟩)] w (Tells F base B dep nv w s' (.int .i64 (r : Int))) := by
  obtain ⟨⟨tk, tt, tn, ta, tl, te⟩, s1, E1, E2⟩ := throwS_ru (hL F).gr E
  have hfl := run_field3
  have hfl4 := run_field4
  have HN : Hid (∀ nv w, RS F base B dep s1 nv w → _) := fun nv w h => c_next (w := w) (nv := nv) h
  clear E
  rcases eT : Ps.nxt s1 with ⟨uk, ut, un, ua, ul, ue⟩
  rw [eT] at HN E2
  simp only [tkA] at HN E2
  clear eT
  rcases E2 with ⟨rfl, E2⟩ | ⟨rfl, c, s2, u, s3, E2, E3, E4⟩
  · go_enter Tryz.func83, Tryz.ntmps83
    go_wp2_with fail
    refine Calls.mono (c_skip E1 h) ?_
    rintro e w1 ⟨rfl, nv1, hr1, hc1⟩
    simp only [tkA] at *
    go_wp2_with fail
    refine Calls.mono (HN.out _ _ hr1) ?_
    rintro e w2 ⟨rfl, nv2, hr2, hc2⟩
    go_wp2_with fail
    refine Calls.mono (c_fail E2 hr2) ?_
    rintro e w3 ⟨rfl, nv3, hr3, hc3⟩
    go_wp2_with fail
    go_ret
    exact ⟨rfl, nv3, hr3, (hc1.trans hc2).trans hc3⟩
  · go_enter Tryz.func83, Tryz.ntmps83
    go_wp2_with fail
    refine Calls.mono (c_skip E1 h) ?_
    rintro e w1 ⟨rfl, nv1, hr1, hc1⟩
    simp only [tkA] at *
    go_wp2_with fail
    refine Calls.mono (HN.out _ _ hr1) ?_
    rintro e w2 ⟨rfl, nv2, hr2, hc2⟩
    go_wp2_with fail
    refine Calls.mono (c_e hL E2 hr2) ?_
    rintro e w3 ⟨rfl, nv3, hr3, hc3⟩
    have hk3 := KV.lit hr3 [c] #[.int .i64 (c : Int)] 1 rfl (fun j hj => by
      have : j = 0 := by simpa using hj
      subst this; rfl)
    have hb3 : Below w3.heap.size w3 (w3.alloc (.cells #[.int .i64 (c : Int)] 3)) := (Below.refl _ _).alloc (Nat.le_refl _) _
    have hr3' := hr3.below hb3
    have HC3 : Hid (_) := ((hc1.trans hc2).trans hc3).trans (Chg.below nv3 hb3)
    clear hb3 hc1 hc2 hc3
    go_wp2_with fail
    refine Calls.mono (c_endS E3 hr3') ?_
    rintro e w4 ⟨rfl, nv4, hr4, hc4⟩
    go_wp2_with fail
    refine Calls.mono (c_addV E4 hr4 (NV.nil _ _ _ _) (hk3.go hc4)) ?_
    rintro e w5 ⟨rfl, nv5, hr5, hc5⟩
    go_wp2_with fail
    go_ret
    exact ⟨rfl, nv5, hr5, (HC3.out.trans hc4).trans hc5⟩
end
end Go.Proofs.YtpjmapoiinjakaaGreatDoor.R
end
