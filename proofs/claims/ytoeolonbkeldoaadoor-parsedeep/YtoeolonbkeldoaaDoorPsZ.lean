/- A row of one's own beside the reader: kids, names that are being gathered. -/
import Derived.Test.YtoeolonbkeldoaaDoorPsY
namespace Go.Proofs.YtoeolonbkeldoaaDoor.R
open Go.RowKit
open L (tkA own_block own_below cells5h info_of)
set_option linter.unusedVariables false
/-- The reader where only other ones' blocks have changed, and some are new. -/
theorem RS.grow {F F' : Nat → Prop} {base B dep : Nat} {s : Ps.St} {nv : Value} {W W' : World} (h : RS F base B dep s nv W) (hs : W.heap.size ≤ W'.heap.size) (hb : ∀ k, k < W.heap.size → ¬ F k → W'.heap[k]? = W.heap[k]?)
    (hF : ∀ k, F' k → (F k ∨ W.heap.size ≤ k) ∧ k < W'.heap.size) : RS F' base B dep s nv W' := by
  have hlB := h.lt
  obtain ⟨tv, h1, h2, h3⟩ := h.rd
  obtain ⟨vs, e, ho, hn⟩ := h.nd
  have nB : ¬ F B := fun hf => (h.far B hf).2.1 rfl
  have ap : ∀ v, Apart F B nv v → (∀ k, blockOf v = some k → k < W.heap.size) → Apart F' B nv v := fun v ha hl k hk => ⟨(ha k hk).1, (ha k hk).2.1, fun hf => by
    rcases (hF k hf).1 with e | e
    · exact (ha k hk).2.2 e
    · have := hl k hk; omega⟩
  have sm : ∀ v, Apart F B nv v → ∀ k, blockOf v = some k → k < W.heap.size → W'.heap[k]? = W.heap[k]? := fun v ha k hk hl => hb k hl (ha k hk).2.2
  have tl : ∀ k, blockOf tv = some k → k < W.heap.size := fun k hk => by
    obtain ⟨g, off, cap, rfl, _, _, hg, _⟩ := h2
    have : g = k := by simpa [blockOf] using hk
    omega
  have nl := own_block ho
  refine ⟨h.hB, h.few, h.last, ⟨tv, (hb B hlB nB).trans h1, h2.same hs (sm tv h3), ap tv h3 tl⟩, ⟨vs, e, own_keep ho (fun k hk => hb k (nl k hk).2 (fun hf => (h.far k hf).2.2 hk)), fun x hx => ?_⟩, h.own, fun k hk => ⟨(hF k hk).2, ?_, ?_⟩⟩
  · have hx' := hn x hx
    exact ⟨hx'.names.same hs (sm _ hx'.anm), hx'.kids.same hs (sm _ hx'.akd), ap _ hx'.anm hx'.lnm, ap _ hx'.akd hx'.lkd, fun k hk => Nat.lt_of_lt_of_le (hx'.lnm k hk) hs, fun k hk => Nat.lt_of_lt_of_le (hx'.lkd k hk) hs⟩
  · rcases (hF k hk).1 with e | e
    · exact (h.far k e).2.1
    · omega
  · rcases (hF k hk).1 with e | e
    · exact (h.far k e).2.2
    · intro e2; have := (nl k e2).2; omega
/-- A row of one's own beside the reader, begun behind w0. -/
structure KO (F : Nat → Prop) (base B dep : Nat) (s : Ps.St) (nv : Value) (w0 W : World) (e : TypeId) (v : Value) (n : Nat) (xs : List Value) : Prop where
  rs : RS (fun k => F k ∨ v.ownBlock = some k) base B dep s nv W
  own : W.ownsRow w0.heap.size e 1 v n xs
  sz : w0.heap.size ≤ W.heap.size
variable {F : Nat → Prop} {base B dep : Nat} {s s' : Ps.St} {nv nv' : Value} {w0 W W' : World} {e : TypeId} {v : Value} {n : Nat} {xs : List Value}
theorem KO.nil (h : RS F base B dep s nv W) (hs : w0.heap.size ≤ W.heap.size) : KO F base B dep s nv w0 W e (.slice none 0 0) 0 [] :=
  ⟨h.less (fun k hk => by rcases hk with hk | hk; exact hk; simp [Value.ownBlock] at hk), ⟨rfl, .inl ⟨rfl, rfl⟩⟩, hs⟩
theorem KO.go (h : KO F base B dep s nv w0 W e v n xs) (hr : RS (fun k => F k ∨ v.ownBlock = some k) base B dep s' nv' W') (c : Chg B nv nv' W W') : KO F base B dep s' nv' w0 W' e v n xs :=
  ⟨hr, own_keep h.own (fun k hk => c.block k (own_block h.own k hk).2 (h.rs.far k (.inr hk)).2.1 (h.rs.far k (.inr hk)).2.2), Nat.le_trans h.sz c.size⟩
/-- A new row out of what is written down. -/
theorem KO.lit (h : RS F base B dep s nv W) (hs : w0.heap.size ≤ W.heap.size) (V : Array Value) (m : Nat) (hm : V.size = m) (h64 : m ≤ 100) : KO F base B dep s nv w0 (W.alloc (.cells V e)) e (.slice (some ⟨W.heap.size, 0, none⟩) m m) m V.toList := by
  subst hm
  have hX : (W.alloc (.cells V e)).heap[W.heap.size]? = some (.cells V e (0, 0)) := Array.getElem?_push_size
  refine ⟨(h.more (.cells V e)).less (fun k hk => ?_), ⟨by simp, .inr ⟨_, _, V, rfl, hs, hX, Nat.le_refl _, by unfold maxLen; omega, by simp, by rw [Nat.mul_one]; exact List.take_of_length_le (by simp)⟩⟩, by rw [alloc_size']; omega⟩
  rcases hk with hk | hk
  · exact .inl hk
  · simp [Value.ownBlock] at hk; exact .inr hk.symm
/-- A row behind another one. -/
theorem KO.cat (h : KO F base B dep s nv w0 W e v n xs) (t ty : TypeId) {bytes : Nat} {z : Value} {i0 : TypeInfo} (ht : Tryd.prog.underlying t = some (.slice e)) (hi : Tryd.prog.info? e = some i0) (hz0 : i0.zero = some z) (hz1 : i0.size = 1) (hz2 : i0.bytes = bytes) (hz3 : z.cells.size = 1) (hby : bytes ≤ 16)
    {W1 : World} (hW : Below W.heap.size W W1) (ad : Addr) (m c : Nat) (news : List Value) (hl : news.length = m) (hnews : ∀ j u, news[j]? = some u → W1.cell? (ad.add j) = some u) (h1 : ∀ u ∈ news, u.oneCell' = true) (hn : n + m ≤ 1000000) (hm : 1 ≤ m) :
    ∃ a' cap' w3, (Builtin.append_ #[t, t] ty #[v, .slice (some ad) m c]).run Tryd.prog W1 = .ok (.slice a' (n + m) cap') w3 ∧ KO F base B dep s nv w0 w3 e (.slice a' (n + m) cap') (n + m) (xs ++ news) ∧ (∀ nv0, Chg B nv0 nv w0 W → Chg B nv0 nv w0 w3) := by
  have ho1 := own_below h.own hW
  have nl := own_block h.own
  obtain ⟨v', w3, hr, ho, hg, _, hat⟩ := run_append_own_at (P := Tryd.prog) W1 w0.heap.size t ty e i0 z 1 bytes ht hi hz0 hz1 hz2 hz3 (by decide) v n xs ho1 ad m c news (by omega) hnews h1 (by unfold maxLen; omega) (by
    have : (n + m) * bytes ≤ 1000000 * 16 := Nat.mul_le_mul hn hby
    omega) (Nat.le_trans h.sz hW.size)
  obtain ⟨a, cap, rfl⟩ : ∃ a cap, v' = .slice a (n + m) cap := by
    rcases ho.2 with ⟨_, e⟩ | ⟨g, cap, cur, e, _⟩
    · omega
    · exact ⟨_, _, e⟩
  have hsz : W.heap.size ≤ w3.heap.size := Nat.le_trans hW.size hg.size
  have nl' := own_block ho
  have hbl : ∀ k, k < W.heap.size → v.ownBlock ≠ some k → w3.heap[k]? = W.heap[k]? := fun k hk hne => (hg.block k (Nat.lt_of_lt_of_le hk hW.size) (fun e => hne e.symm)).trans (hW.block k hk)
  refine ⟨a, cap, w3, hr, ⟨h.rs.grow hsz (fun k hk hnf => hbl k hk (fun e => hnf (.inr e))) (fun k hk => ?_), ho, Nat.le_trans h.sz hsz⟩, fun nv0 c0 => ⟨hg.os.trans (hW.os.trans c0.os), hg.tape.trans (hW.tape.trans c0.tape), hg.output.trans (hW.output.trans c0.output), Nat.le_trans c0.size hsz, fun k hk h2 h3 => (hbl k (Nat.lt_of_lt_of_le hk c0.size) (fun e => by have := (nl k e).1; omega)).trans (c0.block k hk h2 h3), c0.fresh⟩⟩
  rcases hk with hk | hk
  · have := (h.rs.far k (.inl hk)).1
    exact ⟨.inl (.inl hk), by omega⟩
  · refine ⟨?_, (nl' k hk).2⟩
    rcases hat with e | e
    · exact .inl (.inr (e ▸ hk))
    · rw [e] at hk
      have hk' : W1.heap.size = k := by simpa using hk
      exact .inr (by have := hW.size; omega)
/-- One more behind a row. -/
theorem KO.more (h : KO F base B dep s nv w0 W e v n xs) (t ty : TypeId) {bytes : Nat} {z : Value} {i0 : TypeInfo} (ht : Tryd.prog.underlying t = some (.slice e)) (hi : Tryd.prog.info? e = some i0) (hz0 : i0.zero = some z) (hz1 : i0.size = 1) (hz2 : i0.bytes = bytes) (hz3 : z.cells.size = 1) (hby : bytes ≤ 16)
    (x : Value) (h1 : x.oneCell' = true) (hn : n + 1 ≤ 1000000) :
    ∃ a' cap' w3, (Builtin.append_ #[t, t] ty #[v, .slice (some ⟨W.heap.size, 0, none⟩) 1 1]).run Tryd.prog (W.alloc (.cells #[x] e)) = .ok (.slice a' (n + 1) cap') w3 ∧ KO F base B dep s nv w0 w3 e (.slice a' (n + 1) cap') (n + 1) (xs ++ [x]) ∧ (∀ nv0, Chg B nv0 nv w0 W → Chg B nv0 nv w0 w3) :=
  h.cat t ty ht hi hz0 hz1 hz2 hz3 hby ((Below.refl _ _).alloc (Nat.le_refl _) _) ⟨W.heap.size, 0, none⟩ 1 1 [x] rfl (fun j u hj => by
    have hj0 : j = 0 := by
      rcases Nat.lt_or_ge j 1 with h | h
      · omega
      · rw [List.getElem?_eq_none (by simpa using h)] at hj; cases hj
    subst hj0
    simp at hj; subst hj; simp [Addr.add]) (by intro u hu; simp at hu; subst hu; exact h1) hn (Nat.le_refl _)
theorem infoInt : (Tryd.prog.info? 3).map (fun i => (i.zero, i.size, i.bytes)) = some (some (.int .i64 0), 1, 8) := by kernel_rfl
theorem infoStr : (Tryd.prog.info? 9).map (fun i => (i.zero, i.size, i.bytes)) = some (some (.string ⟨#[]⟩), 1, 16) := by kernel_rfl
/-- Kids, names as cells. -/
abbrev kc (K : List Nat) : List Value := K.map fun k : Nat => Value.int .i64 (k : Int)
abbrev nc (N : List (List UInt8)) : List Value := N.map fun t : List UInt8 => Value.string ⟨t.toArray⟩
theorem KO.kid {K : List Nat} (h : KO F base B dep s nv w0 W 3 v K.length (kc K)) (x : Nat) (hn : K.length + 1 ≤ 1000000) :
    ∃ a' cap' w3, (Builtin.append_ #[28, 28] 28 #[v, .slice (some ⟨W.heap.size, 0, none⟩) 1 1]).run Tryd.prog (W.alloc (.cells #[.int .i64 (x : Int)] 3)) = .ok (.slice a' (K.length + 1) cap') w3 ∧ KO F base B dep s nv w0 w3 3 (.slice a' (K.length + 1) cap') (K ++ [x]).length (kc (K ++ [x])) ∧ (∀ nv0, Chg B nv0 nv w0 W → Chg B nv0 nv w0 w3) := by
  obtain ⟨i0, hi, hz0, hz1, hz2⟩ := info_of infoInt
  obtain ⟨a', cap', w3, hr, hk, hc⟩ := h.more 28 28 Tryd.underlying28 hi hz0 hz1 hz2 rfl (by omega) (.int .i64 (x : Int)) rfl hn
  exact ⟨a', cap', w3, hr, by simpa using hk, hc⟩
theorem KO.nm {N : List (List UInt8)} (h : KO F base B dep s nv w0 W 9 v N.length (nc N)) (x : List UInt8) (hn : N.length + 1 ≤ 1000000) :
    ∃ a' cap' w3, (Builtin.append_ #[27, 27] 27 #[v, .slice (some ⟨W.heap.size, 0, none⟩) 1 1]).run Tryd.prog (W.alloc (.cells #[.string ⟨x.toArray⟩] 9)) = .ok (.slice a' (N.length + 1) cap') w3 ∧ KO F base B dep s nv w0 w3 9 (.slice a' (N.length + 1) cap') (N ++ [x]).length (nc (N ++ [x])) ∧ (∀ nv0, Chg B nv0 nv w0 W → Chg B nv0 nv w0 w3) := by
  obtain ⟨i0, hi, hz0, hz1, hz2⟩ := info_of infoStr
  obtain ⟨a', cap', w3, hr, hk, hc⟩ := h.more 27 27 Tryd.underlying27 hi hz0 hz1 hz2 rfl (by omega) (.string ⟨x.toArray⟩) rfl hn
  exact ⟨a', cap', w3, hr, by simpa using hk, hc⟩
theorem own_cells (h : W.ownsRow base e 1 v n xs) : ∃ ad cap, v = .slice ad n cap ∧ n ≤ cap ∧ (n = 0 ∨ ∃ g, ad = some ⟨g, 0, none⟩ ∧ g < W.heap.size ∧ ∀ j, j < n → W.cell? ⟨g, j, none⟩ = xs[j]?) ∧ (∀ k, blockOf v = some k → v.ownBlock = some k) ∧ v.oneCell' = true := by
  have nl := own_block h
  rcases h.2 with ⟨rfl, rfl⟩ | ⟨g, cap, cur, rfl, h1, h2, h3, h4, h5, h6⟩
  · exact ⟨none, 0, rfl, Nat.le_refl _, .inl rfl, (fun k hk => nomatch hk), rfl⟩
  · refine ⟨_, cap, rfl, h3, .inr ⟨g, rfl, (nl g rfl).2, fun j hj => ?_⟩, fun k hk => by simpa [blockOf, Value.ownBlock] using hk, rfl⟩
    rw [← h6, List.getElem?_take, if_pos (by omega)]
    simp [World.cell?, h2]
/-- What was gathered, as kids. -/
theorem KO.kv {nv0 : Value} {s0 : Ps.St} {K : List Nat} (h0 : RS F base B dep s0 nv0 w0) (h : KO F base B dep s nv w0 W 3 v K.length (kc K)) : RS F base B dep s nv W ∧ KV F B nv W v K := by
  refine ⟨h.rs.less (fun k hk => .inl hk), ?_⟩
  have nl := own_block h.own
  obtain ⟨ad, cap, hv, h1, h2, h3, h4⟩ := own_cells h.own
  refine ⟨⟨ad, cap, hv, h1, ?_⟩, fun k hk => ⟨(h.rs.far k (.inr (h3 k hk))).2.1, (h.rs.far k (.inr (h3 k hk))).2.2, fun hf => by have := (h0.far k hf).1; have := (nl k (h3 k hk)).1; omega⟩, fun k hk => (nl k (h3 k hk)).2, h4⟩
  rcases h2 with h2 | ⟨g, e, hg, hc⟩
  · exact .inl (List.length_eq_zero_iff.1 h2)
  · exact .inr ⟨g, e, hg, fun j hj => (hc j hj).trans (by simp [kc, hj])⟩
theorem KO.nmv {nv0 : Value} {s0 : Ps.St} {N : List (List UInt8)} (h0 : RS F base B dep s0 nv0 w0) (h : KO F base B dep s nv w0 W 9 v N.length (nc N)) : RS F base B dep s nv W ∧ NV F B nv W v N := by
  refine ⟨h.rs.less (fun k hk => .inl hk), ?_⟩
  have nl := own_block h.own
  obtain ⟨ad, cap, hv, h1, h2, h3, h4⟩ := own_cells h.own
  refine ⟨⟨ad, cap, hv, h1, ?_⟩, fun k hk => ⟨(h.rs.far k (.inr (h3 k hk))).2.1, (h.rs.far k (.inr (h3 k hk))).2.2, fun hf => by have := (h0.far k hf).1; have := (nl k (h3 k hk)).1; omega⟩, fun k hk => (nl k (h3 k hk)).2, h4⟩
  rcases h2 with h2 | ⟨g, e, hg, hc⟩
  · exact .inl (List.length_eq_zero_iff.1 h2)
  · exact .inr ⟨g, e, hg, fun j hj => (hc j hj).trans (by simp [nc, hj])⟩
end Go.Proofs.YtoeolonbkeldoaaDoor.R
