/- Texts: RpTx RpSz. -/
import Derived.Test.YtkaacmghgobhmaaBn17
import Derived.Test.YtkaacmghgobhmaaBn06
section
namespace Go.Proofs.Ytkaacmghgobhmaa.Lx
theorem quo_text : ∀ (n : Nat) (l : List UInt8) (r : List UInt8 × Nat), l.length ≤ n → quo l = some r → r.1.length ≤ l.length
  | n, [], r, _, h => by cases h
  | n, [c], r, _, h => by
    unfold quo at h
    split at h
    · cases h; simp
    · cases h
  | 0, c :: d :: l, r, hn, h => by simp at hn
  | n + 1, c :: d :: l, r, hn, h => by
    simp only [List.length_cons] at hn
    unfold quo at h
    split at h
    · cases h; simp
    · split at h
      · split at h
        · rw [Option.map_eq_some_iff] at h
          obtain ⟨q, h1, rfl⟩ := h
          have := quo_text n l q (by omega) h1
          simp only [List.length_cons]; omega
        · split at h
          · rw [Option.map_eq_some_iff] at h
            obtain ⟨q, h1, rfl⟩ := h
            have := quo_text n l q (by omega) h1
            simp only [List.length_cons]; omega
          · cases h
      · split at h
        · rw [Option.map_eq_some_iff] at h
          obtain ⟨q, h1, rfl⟩ := h
          have := quo_text n (d :: l) q (by simp only [List.length_cons]; omega) h1
          simp only [List.length_cons] at this ⊢; omega
        · cases h
theorem piece_short {l : List UInt8} {q : Pc} (h : piece l = some q) : q.t.length ≤ l.length := by
  unfold piece at h
  rw [Option.or_eq_some_iff] at h
  rcases h with h | ⟨_, h⟩
  · unfold pEnd at h
    split at h
    · cases h; simp
    · cases h
  · rw [Option.or_eq_some_iff] at h
    rcases h with h | ⟨_, h⟩
    · unfold pNum at h
      split at h
      · cases h; rw [List.length_take]; omega
      · cases h
    · rw [Option.or_eq_some_iff] at h
      rcases h with h | ⟨_, h⟩
      · unfold pTxt at h
        split at h
        · cases h
        · split at h
          · rw [Option.map_eq_some_iff] at h
            obtain ⟨r, h1, rfl⟩ := h
            have := quo_text _ _ r (Nat.le_refl _) h1
            simp only [List.length_cons]; omega
          · cases h
      · rw [Option.or_eq_some_iff] at h
        rcases h with h | ⟨_, h⟩
        · unfold pNam at h
          split at h
          · cases h; rw [List.length_take]; omega
          · cases h
        · unfold pSgn at h
          split at h
          · cases h
          · rename_i hne
            have h2 := (isPre_le ((sgn_pre l).resolve_left hne)).1
            generalize sgn l = S at *
            cases h
            exact h2
theorem tok_short (l : List UInt8) (p : Nat) : (tok l p).t.length ≤ l.length := by
  unfold tok
  generalize (blk false (l.drop p)).1 = b
  generalize (blk false (l.drop p)).2 = ln
  cases hq : piece (l.drop (p + b)) with
  | none =>
    simp only [tokOf]
    exact Nat.zero_le l.length
  | some q =>
    have := piece_short hq
    rw [List.length_drop] at this
    simp only [tokOf]; omega
theorem run_short (l : List UInt8) : ∀ (f p : Nat), ∀ T ∈ run l f p, T.t.length ≤ l.length
  | 0, p, T, h => by
    rw [run, List.mem_singleton] at h; subst h; exact tok_short l p
  | f + 1, p, T, h => by
    unfold run at h
    split at h
    · rw [List.mem_singleton] at h; subst h; exact tok_short l p
    · rcases List.mem_cons.1 h with h | h
      · subst h; exact tok_short l p
      · exact run_short l f _ T h
theorem all_short (l : List UInt8) : ∀ T ∈ all l, T.t.length ≤ l.length := run_short l _ _
end Go.Proofs.Ytkaacmghgobhmaa.Lx
namespace Go.Proofs.Ytkaacmghgobhmaa.Rp
open Lx Ps
set_option linter.unusedVariables false
section
variable {M : Nat}
def ShN (M : Nat) (n : Nd) : Prop := n.t.length ≤ M ∧ ∀ y ∈ n.names, y.length ≤ M
/-- The tokens' texts are short, and the nodes'. -/
def ShR (M : Nat) (r : Rt) : Prop := (∀ T ∈ r.toks, T.t.length ≤ M) ∧ ∀ n ∈ r.nodes, ShN M n
def Keeps {α : Type} (M : Nat) (f : Q α) : Prop := ∀ r, ShR M r → ShR M (f r).2
theorem sh_nx {r : Rt} (h : ShR M r) : (nx r).t.length ≤ M := by
  unfold nx
  cases ht : r.toks with
  | nil => simp [Ps.bad]
  | cons T t => exact h.1 T (by rw [ht]; simp)
theorem sh_move {r : Rt} (h : ShR M r) : ShR M (move r) := by
  unfold move
  split
  · exact ⟨fun T hT => h.1 T (List.mem_of_mem_tail hT), h.2⟩
  · exact h
theorem sh_spoil {r : Rt} (h : ShR M r) : ShR M (spoil r) := h
theorem sh_has {m : List UInt8} {x y : Rt} {b : Bool} (h : has m x = (b, y)) (hx : ShR M x) : ShR M y := by
  unfold has at h
  split at h
  · cases h; exact hx
  · cases h; exact sh_move hx
theorem sh_hs (m : List UInt8) {x : Rt} (hx : ShR M x) : ShR M (has m x).2 := sh_has (b := (has m x).1) rfl hx
theorem sh_must (m : List UInt8) {x : Rt} (hx : ShR M x) : ShR M (must m x) := by
  unfold must
  split
  · rename_i e; exact sh_has e hx
  · rename_i e; exact sh_spoil (sh_has e hx)
theorem sh_rname {x : Rt} (hx : ShR M x) : ShR M (rname x).2 ∧ (rname x).1.length ≤ M := by
  unfold rname
  split
  · exact ⟨hx, by simp⟩
  · exact ⟨sh_move hx, sh_nx hx⟩
theorem sh_ende {x : Rt} (hx : ShR M x) : ShR M (ende x) := by
  unfold ende
  split
  · rename_i e; exact sh_has e hx
  · rename_i e
    split
    · exact sh_has e hx
    · split
      · exact sh_spoil (sh_has e hx)
      · exact sh_has e hx
theorem sh_put {r : Rt} {n : Nd} (h : ShR M r) (hn : ShN M n) : ShR M (put n r).2 :=
  ⟨h.1, fun m hm => by
    rcases List.mem_append.1 (show m ∈ r.nodes ++ [n] from hm) with c | c
    · exact h.2 m c
    · rw [List.mem_singleton] at c; subst c; exact hn⟩
theorem sh_no {n : Nd} (h : n.t = []) (h2 : n.names = []) : ShN M n := ⟨by rw [h]; simp, by rw [h2]; simp⟩
theorem sh_tx {n : Nd} (h : n.t.length ≤ M) (h2 : n.names = []) : ShN M n := ⟨h, by rw [h2]; simp⟩
structure ShL (M : Nat) (L : Lr) : Prop where
  e : Keeps M L.e
  u : Keeps M L.u
  p : Keeps M L.p
  s : Keeps M L.s
variable {L : Lr}
theorem sh_listLoop (h : ShL M L) (last : Bool) : ∀ (f : Nat) (l : List Nat), Keeps M (listLoop L last f l)
  | 0, l => fun r hr => hr
  | f + 1, l => fun r hr => by
    unfold listLoop
    split
    · exact hr
    · split
      · exact hr
      · exact sh_listLoop h last f _ _ (h.s r hr)
theorem sh_list (h : ShL M L) (last : Bool) : Keeps M (list L last) := fun r hr => sh_listLoop h last _ [] r hr
theorem sh_body (h : ShL M L) : Keeps M (body L) := fun r hr => sh_must [125] (sh_list h false _ (sh_must [123] hr))
theorem sh_block (h : ShL M L) : Keeps M (block L) := fun r hr => sh_put (sh_body h r hr) (sh_no rfl rfl)
theorem sh_inner (h : ShL M L) : Keeps M (inner L) := fun r hr => by
  unfold inner
  simp only
  have h1 : ShR M (if (isS [108, 101, 116] r || isS [99, 111, 110, 115, 116] r || isS [102, 117, 110, 99, 116, 105, 111, 110] r) = true then spoil r else r) := by
    split
    · exact hr
    · exact hr
  generalize (if (isS [108, 101, 116] r || isS [99, 111, 110, 115, 116] r || isS [102, 117, 110, 99, 116, 105, 111, 110] r) = true then spoil r else r) = q at *
  split
  · exact h1
  · exact h.s q h1
theorem sh_namesLoop : ∀ (f : Nat) (l : List (List UInt8)) (r : Rt), ShR M r → (∀ y ∈ l, y.length ≤ M) → ShR M (namesLoop f l r).2 ∧ ∀ y ∈ (namesLoop f l r).1, y.length ≤ M
  | 0, l, r, hr, hl => ⟨hr, hl⟩
  | f + 1, l, r, hr, hl => by
    unfold namesLoop
    split
    · rename_i e; exact ⟨sh_has e hr, hl⟩
    · rename_i e
      have h1 := sh_rname (sh_has e hr)
      exact sh_namesLoop f _ _ h1.1 (fun y hy => by
        rcases List.mem_append.1 hy with c | c
        · exact hl y c
        · rw [List.mem_singleton] at c; subst c; exact h1.2)
theorem sh_func (h : ShL M L) (named : Bool) : Keeps M (func L named) := fun r hr => by
  unfold func
  simp only
  have g := sh_hs [42] (sh_must [102, 117, 110, 99, 116, 105, 111, 110] hr)
  generalize has [42] (must [102, 117, 110, 99, 116, 105, 111, 110] r) = G at *
  have g2 : ShR M (if (named || decide ((nx G.2).k = 3)) = true then rname G.2 else ([], G.2)).2 ∧ (if (named || decide ((nx G.2).k = 3)) = true then rname G.2 else ([], G.2)).1.length ≤ M := by
    split
    · exact sh_rname g
    · exact ⟨g, by simp⟩
  generalize (if (named || decide ((nx G.2).k = 3)) = true then rname G.2 else ([], G.2)) = N at *
  have g3 := sh_must [40] g2.1
  generalize must [40] N.2 = R at *
  have g4 : ShR M (if isS [41] R = true then ([], R) else namesLoop (rname R).2.toks.length [(rname R).1] (rname R).2).2 ∧ ∀ y ∈ (if isS [41] R = true then ([], R) else namesLoop (rname R).2.toks.length [(rname R).1] (rname R).2).1, y.length ≤ M := by
    split
    · exact ⟨g3, by simp⟩
    · have h1 := sh_rname g3
      exact sh_namesLoop _ _ _ h1.1 (fun y hy => by rw [List.mem_singleton] at hy; subst hy; exact h1.2)
  generalize (if isS [41] R = true then ([], R) else namesLoop (rname R).2.toks.length [(rname R).1] (rname R).2) = P at *
  exact sh_put (sh_body h _ (sh_must [41] g4.1)) ⟨g2.2, g4.2⟩
theorem sh_commasLoop (h : ShL M L) : ∀ (f : Nat) (l : List Nat), Keeps M (commasLoop L f l)
  | 0, l => fun r hr => hr
  | f + 1, l => fun r hr => by
    unfold commasLoop
    split
    · rename_i e; exact sh_has e hr
    · rename_i e; exact sh_commasLoop h f _ _ (h.e _ (sh_has e hr))
theorem sh_commas (h : ShL M L) (m : List UInt8) : Keeps M (commas L m) := fun r hr => by
  unfold commas
  split
  · rename_i e; exact sh_has e hr
  · rename_i e; exact sh_must m (sh_commasLoop h _ _ _ (h.e _ (sh_has e hr)))
theorem sh_binLoop (row : List (List UInt8)) {sub : Q Nat} (hs : Keeps M sub) : ∀ (f k : Nat), Keeps M (binLoop row sub f k)
  | 0, k => fun r hr => hr
  | f + 1, k => fun r hr => by
    unfold binLoop
    split
    · refine sh_binLoop row hs f _ _ (sh_put (hs _ (sh_move hr)) ?_)
      have hn := sh_nx hr
      unfold sigNode
      split
      · exact sh_no rfl rfl
      · split
        · exact sh_no rfl rfl
        · exact sh_tx hn rfl
    · exact hr
theorem sh_bin (h : ShL M L) : ∀ row, Keeps M (bin L row)
  | [] => h.u
  | row :: rest => fun r hr => sh_binLoop row (sh_bin h rest) _ _ _ (sh_bin h rest r hr)
theorem sh_cond (h : ShL M L) : Keeps M (cond L) := fun r hr => by
  have h1 := sh_bin h rrows r hr
  unfold cond
  simp only
  generalize bin L rrows r = X at *
  split
  · exact h1
  · split
    · rename_i e; exact sh_has e h1
    · rename_i e
      have h2 := sh_must [58] (h.e _ (sh_has e h1))
      generalize must [58] _ = R at *
      split
      · exact h2
      · exact sh_put (h.e _ h2) (sh_no rfl rfl)
theorem sh_assign (h : ShL M L) : Keeps M (assign L) := fun r hr => by
  unfold assign
  simp only
  split
  · rename_i e; exact sh_put (h.e _ (sh_has e hr)) (sh_no rfl rfl)
  · rename_i q e
    have h1 := sh_cond h q (sh_has e hr)
    generalize cond L q = X at *
    split
    · exact h1
    · split
      · split
        · rename_i e2; exact sh_has e2 h1
        · rename_i e2; exact sh_put (h.e _ (sh_has e2 h1)) (sh_no rfl rfl)
      · exact h1
theorem sh_unary (h : ShL M L) : Keeps M (unary L) := fun r hr => by
  unfold unary
  split
  · exact sh_put (h.u _ (sh_move hr)) (sh_tx (sh_nx hr) rfl)
  · exact h.p r hr
theorem sh_objLoop (h : ShL M L) : ∀ (f : Nat) (N : List (List UInt8)) (K : List Nat) (r : Rt), ShR M r → (∀ y ∈ N, y.length ≤ M) → ShR M (objLoop L f N K r).2 ∧ ∀ N' K', (objLoop L f N K r).1 = some (N', K') → ∀ y ∈ N', y.length ≤ M
  | 0, N, K, r, hr, hN => ⟨hr, fun N' K' e => by cases e; exact hN⟩
  | f + 1, N, K, r, hr, hN => by
    unfold objLoop
    split
    · simp only
      have hn := sh_nx hr
      have hq : ShR M (if (nx r).k = 3 ∨ (nx r).k = 4 ∨ (nx r).k = 2 then r else spoil r) := by
        split
        · exact hr
        · exact hr
      generalize (if (nx r).k = 3 ∨ (nx r).k = 4 ∨ (nx r).k = 2 then r else spoil r) = q at *
      have hN2 : ∀ y ∈ N ++ [(nx r).t], y.length ≤ M := fun y hy => by
        rcases List.mem_append.1 hy with c | c
        · exact hN y c
        · rw [List.mem_singleton] at c; subst c; exact hn
      split
      · exact ⟨hq, fun N' K' e => by cases e⟩
      · have h1 := h.e _ (sh_must [58] (sh_move hq))
        split
        · rename_i e; exact ⟨sh_has e h1, fun N' K' e => by cases e; exact hN2⟩
        · rename_i e; exact sh_objLoop h f _ _ _ (sh_has e h1) hN2
    · exact ⟨hr, fun N' K' e => by cases e; exact hN⟩
theorem sh_object (h : ShL M L) (a : Nat) : Keeps M (object L a) := fun r hr => by
  have h1 := sh_objLoop h (r.toks.length + 1) [] [] r hr (by simp)
  unfold object
  split
  · rename_i e; rw [e] at h1; exact h1.1
  · rename_i N K q e
    rw [e] at h1
    exact sh_put (sh_must [125] h1.1) ⟨by simp, h1.2 N K rfl⟩
theorem simple_sh (t : List UInt8) : (simple t).t = [] ∧ (simple t).names = [] := by unfold simple; (repeat' split) <;> exact ⟨rfl, rfl⟩
theorem sh_first (h : ShL M L) : Keeps M (first L) := fun r hr => by
  have hn := sh_nx hr
  unfold first
  simp only
  split
  · exact sh_put (sh_move hr) (sh_no rfl rfl)
  · split
    · exact sh_put (sh_move hr) (sh_tx hn rfl)
    · split
      · exact sh_put (sh_move hr) (sh_tx hn rfl)
      · split
        · exact sh_put (sh_move hr) (sh_no (n := { simple (nx r).t with a := (nx r).a }) (simple_sh _).1 (simple_sh _).2)
        · split
          · exact sh_func h false r hr
          · split
            · rename_i e; exact sh_must [41] (h.e _ (sh_has e hr))
            · rename_i e
              have h0 := sh_has e hr
              split
              · rename_i e2; exact sh_put (sh_commas h [93] _ (sh_has e2 h0)) (sh_no rfl rfl)
              · rename_i e2
                split
                · rename_i e3; exact sh_object h _ _ (sh_has e3 (sh_has e2 h0))
                · rename_i e3; exact sh_spoil (sh_has e3 (sh_has e2 h0))
theorem sh_postLoop (h : ShL M L) : ∀ (f k : Nat), Keeps M (postLoop L f k)
  | 0, k => fun r hr => hr
  | f + 1, k => fun r hr => by
    unfold postLoop
    split
    · exact hr
    · simp only
      split
      · rename_i q e
        have h1 := sh_has e hr
        split
        · exact h1
        · exact sh_postLoop h f _ _ (sh_put (sh_move h1) (sh_tx (sh_nx h1) rfl))
      · rename_i e
        have h1 := sh_has e hr
        split
        · rename_i e2; exact sh_postLoop h f _ _ (sh_put (sh_must [93] (h.e _ (sh_has e2 h1))) (sh_no rfl rfl))
        · rename_i e2
          have h2 := sh_has e2 h1
          split
          · rename_i e3; exact sh_postLoop h f _ _ (sh_put (sh_commas h [41] _ (sh_has e3 h2)) (sh_no rfl rfl))
          · rename_i e3; exact sh_has e3 h2
theorem sh_post (h : ShL M L) : Keeps M (post L) := fun r hr => sh_postLoop h _ _ _ (sh_first h r hr)
theorem sh_one (h : ShL M L) : Keeps M (one L) := fun r hr => by
  unfold one
  simp only
  split
  · exact sh_block h r hr
  · split
    · exact sh_put (sh_func h true r hr) (sh_no rfl rfl)
    · split
      · rename_i e
        have h1 := sh_inner h _ (sh_must [41] (h.e _ (sh_must [40] (sh_has e hr))))
        generalize inner L _ = Y at *
        split
        · rename_i e2; exact sh_put (sh_inner h _ (sh_has e2 h1)) (sh_no rfl rfl)
        · rename_i e2; exact sh_put (sh_has e2 h1) (sh_no rfl rfl)
      · rename_i e
        have hr := sh_has e hr
        split
        · rename_i e; exact sh_put (sh_inner h _ (sh_must [41] (h.e _ (sh_must [40] (sh_has e hr))))) (sh_no rfl rfl)
        · rename_i e
          have hr := sh_has e hr
          split
          · rename_i e; exact sh_put (sh_ende (sh_has e hr)) (sh_no rfl rfl)
          · rename_i e
            have hr := sh_has e hr
            split
            · rename_i e; exact sh_put (sh_ende (sh_has e hr)) (sh_no rfl rfl)
            · rename_i e
              have hr := sh_has e hr
              split
              · rename_i e
                split
                · exact sh_put (sh_ende (h.e _ (sh_has e hr))) (sh_no rfl rfl)
                · exact sh_put (sh_ende (sh_has e hr)) (sh_no rfl rfl)
              · rename_i e
                have hr := sh_has e hr
                split
                · rename_i q e
                  have h0 : ShR M (if (nx q).ln = true then spoil q else q) := by
                    split
                    · exact sh_spoil (sh_has e hr)
                    · exact sh_has e hr
                  exact sh_put (sh_ende (h.e _ h0)) (sh_no rfl rfl)
                · rename_i e
                  have hr := sh_has e hr
                  split
                  · rename_i q e
                    have h1 := sh_rname (sh_must [40] (sh_must [99, 97, 116, 99, 104] (sh_block h _ (sh_has e hr))))
                    exact sh_put (sh_block h _ (sh_must [41] h1.1)) (sh_tx h1.2 rfl)
                  · rename_i q e
                    have hr := sh_has e hr
                    split
                    · have h1 := sh_rname (sh_move hr)
                      exact sh_put (sh_ende (h.e _ (sh_must [61] h1.1))) (sh_tx h1.2 rfl)
                    · have h1 := sh_ende (h.e _ hr)
                      generalize ende _ = E at *
                      split
                      · exact h1
                      · exact sh_put h1 (sh_no rfl rfl)
theorem sh_deeper {f : Q Nat} (h : Keeps M f) : Keeps M (deeper f) := fun r hr => by
  unfold deeper
  split
  · exact hr
  · exact h r hr
theorem sh_rl : ∀ d, ShL M (rl d)
  | 0 => ⟨fun r hr => hr, fun r hr => hr, fun r hr => hr, fun r hr => hr⟩
  | d + 1 => ⟨sh_deeper (sh_assign (sh_rl d)), sh_deeper (sh_unary (sh_rl d)), sh_deeper (sh_post (sh_rl d)), sh_deeper (sh_one (sh_rl d))⟩
end
theorem rparse_short (src : List UInt8) : ∀ n ∈ (rparse src).1, ShN 4096 n := by
  unfold rparse
  split
  · simp
  · rename_i c
    have h := sh_list (sh_rl (M := 4096) 40) true ⟨Lx.all src, [], false⟩ ⟨fun T hT => by have := Lx.all_short src T hT; omega, by simp⟩
    simp only
    generalize list (rl 40) true ⟨Lx.all src, [], false⟩ = X at *
    split
    · simp
    · exact (sh_put h (n := { k := 33, kids := X.1 }) (sh_no rfl rfl)).2
end Go.Proofs.Ytkaacmghgobhmaa.Rp
end
section
namespace Go.Proofs.Ytkaacmghgobhmaa.Rp
open Lx Ps
set_option linter.unusedVariables false
def Sm1 (n : Nd) : Prop := n.names.length ≤ 10000 ∧ n.kids.length ≤ 10000
def Sz (r : Rt) : Prop := ∀ n ∈ r.nodes, Sm1 n
def Zz (x y : Rt) : Prop := Dn x y ∧ (Gd x → x.toks.length ≤ 4097 → Sz x → Sz y)
theorem Zz.refl (x : Rt) : Zz x x := ⟨pre_dn.refl x, fun _ _ h => h⟩
theorem Zz.trans {a b c : Rt} (h : Zz a b) (k : Zz b c) : Zz a c := ⟨pre_dn.trans h.1 k.1, fun g t s => k.2 (h.1.1 g).1 (Nat.le_trans (h.1.1 g).2 t) (h.2 g t s)⟩
/-- Nodes are the same. -/
theorem Zz.same {a b : Rt} (d : Dn a b) (e : b.nodes = a.nodes) : Zz a b := ⟨d, fun _ _ h n hn => h n (by rw [← e]; exact hn)⟩
theorem Zz.put {a b : Rt} (h : Zz a b) (n : Nd) (hn : Gd a → a.toks.length ≤ 4097 → Sm1 n) : Zz a (Rp.put n b).2 := ⟨pre_dn.trans h.1 (pre_dn.put n b), fun g t s m hm => by
  rcases List.mem_append.1 (show m ∈ b.nodes ++ [n] from hm) with hm | hm
  · exact h.2 g t s m hm
  · rw [List.mem_singleton] at hm; rw [hm]; exact hn g t⟩
theorem Zz.pk {a b : Rt} (h : Zz a b) (n : Nd) (h1 : n.names.length ≤ 10000) (h2 : n.kids.length ≤ 10000) : Zz a (Rp.put n b).2 := h.put n (fun _ _ => ⟨h1, h2⟩)
theorem zz_move (x : Rt) : Zz x (move x) := Zz.same (pre_dn.move x) (by unfold move; split <;> rfl)
theorem zz_spoil (x : Rt) : Zz x (spoil x) := Zz.same (pre_dn.spoil x) rfl
theorem zz_has {m : List UInt8} {x y : Rt} {b : Bool} (h : has m x = (b, y)) : Zz x y := Zz.same (pre_dn.hs (pre_dn.refl x) h) (has_keep h).1
theorem zz_hs (m : List UInt8) (x : Rt) : Zz x (has m x).2 := zz_has (b := (has m x).1) rfl
theorem zz_must (m : List UInt8) (x : Rt) : Zz x (must m x) := Zz.same (kp_must pre_dn m x) (by
  unfold must
  split
  · rename_i e; exact (has_keep e).1
  · rename_i e; exact (has_keep e).1)
theorem zz_rname (x : Rt) : Zz x (rname x).2 := by
  unfold rname
  split
  · exact zz_spoil x
  · exact zz_move x
theorem zz_ende (x : Rt) : Zz x (ende x) := by
  unfold ende
  split
  · rename_i e; exact zz_has e
  · rename_i e
    split
    · exact zz_has e
    · split
      · exact (zz_has e).trans (zz_spoil _)
      · exact zz_has e
structure ZzL (L : Lr) : Prop where
  e : ∀ r, Zz r (L.e r).2
  u : ∀ r, Zz r (L.u r).2
  p : ∀ r, Zz r (L.p r).2
  s : ∀ r, Zz r (L.s r).2
section
variable {L : Lr}
theorem zz_listLoop (h : ZzL L) (last : Bool) : ∀ (f : Nat) (l : List Nat) (r : Rt), Zz r (listLoop L last f l r).2 ∧ (listLoop L last f l r).1.length ≤ l.length + f
  | 0, l, r => ⟨Zz.refl r, Nat.le_refl _⟩
  | f + 1, l, r => by
    unfold listLoop
    split
    · exact ⟨Zz.refl r, by simp⟩
    · split
      · exact ⟨Zz.refl r, by simp⟩
      · have := zz_listLoop h last f (l ++ [(L.s r).1]) (L.s r).2
        refine ⟨(h.s r).trans this.1, ?_⟩
        have h2 := this.2
        rw [List.length_append, List.length_singleton] at h2
        show (listLoop L last f (l ++ [(L.s r).1]) (L.s r).2).1.length ≤ _
        omega
theorem zz_body (h : ZzL L) (r : Rt) : Zz r (body L r).2 ∧ (Gd r → r.toks.length ≤ 4097 → (body L r).1.length ≤ 10000) := by
  have h1 := zz_must [123] r
  have h2 := zz_listLoop h false ((must [123] r).toks.length + 1) [] (must [123] r)
  refine ⟨(h1.trans h2.1).trans (zz_must [125] _), fun g t => ?_⟩
  have h3 := h2.2
  have h4 := (h1.1.1 g).2
  show (listLoop L false ((must [123] r).toks.length + 1) [] (must [123] r)).1.length ≤ _
  simp only [List.length_nil] at h3
  omega
theorem zz_block (h : ZzL L) (r : Rt) : Zz r (block L r).2 := (zz_body h r).1.put _ (fun g t => ⟨Nat.zero_le _, (zz_body h r).2 g t⟩)
theorem zz_inner (h : ZzL L) (r : Rt) : Zz r (inner L r).2 := by
  unfold inner
  simp only
  split
  · split
    · exact zz_spoil r
    · exact (zz_spoil r).trans (h.s _)
  · split
    · exact Zz.refl r
    · exact h.s r
theorem zz_namesLoop : ∀ (f : Nat) (l : List (List UInt8)) (r : Rt), Zz r (namesLoop f l r).2 ∧ (namesLoop f l r).1.length ≤ l.length + f
  | 0, l, r => ⟨Zz.refl r, Nat.le_refl _⟩
  | f + 1, l, r => by
    unfold namesLoop
    split
    · rename_i e; exact ⟨zz_has e, by simp⟩
    · rename_i r1 e
      have := zz_namesLoop f (l ++ [(rname r1).1]) (rname r1).2
      refine ⟨((zz_has e).trans (zz_rname _)).trans this.1, ?_⟩
      have h2 := this.2
      rw [List.length_append, List.length_singleton] at h2
      show (namesLoop f (l ++ [(rname r1).1]) (rname r1).2).1.length ≤ _
      omega
theorem zz_pars (r : Rt) : Zz r (pars r).2 ∧ (Gd r → r.toks.length ≤ 4097 → (pars r).1.length ≤ 10000) := by
  unfold pars
  split
  · exact ⟨Zz.refl r, fun _ _ => by simp⟩
  · have h1 := zz_rname r
    have h2 := zz_namesLoop (rname r).2.toks.length [(rname r).1] (rname r).2
    refine ⟨h1.trans h2.1, fun g t => ?_⟩
    have h3 := h2.2
    have h4 := (h1.1.1 g).2
    show (namesLoop (rname r).2.toks.length [(rname r).1] (rname r).2).1.length ≤ _
    simp only [List.length_singleton] at h3
    omega
theorem zz_fname (named : Bool) (r : Rt) : Zz r (fname named r).2 := by
  unfold fname
  split
  · exact zz_rname r
  · exact Zz.refl r
theorem zz_func (h : ZzL L) (named : Bool) (r : Rt) : Zz r (func L named r).2 := by
  have h1 := (((zz_must [102, 117, 110, 99, 116, 105, 111, 110] r).trans (zz_hs [42] _)).trans (zz_fname named _)).trans (zz_must [40] _)
  have h2 := zz_pars (must [40] (fname named (has [42] (must [102, 117, 110, 99, 116, 105, 111, 110] r)).2).2)
  have h3 := zz_must [41] (pars (must [40] (fname named (has [42] (must [102, 117, 110, 99, 116, 105, 111, 110] r)).2).2)).2
  have h4 := zz_body h (must [41] (pars (must [40] (fname named (has [42] (must [102, 117, 110, 99, 116, 105, 111, 110] r)).2).2)).2)
  have h13 := (h1.trans h2.1).trans h3
  exact (h13.trans h4.1).put _ (fun g t => ⟨h2.2 (h1.1.1 g).1 (Nat.le_trans (h1.1.1 g).2 t), h4.2 (h13.1.1 g).1 (Nat.le_trans (h13.1.1 g).2 t)⟩)
theorem zz_commasLoop (h : ZzL L) : ∀ (f : Nat) (l : List Nat) (r : Rt), Zz r (commasLoop L f l r).2 ∧ (commasLoop L f l r).1.length ≤ l.length + f
  | 0, l, r => ⟨Zz.refl r, Nat.le_refl _⟩
  | f + 1, l, r => by
    unfold commasLoop
    split
    · rename_i e; exact ⟨zz_has e, by simp⟩
    · rename_i r1 e
      have := zz_commasLoop h f (l ++ [(L.e r1).1]) (L.e r1).2
      refine ⟨((zz_has e).trans (h.e _)).trans this.1, ?_⟩
      have h2 := this.2
      rw [List.length_append, List.length_singleton] at h2
      show (commasLoop L f (l ++ [(L.e r1).1]) (L.e r1).2).1.length ≤ _
      omega
theorem zz_commas (h : ZzL L) (m : List UInt8) (r : Rt) : Zz r (commas L m r).2 ∧ (Gd r → r.toks.length ≤ 4097 → (commas L m r).1.length ≤ 9000) := by
  unfold commas
  split
  · rename_i e; exact ⟨zz_has e, fun _ _ => by simp⟩
  · rename_i r1 e
    have h1 := (zz_has e).trans (h.e r1)
    have h2 := zz_commasLoop h (L.e r1).2.toks.length [(L.e r1).1] (L.e r1).2
    refine ⟨(h1.trans h2.1).trans (zz_must _ _), fun g t => ?_⟩
    have h3 := h2.2
    have h4 := (h1.1.1 g).2
    show (commasLoop L (L.e r1).2.toks.length [(L.e r1).1] (L.e r1).2).1.length ≤ _
    simp only [List.length_singleton] at h3
    omega
theorem zz_binLoop (row : List (List UInt8)) {sub : Q Nat} (hs : ∀ r, Zz r (sub r).2) : ∀ (f k : Nat) (r : Rt), Zz r (binLoop row sub f k r).2
  | 0, k, r => Zz.refl r
  | f + 1, k, r => by
    unfold binLoop
    split
    · refine Zz.trans (Zz.pk ((zz_move r).trans (hs _)) _ ?_ (by simp)) (zz_binLoop row hs f _ _)
      show (sigNode _).names.length ≤ _
      unfold sigNode; split
      · simp
      · split <;> simp
    · exact Zz.refl r
theorem zz_bin (h : ZzL L) : ∀ row r, Zz r (bin L row r).2
  | [], r => h.u r
  | row :: rest, r => (zz_bin h rest r).trans (zz_binLoop row (zz_bin h rest) _ _ _)
theorem zz_cond (h : ZzL L) (r : Rt) : Zz r (cond L r).2 := by
  have h0 := zz_bin h rrows r
  unfold cond
  simp only
  split
  · exact h0
  · split
    · rename_i e; exact h0.trans (zz_has e)
    · rename_i e
      have h1 := ((h0.trans (zz_has e)).trans (h.e _)).trans (zz_must [58] _)
      split
      · exact h1
      · exact (h1.trans (h.e _)).pk _ (by simp) (by simp)
theorem zz_assign (h : ZzL L) (r : Rt) : Zz r (assign L r).2 := by
  unfold assign
  simp only
  split
  · rename_i e; exact ((zz_has e).trans (h.e _)).pk _ (by simp) (by simp)
  · rename_i r1 e
    have h0 := (zz_has e).trans (zz_cond h r1)
    generalize cond L _ = k at *
    obtain ⟨k1, k2⟩ := k
    simp only at h0 ⊢
    cases hb : k2.bad
    · simp only [Bool.false_eq_true, if_false]
      generalize isTarget _ = tt
      cases tt
      · exact h0
      · simp only [if_true]
        split
        · rename_i e'; exact h0.trans (zz_has e')
        · rename_i r2 e'; exact ((h0.trans (zz_has e')).trans (h.e _)).pk _ (by simp) (by simp)
    · exact h0
theorem zz_unary (h : ZzL L) (r : Rt) : Zz r (unary L r).2 := by
  unfold unary
  generalize (isS [33] r || isS [45] r || isS [116, 121, 112, 101, 111, 102] r) = c
  cases c
  · exact h.p r
  · exact ((zz_move r).trans (h.u _)).pk _ (by simp) (by simp)
theorem zz_objLoop (h : ZzL L) : ∀ (f : Nat) (N : List (List UInt8)) (K : List Nat) (r : Rt), Zz r (objLoop L f N K r).2 ∧ ∀ N' K', (objLoop L f N K r).1 = some (N', K') → N'.length ≤ N.length + f ∧ K'.length ≤ K.length + f
  | 0, N, K, r => ⟨Zz.refl r, fun N' K' e => by cases e; exact ⟨Nat.le_refl _, Nat.le_refl _⟩⟩
  | f + 1, N, K, r => by
    unfold objLoop
    simp only
    split
    · obtain ⟨r1, hr1, hz⟩ : ∃ r1, (if (nx r).k = 3 ∨ (nx r).k = 4 ∨ (nx r).k = 2 then r else spoil r) = r1 ∧ Zz r r1 := ⟨_, rfl, by
        split
        · exact Zz.refl r
        · exact zz_spoil r⟩
      rw [hr1]
      by_cases hb : r1.bad = true
      · rw [if_pos hb]; exact ⟨hz, fun N' K' e => by cases e⟩
      · rw [if_neg hb]
        have h1 := ((hz.trans (zz_move r1)).trans (zz_must [58] _)).trans (h.e _)
        split
        · rename_i e; exact ⟨h1.trans (zz_has e), fun N' K' e' => by cases e'; exact ⟨by simp, by simp⟩⟩
        · rename_i r2 e
          have h2 := zz_objLoop h f (N ++ [(nx r).t]) (K ++ [(L.e (must [58] (move r1))).1]) r2
          refine ⟨(h1.trans (zz_has e)).trans h2.1, fun N' K' e' => ?_⟩
          have := h2.2 N' K' e'
          simp only [List.length_append, List.length_singleton] at this
          omega
    · exact ⟨Zz.refl r, fun N' K' e => by cases e; exact ⟨by omega, by omega⟩⟩
theorem zz_object (h : ZzL L) (a : Nat) (r : Rt) : Zz r (object L a r).2 := by
  have h0 := zz_objLoop h (r.toks.length + 1) [] [] r
  unfold object
  split
  · rename_i e; rw [e] at h0; exact h0.1
  · rename_i N K r1 e
    rw [e] at h0
    have h2 := h0.2 N K rfl
    exact (h0.1.trans (zz_must [125] _)).put _ (fun g t => ⟨by simp only [List.length_nil] at h2; show N.length ≤ _; omega, by simp only [List.length_nil] at h2; show K.length ≤ _; omega⟩)
theorem simple_sm (t : List UInt8) (a : Nat) : Sm1 { simple t with a := a } := by
  unfold simple
  repeat' split
  all_goals exact ⟨by simp, by simp⟩
theorem zz_first (h : ZzL L) (r : Rt) : Zz r (first L r).2 := by
  unfold first
  simp only
  split
  · exact (zz_move r).pk _ (by simp) (by simp)
  split
  · exact (zz_move r).pk _ (by simp) (by simp)
  split
  · exact (zz_move r).pk _ (by simp) (by simp)
  split
  · exact (zz_move r).put _ (fun _ _ => simple_sm _ _)
  split
  · exact zz_func h false r
  split
  · rename_i e; exact ((zz_has e).trans (h.e _)).trans (zz_must _ _)
  rename_i e1
  split
  · rename_i r2 e
    have h1 := (zz_has e1).trans (zz_has e)
    have h2 := zz_commas h [93] r2
    exact (h1.trans h2.1).put _ (fun g t => ⟨Nat.zero_le _, Nat.le_trans (h2.2 (h1.1.1 g).1 (Nat.le_trans (h1.1.1 g).2 t)) (by omega)⟩)
  rename_i e2
  split
  · rename_i e; exact (((zz_has e1).trans (zz_has e2)).trans (zz_has e)).trans (zz_object h _ _)
  · rename_i e; exact (((zz_has e1).trans (zz_has e2)).trans (zz_has e)).trans (zz_spoil _)
theorem zz_postLoop (h : ZzL L) : ∀ (f k : Nat) (r : Rt), Zz r (postLoop L f k r).2
  | 0, k, r => Zz.refl r
  | f + 1, k, r => by
    unfold postLoop
    simp only
    split
    · exact Zz.refl r
    split
    · rename_i e
      split
      · exact (zz_has e).trans (zz_spoil _)
      · exact (((zz_has e).trans (zz_move _)).pk _ (by simp) (by simp)).trans (zz_postLoop h f _ _)
    rename_i e1
    split
    · rename_i e; exact (((((zz_has e1).trans (zz_has e)).trans (h.e _)).trans (zz_must _ _)).pk _ (by simp) (by simp)).trans (zz_postLoop h f _ _)
    rename_i e2
    split
    · rename_i r3 e
      have h1 := ((zz_has e1).trans (zz_has e2)).trans (zz_has e)
      have h2 := zz_commas h [41] r3
      refine Zz.trans ((h1.trans h2.1).put _ (fun g t => ⟨Nat.zero_le _, ?_⟩)) (zz_postLoop h f _ _)
      have := h2.2 (h1.1.1 g).1 (Nat.le_trans (h1.1.1 g).2 t)
      show (k :: (commas L [41] r3).1).length ≤ _
      simp only [List.length_cons]
      omega
    · rename_i e; exact ((zz_has e1).trans (zz_has e2)).trans (zz_has e)
theorem zz_post (h : ZzL L) (r : Rt) : Zz r (post L r).2 := (zz_first h r).trans (zz_postLoop h _ _ _)
theorem zz_one (h : ZzL L) (r : Rt) : Zz r (one L r).2 := by
  unfold one
  simp only
  split
  · exact zz_block h r
  split
  · exact (zz_func h true r).pk _ (by simp) (by simp)
  split
  · rename_i e
    have g := ((((zz_has e).trans (zz_must [40] _)).trans (h.e _)).trans (zz_must [41] _)).trans (zz_inner h _)
    split
    · rename_i e'; exact ((g.trans (zz_has e')).trans (zz_inner h _)).pk _ (by simp) (by simp)
    · rename_i e'; exact (g.trans (zz_has e')).pk _ (by simp) (by simp)
  rename_i e1
  have g1 := zz_has e1
  split
  · rename_i e; exact (((((g1.trans (zz_has e)).trans (zz_must [40] _)).trans (h.e _)).trans (zz_must [41] _)).trans (zz_inner h _)).pk _ (by simp) (by simp)
  rename_i e2
  have g2 := g1.trans (zz_has e2)
  split
  · rename_i e; exact ((g2.trans (zz_has e)).trans (zz_ende _)).pk _ (by simp) (by simp)
  rename_i e3
  have g3 := g2.trans (zz_has e3)
  split
  · rename_i e; exact ((g3.trans (zz_has e)).trans (zz_ende _)).pk _ (by simp) (by simp)
  rename_i e4
  have g4 := g3.trans (zz_has e4)
  split
  · rename_i e
    split
    · exact (((g4.trans (zz_has e)).trans (h.e _)).trans (zz_ende _)).pk _ (by simp) (by simp)
    · exact ((g4.trans (zz_has e)).trans (zz_ende _)).pk _ (by simp) (by simp)
  rename_i e5
  have g5 := g4.trans (zz_has e5)
  split
  · rename_i e
    split
    · exact ((((g5.trans (zz_has e)).trans (zz_spoil _)).trans (h.e _)).trans (zz_ende _)).pk _ (by simp) (by simp)
    · exact (((g5.trans (zz_has e)).trans (h.e _)).trans (zz_ende _)).pk _ (by simp) (by simp)
  rename_i e6
  have g6 := g5.trans (zz_has e6)
  split
  · rename_i e
    exact (((((((g6.trans (zz_has e)).trans (zz_block h _)).trans (zz_must _ _)).trans (zz_must _ _)).trans (zz_rname _)).trans (zz_must _ _)).trans (zz_block h _)).pk _ (by simp) (by simp)
  rename_i r7 e7
  have g7 := g6.trans (zz_has e7)
  split
  · exact (((((g7.trans (zz_move _)).trans (zz_rname _)).trans (zz_must [61] _)).trans (h.e _)).trans (zz_ende _)).pk _ (by simp) (by simp)
  · have g8 := (g7.trans (h.e r7)).trans (zz_ende _)
    split
    · exact g8
    · exact g8.pk _ (by simp) (by simp)
theorem zz_deeper {f : Q Nat} (hf : ∀ r, Zz r (f r).2) (r : Rt) : Zz r (deeper f r).2 := by
  unfold deeper
  split
  · exact Zz.refl r
  · exact hf r
end
theorem zz_rl : ∀ d, ZzL (rl d)
  | 0 => ⟨zz_spoil, zz_spoil, zz_spoil, zz_spoil⟩
  | d + 1 => by
    have h := zz_rl d
    exact ⟨zz_deeper (zz_assign h), zz_deeper (zz_unary h), zz_deeper (zz_post h), zz_deeper (zz_one h)⟩
/-- A program's nodes have few names, few kids. -/
theorem few_in (r : Rt) (g : Gd r) (hn : r.nodes = []) (ht : r.toks.length ≤ 4097) : (∀ n ∈ (list (rl 40) true r).2.nodes, Sm1 n) ∧ (list (rl 40) true r).1.length ≤ 4098 := by
  have h := zz_listLoop (zz_rl 40) true (r.toks.length + 1) [] r
  refine ⟨h.1.2 g ht (fun n hn' => by rw [hn] at hn'; cases hn'), ?_⟩
  have h2 := h.2
  simp only [List.length_nil] at h2
  show (listLoop (rl 40) true (r.toks.length + 1) [] r).1.length ≤ _
  omega
end Go.Proofs.Ytkaacmghgobhmaa.Rp
end
