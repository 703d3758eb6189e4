/- The reference's Quote by its contract; a quoted text is told as it was. -/
import Derived.Test.YtbciecmikcloaaaDoorLRQuoted
namespace Go.Proofs.YtbciecmikcloaaaDoor.Lx
set_option linter.unusedVariables false
/-- How a byte is written within a text. -/
def esc (c : UInt8) : List UInt8 := if c.toNat = 34 ∨ c.toNat = 92 then [92, c] else if c.toNat = 10 then [92, 110] else [c]
def body (l : List UInt8) : List UInt8 := l.flatMap esc
def qt (l : List UInt8) : List UInt8 := 34 :: (body l ++ [34])
theorem body_snoc (l : List UInt8) (c : UInt8) : body (l ++ [c]) = body l ++ esc c := by simp [body]
theorem esc_len (c : UInt8) : 1 ≤ (esc c).length ∧ (esc c).length ≤ 2 := by
  unfold esc
  split
  · simp
  · split <;> simp
theorem body_len (l : List UInt8) : (body l).length ≤ 2 * l.length := by
  induction l with
  | nil => simp [body]
  | cons c l ih =>
    have := esc_len c
    have e : body (c :: l) = esc c ++ body l := rfl
    rw [e, List.length_append, List.length_cons]; omega
end Go.Proofs.YtbciecmikcloaaaDoor.Lx
namespace Go.Proofs.YtbciecmikcloaaaDoor.L
open Go.RowKit
set_option linter.unusedVariables false
theorem quo_body : ∀ (l r : List UInt8), (∀ c ∈ l, (32 ≤ c.toNat ∧ c.toNat ≤ 126) ∨ c.toNat = 10) → Lx.quo (Lx.body l ++ 34 :: r) = some (l, (Lx.body l).length + 1)
  | [], r, _ => by simpa [Lx.body] using quo_close 34 r rfl
  | c :: l, r, h => by
    have ih := quo_body l r (fun x hx => h x (List.mem_cons_of_mem _ hx))
    have hc := h c List.mem_cons_self
    have e : Lx.body (c :: l) ++ 34 :: r = Lx.esc c ++ (Lx.body l ++ 34 :: r) := by simp [Lx.body]
    have el : (Lx.body (c :: l)).length = (Lx.esc c).length + (Lx.body l).length := by simp [Lx.body]
    rw [e, el]
    unfold Lx.esc
    by_cases h1 : c.toNat = 34 ∨ c.toNat = 92
    · rw [if_pos h1]
      show Lx.quo (92 :: c :: (Lx.body l ++ 34 :: r)) = _
      rw [quo_same 92 c _ rfl h1, ih]; simp; omega
    · rw [if_neg h1]
      by_cases h2 : c.toNat = 10
      · rw [if_pos h2]
        show Lx.quo (92 :: 110 :: (Lx.body l ++ 34 :: r)) = _
        rw [quo_line 92 110 _ rfl rfl, ih]
        have : c = 10 := UInt8.toNat_inj.1 h2
        subst this
        simp; omega
      · rw [if_neg h2]
        show Lx.quo (c :: (Lx.body l ++ 34 :: r)) = _
        rw [quo_one c _ (by omega) (by omega) (by omega) (by omega), ih]; simp; omega
theorem tok_quoted (l r : List UInt8) (h : ∀ c ∈ l, (32 ≤ c.toNat ∧ c.toNat ≤ 126) ∨ c.toNat = 10) : ∃ z, Lx.tok (Lx.qt l ++ r) 0 = ⟨2, l, 0, 0, false, z⟩ := by
  have e : Lx.qt l ++ r = 34 :: (Lx.body l ++ 34 :: r) := by simp [Lx.qt]
  have hb : Lx.blk false (34 :: (Lx.body l ++ 34 :: r)) = (0, false) := blk_stop _ _ (by decide) (by decide) (by decide) (by decide) (fun h => by have := h.1; revert this; decide)
  unfold Lx.tok
  rw [e, List.drop_zero, hb]
  simp only [Nat.add_zero, List.drop_zero]
  rw [Lx.piece_text _ _ rfl, quo_body l r h]
  exact ⟨_, rfl⟩
theorem tok_quoted3 (l : List UInt8) (h : ∀ c ∈ l, (32 ≤ c.toNat ∧ c.toNat ≤ 126) ∨ c.toNat = 10) : ∃ z, Lx.tok ([32, 32, 10] ++ Lx.qt l) 1 = ⟨2, l, 0, 3, true, z⟩ := by
  have e : [32, 32, 10] ++ Lx.qt l = 32 :: 32 :: 10 :: 34 :: (Lx.body l ++ 34 :: []) := by simp [Lx.qt]
  have hb : Lx.blk false (34 :: (Lx.body l ++ 34 :: [])) = (0, false) := blk_stop _ _ (by decide) (by decide) (by decide) (by decide) (fun h => by have := h.1; revert this; decide)
  have hb1 : Lx.blk false (10 :: 34 :: (Lx.body l ++ 34 :: [])) = (1, true) := by rw [Lx.blk_line _ _ (by decide), hb]
  have hb2 : Lx.blk false (32 :: 10 :: 34 :: (Lx.body l ++ 34 :: [])) = (2, true) := by rw [Lx.blk_blank _ _ (by decide) (by decide), hb1]
  unfold Lx.tok
  rw [e, List.drop_succ_cons, List.drop_zero, hb2]
  show ∃ z, Lx.tokOf 3 true (Lx.piece (34 :: (Lx.body l ++ 34 :: []))) = _
  rw [Lx.piece_text _ _ rfl, quo_body l [] h]
  exact ⟨_, rfl⟩
/-- Two bytes behind a row of bytes of one's own, as a run of the append. -/
theorem byte2_more {B : Nat} {w : World} {v : Value} {bs : List Value} (h : w.ownsRow B 5 1 v bs.length bs) (hB : B ≤ w.heap.size) (hl : bs.length + 2 ≤ 140737488355328) (c d : Int) (ty : TypeId) :
    ∃ v' w3, (Builtin.append_ #[34, 34] ty #[v, .slice (some ⟨w.heap.size, 0, none⟩) 2 2]).run Tryd.prog (w.alloc (.cells #[.int .u8 c, .int .u8 d] 5)) = .ok v' w3 ∧
      w3.ownsRow B 5 1 v' (bs ++ [Value.int .u8 c, Value.int .u8 d]).length (bs ++ [Value.int .u8 c, Value.int .u8 d]) ∧ Below B w w3 := by
  obtain ⟨i0, hi, hz0, hz1, hz2⟩ := info_of info5
  have hb : Below w.heap.size w (w.alloc (.cells #[.int .u8 c, .int .u8 d] 5)) := (Below.refl _ _).alloc (Nat.le_refl _) _
  have hown := own_block h
  obtain ⟨v', w3, hr, ho, hg, _⟩ := run_append_own (P := Tryd.prog) (w.alloc (.cells #[.int .u8 c, .int .u8 d] 5)) B 34 ty 5 i0 (.int .u8 0) 1 1 Tryd.underlying34 hi hz0 hz1 hz2 rfl (by decide) v bs.length bs (own_below h hb) ⟨w.heap.size, 0, none⟩ 2 2 [.int .u8 c, .int .u8 d] rfl (by
      intro j u hj
      match j, hj with
      | 0, hj => simp at hj; subst hj; simp [Addr.add]
      | 1, hj => simp at hj; subst hj; simp [Addr.add]) (by intro u hu; simp at hu; rcases hu with rfl | rfl <;> rfl) (by unfold maxLen; omega) (by omega) (by simp; omega)
  exact ⟨v', w3, hr, by simpa using ho, (hb.mono hB).trans ((Below.refl _ _).grown hg (by simp; omega) fun k hk => (hown k hk).1)⟩
/-- What is written down so far. -/
structure QO (w : World) (l : List UInt8) (v : Value) (W : World) : Prop where
  own : W.ownsRow w.heap.size 5 1 v l.length (Lib.byteCells l)
  bel : Below w.heap.size w W
theorem byteCells_len (l : List UInt8) : (Lib.byteCells l).length = l.length := by simp [Lib.byteCells]
theorem QO.one {w W : World} {l : List UInt8} {v : Value} (h : QO w l v W) (hl : l.length ≤ 1000000) (c : UInt8) : ∃ v' w3, (Builtin.append_ #[34, 34] 34 #[v, .slice (some ⟨W.heap.size, 0, none⟩) 1 1]).run Tryd.prog (W.alloc (.cells #[.int .u8 (c.toNat : Int)] 5)) = .ok v' w3 ∧ QO w (l ++ [c]) v' w3 := by
  obtain ⟨v', w3, hr, ho, _, hb⟩ := byte_more (byLen h.own) h.bel.size (by rw [byteCells_len]; omega) (c.toNat : Int) 34
  rw [byteCells_snoc] at ho
  rw [byteCells_len] at ho
  exact ⟨v', w3, hr, ho, h.bel.trans hb⟩
theorem QO.two {w W : World} {l : List UInt8} {v : Value} (h : QO w l v W) (hl : l.length ≤ 1000000) (c d : UInt8) : ∃ v' w3, (Builtin.append_ #[34, 34] 34 #[v, .slice (some ⟨W.heap.size, 0, none⟩) 2 2]).run Tryd.prog (W.alloc (.cells #[.int .u8 (c.toNat : Int), .int .u8 (d.toNat : Int)] 5)) = .ok v' w3 ∧ QO w (l ++ [c, d]) v' w3 := by
  obtain ⟨v', w3, hr, ho, hb⟩ := byte2_more (byLen h.own) h.bel.size (by rw [byteCells_len]; omega) (c.toNat : Int) (d.toNat : Int) 34
  have e : Lib.byteCells l ++ [Value.int .u8 (c.toNat : Int), Value.int .u8 (d.toNat : Int)] = Lib.byteCells (l ++ [c, d]) := by simp [Lib.byteCells]
  rw [e] at ho
  rw [byteCells_len] at ho
  exact ⟨v', w3, hr, ho, h.bel.trans hb⟩
set_option maxRecDepth 100000 in
set_option maxHeartbeats 4000000 in
theorem rquote_any (s : ByteArray) (w : World) (hs : s.size ≤ 1000) :
    Calls Tryd.prog 18 #[.string s] w fun e w' => e = .returned (.string ⟨(Lx.qt s.data.toList).toArray⟩) ∧ Below w.heap.size w w' := by
  obtain ⟨R, hR⟩ : ∃ R, Lx.qt s.data.toList = R := ⟨_, rfl⟩
  rw [hR]
  have H0 : QO w [] (.slice none 0 0) w := ⟨World.ownsRow_nil _ _ _ _, Below.refl _ _⟩
  obtain ⟨v0, w1, hr0, H1'⟩ := H0.one (by simp) 34
  have HR0 : Hid (_) := hr0
  have H1 : Hid (QO w (34 :: Lx.body (s.data.toList.take 0)) v0 w1) := H1'
  have HRE : Hid (_) := hR
  clear hR H0 hr0 H1'
  go_enter Tryd.func18, Tryd.ntmps18
  go_wp2_with (at_builtin; refine wpList_append_run _ _ 34 rfl rfl _ _ _ _ rfl rfl HR0.out ?_)
  go_loopw [3, 4] (fun v i W => ∃ k : Nat, k ≤ s.size ∧ i = .int .i64 (k : Int) ∧ Hid (QO w (34 :: Lx.body (s.data.toList.take k)) v W)) (fun _ i _ => s.size - (intOf i).toNat)
  case atStart => exact ⟨0, by omega, rfl, H1⟩
  case round =>
    obtain ⟨k, hk, rfl, HQ⟩ := hrel
    clear H1 HR0
    have hlen : (34 :: Lx.body (s.data.toList.take k)).length ≤ 1000000 := by
      have := Lx.body_len (s.data.toList.take k)
      have h2 : (s.data.toList.take k).length ≤ k := List.length_take_le _ _
      rw [List.length_cons]; omega
    by_cases hlt : k < s.size
    · have hlt' : (k : Int) < s.size := by omega
      have hts : s.data.toList.take (k + 1) = s.data.toList.take k ++ [s[k]] := by rw [List.take_succ_eq_append_getElem (by rw [size_list]; exact hlt)]; rfl
      have hnx : Lx.body (s.data.toList.take (k + 1)) = Lx.body (s.data.toList.take k) ++ Lx.esc s[k] := by rw [hts, Lx.body_snoc]
      by_cases h1 : s[k].toNat = 34
      · have e1 : ((s[k].toNat : Int) == 34) = true := by rw [beq_iff_eq]; omega
        obtain ⟨v', w3, hr, hq⟩ := HQ.out.two hlen 92 s[k]
        have HN : Hid (QO w (34 :: Lx.body (s.data.toList.take (k + 1))) v' w3) := by
          show QO _ _ _ _
          rw [hnx, Lx.esc, if_pos (.inl h1)]; exact hq
        have HRn : Hid (_) := hr
        clear hr hq HQ hnx hts h1
        go_wp2_with (at_builtin; refine wpList_append_run _ _ 34 rfl rfl _ _ _ _ rfl rfl HRn.out ?_)
        go_roundw
        case rel => exact ⟨k + 1, by omega, by go_num, HN⟩
        case measure => simp [intOf]; omega
      have e1 : ((s[k].toNat : Int) == 34) = false := by rw [beq_eq_false_iff_ne]; omega
      by_cases h2 : s[k].toNat = 92
      · have e2 : ((s[k].toNat : Int) == 92) = true := by rw [beq_iff_eq]; omega
        obtain ⟨v', w3, hr, hq⟩ := HQ.out.two hlen 92 s[k]
        have HN : Hid (QO w (34 :: Lx.body (s.data.toList.take (k + 1))) v' w3) := by
          show QO _ _ _ _
          rw [hnx, Lx.esc, if_pos (.inr h2)]; exact hq
        have HRn : Hid (_) := hr
        clear hr hq HQ hnx hts h1 h2
        go_wp2_with (at_builtin; refine wpList_append_run _ _ 34 rfl rfl _ _ _ _ rfl rfl HRn.out ?_)
        go_roundw
        case rel => exact ⟨k + 1, by omega, by go_num, HN⟩
        case measure => simp [intOf]; omega
      have e2 : ((s[k].toNat : Int) == 92) = false := by rw [beq_eq_false_iff_ne]; omega
      by_cases h3 : s[k].toNat = 10
      · have e3 : ((s[k].toNat : Int) == 10) = true := by rw [beq_iff_eq]; omega
        obtain ⟨v', w3, hr, hq⟩ := HQ.out.two hlen 92 110
        have HN : Hid (QO w (34 :: Lx.body (s.data.toList.take (k + 1))) v' w3) := by
          show QO _ _ _ _
          rw [hnx, Lx.esc, if_neg (by omega), if_pos h3]; exact hq
        have HRn : Hid (_) := hr
        clear hr hq HQ hnx hts h1 h2 h3
        go_wp2_with (at_builtin; refine wpList_append_run _ _ 34 rfl rfl _ _ _ _ rfl rfl HRn.out ?_)
        go_roundw
        case rel => exact ⟨k + 1, by omega, by go_num, HN⟩
        case measure => simp [intOf]; omega
      have e3 : ((s[k].toNat : Int) == 10) = false := by rw [beq_eq_false_iff_ne]; omega
      obtain ⟨v', w3, hr, hq⟩ := HQ.out.one hlen s[k]
      have HN : Hid (QO w (34 :: Lx.body (s.data.toList.take (k + 1))) v' w3) := by
        show QO _ _ _ _
        rw [hnx, Lx.esc, if_neg (by omega), if_neg h3]; exact hq
      have HRn : Hid (_) := hr
      clear hr hq HQ hnx hts h1 h2 h3
      go_wp2_with (at_builtin; refine wpList_append_run _ _ 34 rfl rfl _ _ _ _ rfl rfl HRn.out ?_)
      go_roundw
      case rel => exact ⟨k + 1, by omega, by go_num, HN⟩
      case measure => simp [intOf]; omega
    · have hlt' : ¬ (k : Int) < s.size := by omega
      obtain ⟨v', w3, hr, hq⟩ := HQ.out.one hlen 34
      obtain ⟨a, n, c, rfl, hcv⟩ := own_text hq.own
      have hc3 := hcv w3 (fun _ _ _ _ => rfl)
      have HRn : Hid (_) := hr
      have HB : Hid (_) := hq.bel
      have HE : Hid (34 :: Lx.body (s.data.toList.take k) ++ [34] = R) := by
        show _ = _
        rw [← HRE.out, List.take_of_length_le (by rw [size_list]; omega)]; simp [Lx.qt]
      rw [HE.out] at hc3
      clear hr hq HQ hcv
      go_wp2_with (at_builtin; refine wpList_append_run _ _ 34 rfl rfl _ _ _ _ rfl rfl HRn.out ?_)
      go_ret
      exact ⟨rfl, HB.out⟩
end Go.Proofs.YtbciecmikcloaaaDoor.L
