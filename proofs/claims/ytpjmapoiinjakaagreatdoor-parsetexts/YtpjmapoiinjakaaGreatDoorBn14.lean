/- Texts: PsPz PSameT. -/
import Derived.Test.YtpjmapoiinjakaaGreatDoorPsOo
import Derived.Test.YtpjmapoiinjakaaGreatDoorBn03
import Derived.Deep.QuietTactic
import Derived.BigQuiet
import Derived.Deep.RegionHeld3
import Derived.Deep.DeepCutAuto
import Derived.Deep.CutBlock
section
namespace Go.Proofs.YtpjmapoiinjakaaGreatDoor.R
open Go.RowKit
open L (tkA)
set_option linter.unusedVariables false
/-- What is known of a level. -/
structure LvD (base B dep : Nat) (L : Ps.Lv) : Prop where
  c : ∀ F, LvC F base B dep L
  p : ∀ {F : Nat → Prop} {s s' : Ps.St} {r : Nat} {nv : Value} {w : World}, Ru L.p s r s' → RS F base B dep s nv w → Calls Tryz.prog 53 #[.pointer (some ⟨B, 0, none⟩), .func (.func 128) #[.pointer (some ⟨B, 0, none⟩)] #[]] w (Tells F base B dep nv w s' (.int .i64 (r : Int)))
theorem fail_fst (s : Ps.St) : (Ps.fail s).1 = s.nodes.length := by unfold Ps.fail; split <;> rfl
theorem lv_any (base B : Nat) : ∀ d dep, dep + d = 40 → LvD base B dep (Ps.lv d)
  | 0, dep, hd => by
    have hf : ∀ {s : Ps.St}, (Ps.fail s).2.nodes.length ≤ 1000000000 → s.nodes.length ≤ 1000000000 := fun {s} h => Nat.le_trans (Ps.gr_fail s) h
    refine ⟨fun F => ⟨Ps.gr_lv 0, fun {s nv w} h hn => ?_, fun {s nv w} h hn => ?_, fun {s nv w} h hn => ?_⟩, fun {F s s' r nv w} E h => ?_⟩
    · show Calls _ _ _ _ (fun e w' => e = .returned (.int .i64 ((Ps.fail s).1 : Int)) ∧ Leaves F base B dep nv w (Ps.fail s).2 w')
      rw [fail_fst]
      exact expr_full h (by omega) (hf hn)
    · show Calls _ _ _ _ (fun e w' => e = .returned (.int .i64 ((Ps.fail s).1 : Int)) ∧ Leaves F base B dep nv w (Ps.fail s).2 w')
      rw [fail_fst]
      exact unary_full h (by omega) (hf hn)
    · show Calls _ _ _ _ (fun e w' => e = .returned (.int .i64 ((Ps.fail s).1 : Int)) ∧ Leaves F base B dep nv w (Ps.fail s).2 w')
      rw [fail_fst]
      exact statement_full h (by omega) (hf hn)
    · have e1 : (Ps.fail s).1 = r := congrArg Prod.fst E.eq
      have e2 : (Ps.fail s).2 = s' := congrArg Prod.snd E.eq
      have := within_full h (by omega) (E.back Ps.gr_fail) (.func (.func 128) #[.pointer (some ⟨B, 0, none⟩)] #[])
      rw [← fail_fst, e1, e2] at this
      exact this
  | d + 1, dep, hd => by
    have ih := lv_any base B d (dep + 1) (by omega)
    have hI := Ps.ix_lv d
    have hS := Ps.sh_lv d
    refine ⟨fun F => ⟨Ps.gr_lv (d + 1), fun {s nv w} h hn => ?_, fun {s nv w} h hn => ?_, fun {s nv w} h hn => ?_⟩, fun {F s s' r nv w} E h => ?_⟩
    · exact expr_part h (by omega) (Ps.anyExpr (Ps.lv d) s) (fun W hW => c_anyExpr ih.c hI hS (Ru.mk' hn) hW)
    · exact unary_part h (by omega) (Ps.anyUnary (Ps.lv d) s) (fun W hW => c_anyUnary ih.c (fun E {nv w} h => ih.p E h) (Ru.mk' hn) hW)
    · exact statement_part h (by omega) (Ps.anyStatement (Ps.lv d) s) (fun W hW => c_anyStatement ih.c hI hS (Ru.mk' hn) hW)
    · have e1 : (Ps.primary (Ps.lv d) s).1 = r := congrArg Prod.fst E.eq
      have e2 : (Ps.primary (Ps.lv d) s).2 = s' := congrArg Prod.snd E.eq
      have := within_p h (by omega) (r, s') (fun W hW => c_primary ih.c hI hS (fun E h => c_alone ih.c hS E h) E hW)
      exact this
end Go.Proofs.YtpjmapoiinjakaaGreatDoor.R
namespace Go.Proofs.YtpjmapoiinjakaaGreatDoor.Lx
theorem run_len (l : List UInt8) : ∀ (f p : Nat), p ≤ l.length → l.length < p + f → 1 ≤ (run l f p).length ∧ (run l f p).length + p ≤ l.length + 1 ∧ ∀ T, (run l f p).getLast? = some T → T.k = 0 ∨ T.k = 6
  | 0, p, hp, hf => by omega
  | f + 1, p, hp, hf => by
    unfold run
    split
    · rename_i h
      refine ⟨by simp, by simp; omega, fun T hT => ?_⟩
      have : T = tok l p := by simpa using hT.symm
      rw [this]; exact h
    · rename_i h
      have h1 := tok_ok l p hp
      have h5 := h1.2.2.2.2.1 (fun e => h (.inl e)) (fun e => h (.inr e))
      have ih := run_len l f (tok l p).e h1.2.2.1 (by omega)
      refine ⟨by simp, by rw [List.length_cons]; omega, fun T hT => ih.2.2 T ?_⟩
      rw [List.getLast?_cons] at hT
      cases hg : (run l f (tok l p).e).getLast? with
      | none => have := ih.1; rw [List.getLast?_eq_none_iff] at hg; rw [hg] at this; simp at this
      | some U => rw [hg] at hT; simpa using hT
theorem all_len (l : List UInt8) : 1 ≤ (all l).length ∧ (all l).length ≤ l.length + 1 ∧ ∀ T, (all l).getLast? = some T → T.k = 0 ∨ T.k = 6 := by
  have := run_len l (l.length + 1) 0 (by omega) (by omega)
  exact ⟨this.1, by have := this.2.1; unfold all; omega, this.2.2⟩
end Go.Proofs.YtpjmapoiinjakaaGreatDoor.Lx
namespace Go.Proofs.YtpjmapoiinjakaaGreatDoor.Ps
/-- The reader's last state. -/
def final (src : List UInt8) : St :=
  let r := statements (lv 40) ⟨Lx.all src, [], false, 0⟩
  let s := if (nxt r.2).k = 0 then r.2 else (fail r.2).2
  (add { k := 33, kids := r.1 } s).2
theorem parse_eq (src : List UInt8) : parse src = if 4096 < src.length then ([], 0, false) else if (final src).failed then ([], (final src).at_, false) else ((final src).nodes, 0, true) := rfl
end Go.Proofs.YtpjmapoiinjakaaGreatDoor.Ps
namespace Go.Proofs.YtpjmapoiinjakaaGreatDoor.R
open Go.RowKit
open L (tkA own_block own_below)
set_option linter.unusedVariables false
/-- A tree as it lies, told. -/
def Told (W : World) (v : Value) (ns : List Ps.Nd) : Prop := ∃ (vs : List (Ps.Nd × Value × Value)) (ad : Option Addr) (cap : Nat), vs.map (·.1) = ns ∧ v = .slice ad ns.length cap ∧ ns.length ≤ cap ∧ (ns = [] ∨ ∃ g, ad = some ⟨g, 0, none⟩ ∧ g < W.heap.size ∧ ∀ j (h : j < vs.length) i, i < 6 → W.cell? ⟨g, j * 6 + i, none⟩ = (ndA vs[j].1 vs[j].2.1 vs[j].2.2)[i]?) ∧ ∀ x ∈ vs, NamesIn W x.2.1 x.1.names ∧ KidsIn W x.2.2 x.1.kids
theorem Told.nil (W : World) : Told W (.slice none 0 0) [] := ⟨[], none, 0, rfl, rfl, Nat.le_refl _, .inl rfl, by simp⟩
theorem NamesIn.below {W W' : World} {v : Value} {l : List (List UInt8)} (h : NamesIn W v l) (hb : Below W.heap.size W W') : NamesIn W' v l := h.same hb.size (fun k _ hk => hb.block k hk)
theorem KidsIn.below {W W' : World} {v : Value} {l : List Nat} (h : KidsIn W v l) (hb : Below W.heap.size W W') : KidsIn W' v l := h.same hb.size (fun k _ hk => hb.block k hk)
theorem Told.below {W W' : World} {v : Value} {ns : List Ps.Nd} (h : Told W v ns) (hb : Below W.heap.size W W') : Told W' v ns := by
  obtain ⟨vs, ad, cap, h1, h2, h3, h4, h5⟩ := h
  refine ⟨vs, ad, cap, h1, h2, h3, ?_, fun x hx => ⟨(h5 x hx).1.below hb, (h5 x hx).2.below hb⟩⟩
  rcases h4 with h4 | ⟨g, e, hg, hc⟩
  · exact .inl h4
  · exact .inr ⟨g, e, Nat.lt_of_lt_of_le hg hb.size, fun j hj i hi => (hb.cell (p := ⟨g, j * 6 + i, none⟩) hg).trans (hc j hj i hi)⟩
theorem ndCells_ati : ∀ (vs : List (Ps.Nd × Value × Value)) (j : Nat) (h : j < vs.length) (i : Nat), i < 6 → (ndCells vs)[j * 6 + i]? = (ndA vs[j].1 vs[j].2.1 vs[j].2.2)[i]?
  | [], j, h, i, hi => by simp at h
  | x :: vs, 0, h, i, hi => by
    rw [show ndCells (x :: vs) = (ndA x.1 x.2.1 x.2.2).toList ++ ndCells vs from rfl, List.getElem?_append_left (by simp; omega)]
    simp
  | x :: vs, j + 1, h, i, hi => by
    have ih := ndCells_ati vs j (by simpa using h) i hi
    rw [show ndCells (x :: vs) = (ndA x.1 x.2.1 x.2.2).toList ++ ndCells vs from rfl, List.getElem?_append_right (by simp; omega)]
    rw [show (j + 1) * 6 + i - (ndA x.1 x.2.1 x.2.2).toList.length = j * 6 + i by simp; omega]
    simpa using ih
theorem RS.told {F : Nat → Prop} {base B dep : Nat} {s : Ps.St} {nv : Value} {W : World} (h : RS F base B dep s nv W) : Told W nv s.nodes := by
  obtain ⟨vs, e, ho, hn⟩ := h.nd
  have hl : vs.length = s.nodes.length := by rw [← e, List.length_map]
  have nl := own_block ho
  have hn' : ∀ x ∈ vs, NamesIn W x.2.1 x.1.names ∧ KidsIn W x.2.2 x.1.kids := fun x hx => ⟨(hn x hx).names, (hn x hx).kids⟩
  rcases ho.2 with ⟨hv, h0⟩ | ⟨g, cap, cur, hv, hb, hg, hcap, hcs, hm, ht⟩
  · have hs : s.nodes = [] := List.length_eq_zero_iff.1 (by omega)
    exact ⟨vs, none, 0, e, by rw [hv, hs]; rfl, by omega, .inl hs, hn'⟩
  · refine ⟨vs, some ⟨g, 0, none⟩, cap, e, by rw [hv, hl], by omega, .inr ⟨g, rfl, (nl g (by rw [hv]; rfl)).2, fun j hj i hi => ?_⟩, hn'⟩
    rw [← ndCells_ati vs j hj i hi]
    subst hv
    exact ho.cellAt (j * 6 + i) (by omega)
theorem below_drewN {n k : Nat} {w : World} (h : n ≤ w.heap.size) : Below n w (w.drewN k) := ⟨rfl, rfl, rfl, Nat.le_refl _, fun _ _ => rfl⟩
set_option maxRecDepth 100000 in
set_option maxHeartbeats 4000000 in
theorem Parse_any (l : List UInt8) (w : World) (hg : L.Sig w) (hsm : (Ps.final l).nodes.length ≤ 1000000000) :
    Calls Tryz.prog 12 #[.string ⟨l.toArray⟩] w fun e w' => ∃ v, e = .returned (.tuple #[v, .int .i64 ((Ps.parse l).2.1 : Int), .bool (Ps.parse l).2.2]) ∧ Told w' v (Ps.parse l).1 ∧ Below w.heap.size w w' := by
  have hsz : (⟨l.toArray⟩ : ByteArray).size = l.length := rfl
  rw [Ps.parse_eq]
  by_cases hlen : 4096 < l.length
  · have hli : (4096 : Int) < (⟨l.toArray⟩ : ByteArray).size := by rw [hsz]; omega
    rw [if_pos hlen]
    clear hsm hg
    go_enter Tryz.func12, Tryz.ntmps12
    go_wp2_with fail
    refine bodyPost_ret (v := .tuple #[.slice none 0 0, .int .i64 0, .bool false]) (by simp [results, Tryz.results12, go_sem]) rfl ⟨_, rfl, Told.nil _, Below.refl _ _⟩
  have hli : ¬ (4096 : Int) < (⟨l.toArray⟩ : ByteArray).size := by rw [hsz]; omega
  rw [if_neg hlen]
  have HAL : Hid (_) := L.All_any ⟨l.toArray⟩ w (by rw [hsz]; omega) hg
  have hall := Lx.all_len l
  have HALL : Hid (_) := hall
  rcases eR : Ps.statements (Ps.lv 40) ⟨Lx.all l, [], false, 0⟩ with ⟨K, s1⟩
  have hfin : Ps.final l = (Ps.add { k := 33, kids := K } (if (Ps.nxt s1).k = 0 then s1 else (Ps.fail s1).2)).2 := by unfold Ps.final; simp only [eR]
  generalize hs2 : (if (Ps.nxt s1).k = 0 then s1 else (Ps.fail s1).2) = s2 at hfin
  have n2 : s2.nodes.length ≤ 1000000000 := by
    have := Ps.gr_add { k := 33, kids := K } s2
    rw [hfin] at hsm; exact Nat.le_trans this hsm
  have n1 : s1.nodes.length ≤ 1000000000 := by
    rw [← hs2] at n2
    split at n2
    · exact n2
    · exact Nat.le_trans (Ps.gr_fail s1) n2
  have E1 : Ru (Ps.statements (Ps.lv 40)) ⟨Lx.all l, [], false, 0⟩ K s1 := ⟨eR, n1⟩
  have E3 : Ru (Ps.add { k := 33, kids := K }) s2 s2.nodes.length (Ps.final l) := ⟨by rw [hfin]; rfl, hsm⟩
  have HFIN : Hid (_ ∧ _) := (show _ ∧ _ from ⟨hs2, n2⟩)
  clear eR hfin hs2 n2 n1 hsm hall
  generalize Ps.final l = s3 at *
  go_enter Tryz.func12, Tryz.ntmps12
  go_wp2_with fail
  refine Calls.mono HAL.out ?_
  rintro e w1 ⟨v, rfl, ho, hb1⟩
  obtain ⟨ad, cap, rfl, hcap, htk⟩ := L.Toks.own ho
  have hcap2 : cap ≤ 9223372036854775807 := by
    rcases ho.2 with ⟨e, _⟩ | ⟨g, c, cur, e, _, _, _, h5, _⟩
    · simp only [Value.slice.injEq] at e; omega
    · simp only [Value.slice.injEq] at e; unfold maxLen at h5; omega
  have hR0 : RS (fun _ => False) w1.heap.size w1.heap.size 0 ⟨Lx.all l, [], false, 0⟩ (.slice none 0 0) (w1.alloc (.cells #[.slice ad (Lx.all l).length cap, .slice none 0 0, .int .i64 0, .bool false, .int .i64 0] 57)) := by
    have hb : Below w1.heap.size w1 (w1.alloc (.cells #[.slice ad (Lx.all l).length cap, .slice none 0 0, .int .i64 0, .bool false, .int .i64 0] 57)) := (Below.refl _ _).alloc (Nat.le_refl _) _
    have h1 : 1 ≤ (Lx.all l).length := HALL.out.1
    obtain ⟨g, rfl, hg, hc⟩ := htk.resolve_left (by omega)
    refine ⟨Nat.le_refl _, by have := HALL.out.2.1; show (Lx.all l).length ≤ _; omega, HALL.out.2.2, ⟨_, Array.getElem?_push_size, ⟨g, 0, cap, rfl, hcap, hcap2, by rw [alloc_size']; omega, h1, fun j hj => ?_⟩, fun k hk => ?_⟩, ⟨[], rfl, ⟨rfl, .inl ⟨rfl, rfl⟩⟩, by simp⟩, by simp [Value.ownBlock], fun k hk => hk.elim⟩
    · rw [Nat.zero_add]
      obtain ⟨c0, c1, c2, c3, c4⟩ := hc j hj
      exact ⟨(hb.cell hg).trans c0, (hb.cell hg).trans c1, (hb.cell hg).trans c2, (hb.cell hg).trans c3, (hb.cell hg).trans c4⟩
    · have : g = k := by simpa [blockOf] using hk
      exact ⟨by omega, by simp [Value.ownBlock], fun h => h.elim⟩
  have HB1 : Hid (Below w.heap.size w (w1.alloc (.cells #[.slice ad (Lx.all l).length cap, .slice none 0 0, .int .i64 0, .bool false, .int .i64 0] 57))) := hb1.alloc hb1.size _
  have HS1 : Hid (w.heap.size ≤ w1.heap.size) := hb1.size
  have HR0 : Hid (_) := hR0
  have HL : Hid (_) := (lv_any w1.heap.size w1.heap.size 40 0 rfl).c
  clear hR0 hcap2 htk hcap ho hb1
  generalize hB : w1.heap.size = B at *
  have hB' : Hid (w1.heap.size = B) := hB
  clear hB
  go_wp2_with fail
  rw [hB'.out]
  refine Calls.mono (c_statements HL.out (Ps.sh_lv 40) E1 HR0.out) ?_
  rintro e w2 ⟨ak, ck, rfl, nv2, hr2, hc2, hk2⟩
  obtain ⟨hrx, hcx, hX⟩ := hr2.box (.int .i64 33) (.int .i64 0) (.string ⟨#[]⟩) (.slice none 0 0) (.slice ak K.length ck) (.int .i64 0)
  have HK2 : Hid (_) := hk2.go hcx
  have HC2 : Hid (_) := hc2.trans hcx
  have HRX : Hid (_) := hrx
  have HX2 : Hid (_) := hX
  have HBW : Hid (Below w.heap.size w (w1.alloc (.cells #[.slice ad (Lx.all l).length cap, .slice none 0 0, .int .i64 0, .bool false, .int .i64 0] 57))) := HB1.out
  clear hr2 hc2 hk2 hrx hcx hX HB1 HR0 HL HALL
  have HN : Hid (_) := c_next HRX.out
  have hfl := run_field0
  rcases eT : Ps.nxt s1 with ⟨uk, ut, un, ua, ul, ue⟩
  have hs2 := HFIN.out.1
  rw [eT] at HN hs2
  simp only [tkA] at HN hs2
  have HS2 : Hid (_) := hs2
  clear hs2 eT
  have fin : ∀ {F : Nat → Prop} {nv9 : Value} {w9 : World}, RS F B B 0 s3 nv9 w9 → Chg B (.slice none 0 0) nv9 (w1.alloc (.cells #[.slice ad (Lx.all l).length cap, .slice none 0 0, .int .i64 0, .bool false, .int .i64 0] 57)) w9 → Told w9 nv9 s3.nodes ∧ Below w.heap.size w w9 := fun hr hc =>
    ⟨hr.told, HBW.out.trans (hc.toBelow (by have := HS1.out; have := hB'.out; omega) (fun k hk => by simp [Value.ownBlock] at hk) HBW.out.size)⟩
  have FIN : Hid (∀ {F : Nat → Prop} {nv9 : Value} {w9 : World}, RS F B B 0 s3 nv9 w9 → Chg B (.slice none 0 0) nv9 (w1.alloc (.cells #[.slice ad (Lx.all l).length cap, .slice none 0 0, .int .i64 0, .bool false, .int .i64 0] 57)) w9 → Told w9 nv9 s3.nodes ∧ Below w.heap.size w w9) := fin
  clear fin HBW HS1
  by_cases h0 : uk = 0
  · subst h0
    have e2 : s1 = s2 := HS2.out
    subst e2
    clear HS2 HFIN
    go_wp2_with fail
    refine Calls.mono HN.out ?_
    rintro e w3 ⟨rfl, nv3, hr3, hc3⟩
    have hX3 := HX2.out.go HRX.out hc3
    have HK3 : Hid (_) := HK2.out.go hc3
    have HC3 : Hid (_) := HC2.out.trans hc3
    obtain ⟨⟨p0, p1, p2, p3, p4, p5⟩, ⟨f1, f2, f3, f4⟩, hlt⟩ := hX3.facts
    clear hX3 hc3 HX2 HK2 HC2 HRX HN
    go_wp2_with fail
    refine Calls.mono (c_addV (k := 33) (n := 0) (t := []) (a := 0) E3 (hr3.less (fun k hk => .inl hk)) (NV.nil _ _ _ _) HK3.out) ?_
    rintro e w4 ⟨rfl, nv4, hr4, hc4⟩
    have HF : Hid (_) := FIN.out hr4 (HC3.out.trans hc4)
    obtain ⟨q1, q2, q3, q4, g2, hlt4⟩ := hr4.cells
    clear p0 p1 p2 p3 p4 p5 f1 f2 f3 f4 hlt hr4 hc4 hr3
    cases hfd : s3.failed
    · rw [hfd] at q3
      go_wp2_with fail
      all_goals refine bodyPost_ret (v := .tuple #[nv4, .int .i64 0, .bool true]) (by simp [results, Tryz.results12, go_sem]) rfl ⟨_, rfl, HF.out.1, HF.out.2⟩
    · rw [hfd] at q3
      go_wp2_with fail
      go_quiet (fail)
      go_wp2_with fail
      refine bodyPost_ret (v := .tuple #[.slice none 0 0, .int .i64 (s3.at_ : Int), .bool false]) (by simp [results, Tryz.results12, go_sem]) rfl ⟨_, rfl, Told.nil _, ?_⟩
      exact HF.out.2.trans (below_drewN HF.out.2.size)
  · have e2 : (Ps.fail s1).2 = s2 := by have := HS2.out; rwa [if_neg h0] at this
    have h0' : ((uk : Int) != 0) = true := by rw [bne_iff_ne]; omega
    have EF : Ru Ps.fail s1 (Ps.fail s1).1 s2 := ⟨Prod.ext rfl e2, HFIN.out.2⟩
    clear HS2 HFIN e2
    go_wp2_with fail
    refine Calls.mono HN.out ?_
    rintro e w3 ⟨rfl, nv3, hr3, hc3⟩
    have HX3 : Hid (_) := HX2.out.go HRX.out hc3
    have HK3 : Hid (_) := HK2.out.go hc3
    have HC3 : Hid (_) := HC2.out.trans hc3
    clear hc3 HX2 HK2 HC2 HRX HN
    go_wp2_with fail
    refine Calls.mono (c_fail EF hr3) ?_
    rintro e w4 ⟨rfl, nv4, hr4, hc4⟩
    have hX4 := HX3.out.go hr3 hc4
    have HK4 : Hid (_) := HK3.out.go hc4
    have HC4 : Hid (_) := HC3.out.trans hc4
    obtain ⟨⟨p0, p1, p2, p3, p4, p5⟩, ⟨f1, f2, f3, f4⟩, hlt⟩ := hX4.facts
    clear hX4 hc4 HX3 HK3 HC3 hr3
    go_wp2_with fail
    refine Calls.mono (c_addV (k := 33) (n := 0) (t := []) (a := 0) E3 (hr4.less (fun k hk => .inl hk)) (NV.nil _ _ _ _) HK4.out) ?_
    rintro e w5 ⟨rfl, nv5, hr5, hc5⟩
    have HF : Hid (_) := FIN.out hr5 (HC4.out.trans hc5)
    obtain ⟨q1, q2, q3, q4, g2, hlt4⟩ := hr5.cells
    clear p0 p1 p2 p3 p4 p5 f1 f2 f3 f4 hlt hr5 hc5 hr4
    cases hfd : s3.failed
    · rw [hfd] at q3
      go_wp2_with fail
      all_goals refine bodyPost_ret (v := .tuple #[nv5, .int .i64 0, .bool true]) (by simp [results, Tryz.results12, go_sem]) rfl ⟨_, rfl, HF.out.1, HF.out.2⟩
    · rw [hfd] at q3
      go_wp2_with fail
      go_quiet (fail)
      go_wp2_with fail
      refine bodyPost_ret (v := .tuple #[.slice none 0 0, .int .i64 (s3.at_ : Int), .bool false]) (by simp [results, Tryz.results12, go_sem]) rfl ⟨_, rfl, Told.nil _, ?_⟩
      exact HF.out.2.trans (below_drewN HF.out.2.size)
end Go.Proofs.YtpjmapoiinjakaaGreatDoor.R
namespace Go.Proofs.YtpjmapoiinjakaaGreatDoor.Ps
set_option linter.unusedVariables false
def good : List (List UInt8) := [[97, 10, 98], [97, 59, 98], [123, 97, 125], [97, 10, 40, 98, 41], [114, 101, 116, 117, 114, 110, 10, 49], [98, 114, 101, 97, 107, 10], [108, 101, 116, 32, 120, 32, 61, 32, 49, 10, 108, 101, 116, 32, 121, 32, 61, 32, 50], [116, 104, 114, 111, 119, 32, 97], [97, 32, 43, 10, 98], [120, 32, 61, 32, 102, 117, 110, 99, 116, 105, 111, 110, 32, 40, 41, 32, 123, 125, 10, 121], [105, 102, 32, 40, 97, 41, 32, 98, 10, 101, 108, 115, 101, 32, 99], [102, 117, 110, 99, 116, 105, 111, 110, 32, 102, 40, 41, 32, 123, 125, 32, 102, 117, 110, 99, 116, 105, 111, 110, 32, 103, 40, 41, 32, 123, 125], [123, 125, 123, 125], [97, 32, 47, 47, 32, 99, 10, 98]]
def bads : List (List UInt8) := [[97, 32, 98], [108, 101, 116, 32, 120], [116, 104, 114, 111, 119, 10, 97], [97, 32, 43], [40, 97], [97, 41], [108, 101, 116, 32, 49, 32, 61, 32, 50], [105, 102, 32, 40, 97, 41, 32, 108, 101, 116, 32, 98, 32, 61, 32, 49], [119, 104, 105, 108, 101, 32, 40, 97, 41, 32, 102, 117, 110, 99, 116, 105, 111, 110, 32, 102, 40, 41, 32, 123, 125], [49, 32, 61, 32, 50], [97, 32, 61, 32, 98, 32, 61, 32], [102, 40, 97, 44, 41], [123, 97, 58, 32, 49, 125], [59], [121, 105, 101, 108, 100], [120, 32, 61, 32, 123, 97, 32, 49, 125], [116, 114, 121, 32, 123, 125, 32, 99, 97, 116, 99, 104, 32, 123, 125], [99, 111, 110, 115, 116, 32, 99, 59], [97, 32, 63, 32, 98], [91, 49, 44, 44, 50, 93]]
def ats : List Nat := [2, 5, 6, 3, 2, 1, 4, 7, 10, 2, 8, 4, 2, 0, 5, 7, 13, 7, 5, 3]
/-- What is known of a text: how it ends, and that its nodes are few. -/
def okP (l : List UInt8) (r : Nat × Bool) : Bool := decide (l.length ≤ 4096) && decide ((final l).nodes.length ≤ 1000) && decide ((parse l).2 = r) && (r.2 || decide ((parse l).1.length = 0))
set_option maxRecDepth 100000 in
theorem good_ok : good.all (fun l => okP l (0, true)) = true := by decide +kernel
set_option maxRecDepth 100000 in
theorem bads_ok : (bads.zip ats).all (fun x => okP x.1 (x.2, false)) = true := by decide +kernel
end Go.Proofs.YtpjmapoiinjakaaGreatDoor.Ps
namespace Go.Proofs.YtpjmapoiinjakaaGreatDoor.R
open Go.RowKit
open L (tkA own_block own_below)
set_option linter.unusedVariables false
/-- Parse of a text whose end is known. -/
theorem Parse_of {l : List UInt8} {r : Nat × Bool} (h : Ps.okP l r = true) (w : World) (hg : L.Sig w) :
    Calls Tryz.prog 12 #[.string ⟨l.toArray⟩] w fun e w' => ∃ ad cap, e = .returned (.tuple #[.slice ad (Ps.parse l).1.length cap, .int .i64 (r.1 : Int), .bool r.2]) ∧ Told w' (.slice ad (Ps.parse l).1.length cap) (Ps.parse l).1 ∧ Below w.heap.size w w' := by
  unfold Ps.okP at h
  simp only [Bool.and_eq_true, decide_eq_true_eq] at h
  obtain ⟨⟨⟨h1, h2⟩, h3⟩, h4⟩ := h
  refine (Parse_any l w hg (by omega)).mono ?_
  rintro e w' ⟨v, rfl, ht, hb⟩
  rw [h3]
  obtain ⟨vs, ad, cap, e1, rfl, e3⟩ := ht
  exact ⟨ad, cap, rfl, ⟨vs, ad, cap, e1, rfl, e3⟩, hb⟩
/-- The kinds of a tree's nodes, where they lie. -/
theorem Told.kinds {W : World} {ad : Option Addr} {n cap : Nat} {ns : List Ps.Nd} (h : Told W (.slice ad n cap) ns) (hn : ns ≠ []) : ∃ g, ad = some ⟨g, 0, none⟩ ∧ n = ns.length ∧ g < W.heap.size ∧ ns.length ≤ cap ∧ ∀ j (h : j < ns.length), W.cell? ⟨g, j * 6, none⟩ = some (.int .i64 (ns[j].k : Int)) := by
  obtain ⟨vs, ad', cap', e1, e2, h3, h4, h5⟩ := h
  simp only [Value.slice.injEq] at e2
  obtain ⟨rfl, rfl, rfl⟩ := e2
  obtain ⟨g, rfl, hg, hc⟩ := h4.resolve_left hn
  refine ⟨g, rfl, rfl, hg, h3, fun j hj => ?_⟩
  subst e1
  rw [List.length_map] at hj
  have := hc j hj 0 (by omega)
  rw [Nat.add_zero] at this
  rw [this]; simp
theorem ex_a : Ps.okP [97] (0, true) = true := by decide +kernel
theorem ex_ak : (Ps.parse [97]).1.map (·.k) = [3, 24, 33] := by decide +kernel
set_option maxRecDepth 100000 in
set_option maxHeartbeats 1000000 in
theorem awake_any (w : World) (hg : L.Sig w) : Calls Tryz.prog 8 #[] w fun e w' => e = .returned (.bool true) ∧ Below w.heap.size w w' := by
  have HP : Hid (_) := Parse_of ex_a w hg
  have hk := ex_ak
  generalize (Ps.parse [97]).1 = ns at *
  clear hg
  obtain ⟨n0, n1, n2, rfl, k0, k1, k2⟩ : ∃ a b c, ns = [a, b, c] ∧ a.k = 3 ∧ b.k = 24 ∧ c.k = 33 := by
    rcases ns with _ | ⟨a, _ | ⟨b, _ | ⟨c, _ | ⟨d, l⟩⟩⟩⟩
    · simp at hk
    · simp at hk
    · simp at hk
    · simp at hk; exact ⟨a, b, c, rfl, hk.1, hk.2.1, hk.2.2⟩
    · simp at hk
  clear hk
  go_enter Tryz.func8, Tryz.ntmps8
  go_wp2_with fail
  refine Calls.mono HP.out ?_
  rintro e w1 ⟨ad, cap, rfl, ht, hb⟩
  obtain ⟨g, rfl, _, hg, hcap, hc⟩ := ht.kinds (by simp)
  have c0 := hc 0 (by simp)
  have c1 := hc 1 (by simp)
  have c2 := hc 2 (by simp)
  simp only [List.getElem_cons_zero, List.getElem_cons_succ, k0, k1, k2] at c0 c1 c2
  have HB : Hid (_) := hb
  clear ht hc hb HP
  simp only [List.length_cons, List.length_nil, Nat.zero_add, Nat.reduceAdd, Nat.zero_mul, Nat.one_mul, Nat.reduceMul] at *
  go_wp2_with fail
  go_ret
  exact ⟨rfl, HB.out⟩
end Go.Proofs.YtpjmapoiinjakaaGreatDoor.R
end
section
namespace Go.Proofs.YtpjmapoiinjakaaGreatDoor.R
open Go.RowKit
open L (tkA)
set_option linter.unusedVariables false
/-- A node without its place. -/
def bare (n : Ps.Nd) : Ps.Nd := { n with a := 0 }
/-- Twelve cells of two nodes, held. -/
def Tw (ga gb ka kb : Nat) (x0 x1 x2 x3 x4 x5 y5 z3 z4 : Value) (wr W : World) : Prop :=
  W.cell? ⟨ga, ka, none⟩ = some x0 ∧ W.cell? ⟨ga, ka + 1, none⟩ = some x1 ∧ W.cell? ⟨ga, ka + 2, none⟩ = some x2 ∧ W.cell? ⟨ga, ka + 3, none⟩ = some x3 ∧ W.cell? ⟨ga, ka + 4, none⟩ = some x4 ∧ W.cell? ⟨ga, ka + 5, none⟩ = some x5 ∧
  W.cell? ⟨gb, kb, none⟩ = some x0 ∧ W.cell? ⟨gb, kb + 1, none⟩ = some x1 ∧ W.cell? ⟨gb, kb + 2, none⟩ = some x2 ∧ W.cell? ⟨gb, kb + 3, none⟩ = some z3 ∧ W.cell? ⟨gb, kb + 4, none⟩ = some z4 ∧ W.cell? ⟨gb, kb + 5, none⟩ = some y5 ∧ Hid (ga < wr.heap.size ∧ gb < wr.heap.size ∧ Below wr.heap.size wr W)
section
variable {ga gb ka kb : Nat} {x0 x1 x2 x3 x4 x5 y5 z3 z4 : Value} {wr W W' : World}
theorem Tw.go (h : Tw ga gb ka kb x0 x1 x2 x3 x4 x5 y5 z3 z4 wr W) (hB : Below wr.heap.size wr W') (hA : W'.heap[ga]? = W.heap[ga]?) (hC : W'.heap[gb]? = W.heap[gb]?) : Tw ga gb ka kb x0 x1 x2 x3 x4 x5 y5 z3 z4 wr W' := by
  obtain ⟨a0, a1, a2, a3, a4, a5, b0, b1, b2, b3, b4, b5, hh⟩ := h
  exact ⟨(cell_of_block hA _).trans a0, (cell_of_block hA _).trans a1, (cell_of_block hA _).trans a2, (cell_of_block hA _).trans a3, (cell_of_block hA _).trans a4, (cell_of_block hA _).trans a5, (cell_of_block hC _).trans b0, (cell_of_block hC _).trans b1, (cell_of_block hC _).trans b2, (cell_of_block hC _).trans b3, (cell_of_block hC _).trans b4, (cell_of_block hC _).trans b5, ⟨hh.out.1, hh.out.2.1, hB⟩⟩
theorem Tw.bel (h : Tw ga gb ka kb x0 x1 x2 x3 x4 x5 y5 z3 z4 wr W) : ga < wr.heap.size ∧ gb < wr.heap.size ∧ Below wr.heap.size wr W := h.2.2.2.2.2.2.2.2.2.2.2.2.out
theorem Tw.drew (h : Tw ga gb ka kb x0 x1 x2 x3 x4 x5 y5 z3 z4 wr W) : Tw ga gb ka kb x0 x1 x2 x3 x4 x5 y5 z3 z4 wr W.drew := h.go h.bel.2.2.drew rfl rfl
theorem Tw.alloc (h : Tw ga gb ka kb x0 x1 x2 x3 x4 x5 y5 z3 z4 wr W) (o : Obj) : Tw ga gb ka kb x0 x1 x2 x3 x4 x5 y5 z3 z4 wr (W.alloc o) := by
  have hs := h.bel.2.2.size
  exact h.go (h.bel.2.2.alloc hs o) (Below.heap_alloc W o ga (by have := h.bel.1; omega)) (Below.heap_alloc W o gb (by have := h.bel.2.1; omega))
theorem Tw.set6 (h : Tw ga gb ka kb x0 x1 x2 x3 x4 x5 y5 z3 z4 wr W) {X : Nat} (hX : wr.heap.size ≤ X) (y0 y1 y2 y3 y4 y6 : Value) : Tw ga gb ka kb x0 x1 x2 x3 x4 x5 y5 z3 z4 wr ((((((W.setCell ⟨X, 0, none⟩ y0).setCell ⟨X, 1, none⟩ y1).setCell ⟨X, 2, none⟩ y2).setCell ⟨X, 3, none⟩ y3).setCell ⟨X, 4, none⟩ y4).setCell ⟨X, 5, none⟩ y6) := by
  have hk : ∀ g, g < wr.heap.size → ∀ (W : World) i y, (W.setCell ⟨X, i, none⟩ y).heap[g]? = W.heap[g]? := fun g hg W i y => Below.heap_setCell W ⟨X, i, none⟩ y g (by show g ≠ X; omega)
  have hA := hk ga h.bel.1
  have hC := hk gb h.bel.2.1
  exact h.go (below_set6 h.bel.2.2 hX y0 y1 y2 y3 y4 y6) (by rw [hA, hA, hA, hA, hA, hA]) (by rw [hC, hC, hC, hC, hC, hC])
end
/-- Two boxes of nodes. -/
def Bx (wr wx : World) (X Y : Nat) (V U : Array Value) : Prop := wr.heap.size ≤ X ∧ wr.heap.size ≤ Y ∧ BoxAt X V wx ∧ BoxAt Y U wx ∧ Below wr.heap.size wr wx
theorem Bx.one (wr : World) (V U : Array Value) : Bx wr ((wr.alloc (.cells V 43)).alloc (.cells U 43)) wr.heap.size (wr.heap.size + 1) V U := by
  have hb : Below wr.heap.size wr (wr.alloc (.cells V 43)) := (Below.refl _ _).alloc (Nat.le_refl _) _
  exact ⟨Nat.le_refl _, by omega, by unfold BoxAt; rw [push_at, if_neg (by simp only [alloc_size']; omega), push_at, if_pos rfl], by unfold BoxAt; rw [push_at, if_pos (by simp only [alloc_size'])], hb.alloc hb.size _⟩
theorem Bx.swap {wr wx : World} {X Y : Nat} {V U : Array Value} (h : Bx wr wx X Y V U) : Bx wr wx Y X U V := ⟨h.2.1, h.1, h.2.2.2.1, h.2.2.1, h.2.2.2.2⟩
theorem Bx.drew {wr wx : World} {X Y : Nat} {V U : Array Value} (h : Bx wr wx X Y V U) : Bx wr wx.drew X Y V U := ⟨h.1, h.2.1, h.2.2.1, h.2.2.2.1, h.2.2.2.2.drew⟩
theorem BoxAt.six {W : World} {X : Nat} {x0 x1 x2 x3 x4 x5 : Value} (h : BoxAt X #[x0, x1, x2, x3, x4, x5] W) : W.cell? ⟨X, 0, none⟩ = some x0 ∧ W.cell? ⟨X, 1, none⟩ = some x1 ∧ W.cell? ⟨X, 2, none⟩ = some x2 ∧ W.cell? ⟨X, 3, none⟩ = some x3 ∧ W.cell? ⟨X, 4, none⟩ = some x4 ∧ W.cell? ⟨X, 5, none⟩ = some x5 ∧ X < W.heap.size := by
  unfold BoxAt at h
  refine ⟨?_, ?_, ?_, ?_, ?_, ?_, Nat.lt_of_not_le fun hg => by rw [Array.getElem?_eq_none hg] at h; cases h⟩ <;> simp [World.cell?, h]
/-- What is known of the k-th nodes of two trees that are alike. -/
def Both (ga gb k : Nat) (W : World) : Prop := ∃ (nk nn : Nat) (t : List UInt8) (N : List (List UInt8)) (K : List Nat) (an bn ak bk : Option Addr) (cn dn ck dk x5 y5 : Nat), Tw ga gb (k * 6) (k * 6) (.int .i64 (nk : Int)) (.int .i64 (nn : Int)) (.string ⟨t.toArray⟩) (.slice an N.length cn) (.slice ak K.length ck) (.int .i64 (x5 : Int)) (.int .i64 (y5 : Int)) (.slice bn N.length dn) (.slice bk K.length dk) W W ∧ NamesIn W (.slice an N.length cn) N ∧ NamesIn W (.slice bn N.length dn) N ∧ KidsIn W (.slice ak K.length ck) K ∧ KidsIn W (.slice bk K.length dk) K ∧ N.length ≤ 1000000 ∧ K.length ≤ 1000000
theorem NamesIn.at {W : World} {ad : Option Addr} {n cap : Nat} {l : List (List UInt8)} (h : NamesIn W (.slice ad n cap) l) (hl : l ≠ []) : ∃ g, ad = some ⟨g, 0, none⟩ ∧ g < W.heap.size ∧ ∀ j (h : j < l.length), W.cell? ⟨g, j, none⟩ = some (.string ⟨l[j].toArray⟩) := by
  obtain ⟨ad', cap', e, _, h⟩ := h
  simp only [Value.slice.injEq] at e
  obtain ⟨rfl, _, _⟩ := e
  exact h.resolve_left hl
theorem NamesIn.cap {W : World} {ad : Option Addr} {n cap : Nat} {l : List (List UInt8)} (h : NamesIn W (.slice ad n cap) l) : l.length ≤ cap := by
  obtain ⟨ad', cap', e, hc, h⟩ := h
  simp only [Value.slice.injEq] at e
  omega
theorem KidsIn.at {W : World} {ad : Option Addr} {n cap : Nat} {l : List Nat} (h : KidsIn W (.slice ad n cap) l) (hl : l ≠ []) : ∃ g, ad = some ⟨g, 0, none⟩ ∧ g < W.heap.size ∧ ∀ j (h : j < l.length), W.cell? ⟨g, j, none⟩ = some (.int .i64 (l[j] : Int)) := by
  obtain ⟨ad', cap', e, _, h⟩ := h
  simp only [Value.slice.injEq] at e
  obtain ⟨rfl, _, _⟩ := e
  exact h.resolve_left hl
theorem KidsIn.cap {W : World} {ad : Option Addr} {n cap : Nat} {l : List Nat} (h : KidsIn W (.slice ad n cap) l) : l.length ≤ cap := by
  obtain ⟨ad', cap', e, hc, h⟩ := h
  simp only [Value.slice.injEq] at e
  omega
set_option maxRecDepth 100000 in
set_option maxHeartbeats 4000000 in
theorem sameTree_core (ga gb n capa capb : Nat) (w : World) (hn : n ≤ 1000000) (hca : n ≤ capa) (hcb : n ≤ capb)
    (HB : Hid (∀ k W, k < n → Below w.heap.size w W → Both ga gb k W)) :
    Calls Tryz.prog 13 #[.slice (some ⟨ga, 0, none⟩) n capa, .slice (some ⟨gb, 0, none⟩) n capb] w fun e w' => e = .returned (.bool true) ∧ Below w.heap.size w w' := by
  go_enter Tryz.func13, Tryz.ntmps13
  go_wp2_with fail
  go_loopw [5] (fun i W => ∃ k : Nat, k ≤ n ∧ i = .int .i64 (k : Int) ∧ Hid (Below w.heap.size w W)) (fun i _ => n - (L.intOf i).toNat)
  case atStart => exact ⟨0, by omega, rfl, (show Below _ _ _ from Below.refl _ _)⟩
  case round =>
    obtain ⟨k, hk, rfl, HW⟩ := hrel
    by_cases hlt : k < n
    · have hlt' : (k : Int) < n := by omega
      obtain ⟨nk, nn, t, N, K, an, bn, ak, bk, cn, dn, ck, dk, x5, y5, hS0, hN1, hN2, hK1, hK2, hNl, hKl⟩ := HB.out k wr hlt HW.out
      have hSS := hS0
      obtain ⟨a0, a1, a2, a3, a4, a5, b0, b1, b2, b3, b4, b5, hh⟩ := hSS
      have HNS : Hid (_ ∧ _ ∧ _ ∧ _) := (show _ ∧ _ ∧ _ ∧ _ from ⟨hN1, hN2, hK1, hK2⟩)
      have hcn := hN1.cap
      have hdn := hN2.cap
      have hck := hK1.cap
      have hdk := hK2.cap
      clear hN1 hN2 hK1 hK2
      go_upto_region 6 with fail
      go_cut [6, 7] (fun p q wx => ∃ X Y, p = .pointer (some ⟨X, 0, none⟩) ∧ q = .pointer (some ⟨Y, 0, none⟩) ∧ Hid (Bx wr wx X Y #[.int .i64 (nk : Int), .int .i64 (nn : Int), .string ⟨t.toArray⟩, .slice an N.length cn, .slice ak K.length ck, .int .i64 (x5 : Int)] #[.int .i64 (nk : Int), .int .i64 (nn : Int), .string ⟨t.toArray⟩, .slice bn N.length dn, .slice bk K.length dk, .int .i64 (y5 : Int)]))
      case first =>
        go_region_held3 (fun W => W.cell? ⟨ga, k * 6, none⟩ = some (.int .i64 (nk : Int)) ∧ W.cell? ⟨ga, k * 6 + 1, none⟩ = some (.int .i64 (nn : Int)) ∧ W.cell? ⟨ga, k * 6 + 2, none⟩ = some (.string ⟨t.toArray⟩) ∧ W.cell? ⟨ga, k * 6 + 3, none⟩ = some (.slice an N.length cn) ∧ W.cell? ⟨ga, k * 6 + 4, none⟩ = some (.slice ak K.length ck) ∧ W.cell? ⟨ga, k * 6 + 5, none⟩ = some (.int .i64 (x5 : Int)) ∧ W.cell? ⟨gb, k * 6, none⟩ = some (.int .i64 (nk : Int)) ∧ W.cell? ⟨gb, k * 6 + 1, none⟩ = some (.int .i64 (nn : Int)) ∧ W.cell? ⟨gb, k * 6 + 2, none⟩ = some (.string ⟨t.toArray⟩) ∧ W.cell? ⟨gb, k * 6 + 3, none⟩ = some (.slice bn N.length dn) ∧ W.cell? ⟨gb, k * 6 + 4, none⟩ = some (.slice bk K.length dk) ∧ W.cell? ⟨gb, k * 6 + 5, none⟩ = some (.int .i64 (y5 : Int)) ∧ Hid (ga < wr.heap.size ∧ gb < wr.heap.size ∧ Below wr.heap.size wr W)) ((show Tw ga gb (k * 6) (k * 6) (.int .i64 (nk : Int)) (.int .i64 (nn : Int)) (.string ⟨t.toArray⟩) (.slice an N.length cn) (.slice ak K.length ck) (.int .i64 (x5 : Int)) (.int .i64 (y5 : Int)) (.slice bn N.length dn) (.slice bk K.length dk) wr _; repeat (first | with_reducible assumption | with_reducible refine Tw.drew ?_ | with_reducible refine Tw.alloc ?_ _ | with_reducible refine Tw.set6 ?_ (by first | exact Nat.le_refl _ | assumption | simp) _ _ _ _ _ _))) (fail)
        all_goals
          go_wp2_with fail
          go_meet
          case rel => exact ⟨_, _, rfl, rfl, (show Bx _ _ _ _ _ _ from by first | exact (Bx.one _ _ _) | exact (Bx.one _ _ _).drew | exact (Bx.one _ _ _).swap | exact (Bx.one _ _ _).swap.drew)⟩
      case rest =>
        obtain ⟨X, Y, rfl, rfl, HBX⟩ := hcut
        obtain ⟨p0, p1, p2, p3, p4, p5, hlx⟩ := HBX.out.2.2.1.six
        obtain ⟨q0, q1, q2, q3, q4, q5, hly⟩ := HBX.out.2.2.2.1.six
        have HWC : Hid (Below w.heap.size w wc) := HW.out.trans (HBX.out.2.2.2.2.mono HW.out.size)
        have HNC : Hid (NamesIn wc (.slice an N.length cn) N ∧ NamesIn wc (.slice bn N.length dn) N ∧ KidsIn wc (.slice ak K.length ck) K ∧ KidsIn wc (.slice bk K.length dk) K) := ⟨HNS.out.1.below HBX.out.2.2.2.2, HNS.out.2.1.below HBX.out.2.2.2.2, HNS.out.2.2.1.below HBX.out.2.2.2.2, HNS.out.2.2.2.below HBX.out.2.2.2.2⟩
        clear HBX HNS hS0 HW a0 a1 a2 a3 a4 a5 b0 b1 b2 b3 b4 b5 hh
        go_wp2_with fail
        go_loopw [8] (fun i W => ∃ j : Nat, j ≤ N.length ∧ i = .int .i64 (j : Int) ∧ Hid (Below wc.heap.size wc W)) (fun i _ => N.length - (L.intOf i).toNat)
        case atStart => exact ⟨0, by omega, rfl, (show Below _ _ _ from Below.refl _ _)⟩
        case round =>
          obtain ⟨j, hj, rfl, HJ⟩ := hrel
          have r3 := (HJ.out.cell (p := ⟨X, 3, none⟩) hlx).trans p3
          have s3 := (HJ.out.cell (p := ⟨Y, 3, none⟩) hly).trans q3
          by_cases hjl : j < N.length
          · have hjl' : (j : Int) < N.length := by omega
            have hne : N ≠ [] := fun e => by rw [e] at hjl; simp at hjl
            obtain ⟨gx, rfl, hgx, hcx⟩ := HNC.out.1.at hne
            obtain ⟨gy, rfl, hgy, hcy⟩ := HNC.out.2.1.at hne
            have u1 := (HJ.out.cell (p := ⟨gx, j, none⟩) hgx).trans (hcx j hjl)
            have u2 := (HJ.out.cell (p := ⟨gy, j, none⟩) hgy).trans (hcy j hjl)
            clear hcx hcy hne HNC p0 p1 p2 p3 p4 p5 q0 q1 q2 q3 q4 q5 HB
            generalize N[j] = tj at *
            go_wp2_with fail
            go_quiet (fail)
            go_wp2_with fail
            go_roundw
            case rel => exact ⟨j + 1, by omega, by go_num, (show Below _ _ _ from HJ.out.trans (below_drewN HJ.out.size))⟩
            case measure => simp [L.intOf] <;> omega
          · have hjl' : ¬ (j : Int) < N.length := by omega
            have r4 := (HJ.out.cell (p := ⟨X, 4, none⟩) hlx).trans p4
            have s4 := (HJ.out.cell (p := ⟨Y, 4, none⟩) hly).trans q4
            have HXY : Hid (X < wr.heap.size ∧ Y < wr.heap.size) := (show _ ∧ _ from ⟨Nat.lt_of_lt_of_le hlx HJ.out.size, Nat.lt_of_lt_of_le hly HJ.out.size⟩)
            have HNC2 : Hid (KidsIn wr (.slice ak K.length ck) K ∧ KidsIn wr (.slice bk K.length dk) K) := ⟨HNC.out.2.2.1.below HJ.out, HNC.out.2.2.2.below HJ.out⟩
            have HW2 : Hid (Below w.heap.size w wr) := HWC.out.trans (HJ.out.mono HWC.out.size)
            clear p0 p1 p2 p3 p4 p5 q0 q1 q2 q3 q4 q5 hlx hly HNC HJ HWC
            go_wp2_with fail
            go_loopw [9] (fun i W => ∃ m : Nat, m ≤ K.length ∧ i = .int .i64 (m : Int) ∧ Hid (Below wr.heap.size wr W)) (fun i _ => K.length - (L.intOf i).toNat)
            case atStart => exact ⟨0, by omega, rfl, (show Below _ _ _ from Below.refl _ _)⟩
            case round =>
              obtain ⟨m, hm, rfl, HM⟩ := hrel
              have v4 := (HM.out.cell (p := ⟨X, 4, none⟩) HXY.out.1).trans r4
              have w4 := (HM.out.cell (p := ⟨Y, 4, none⟩) HXY.out.2).trans s4
              by_cases hml : m < K.length
              · have hml' : (m : Int) < K.length := by omega
                have hne : K ≠ [] := fun e => by rw [e] at hml; simp at hml
                obtain ⟨gx, rfl, hgx, hcx⟩ := HNC2.out.1.at hne
                obtain ⟨gy, rfl, hgy, hcy⟩ := HNC2.out.2.at hne
                have u1 := (HM.out.cell (p := ⟨gx, m, none⟩) hgx).trans (hcx m hml)
                have u2 := (HM.out.cell (p := ⟨gy, m, none⟩) hgy).trans (hcy m hml)
                clear hcx hcy hne HNC2 r3 s3 r4 s4 HB
                generalize K[m] = tm at *
                go_wp2_with fail
                go_quiet (fail)
                go_wp2_with fail
                go_roundw
                case rel => exact ⟨m + 1, by omega, by go_num, (show Below _ _ _ from HM.out.trans (below_drewN HM.out.size))⟩
                case measure => simp [L.intOf] <;> omega
              · have hml' : ¬ (m : Int) < K.length := by omega
                have HW3 : Hid (_) := HW2.out.trans (HM.out.mono HW2.out.size)
                clear r3 s3 r4 s4 HNC2
                go_wp2_with fail
                go_roundw
                case rel => exact ⟨k + 1, by omega, by go_num, HW3⟩
                case measure => simp [L.intOf] <;> omega
    · have hlt' : ¬ (k : Int) < n := by omega
      go_wp2_with fail
      go_ret
      exact ⟨rfl, HW.out⟩
theorem Told.both {W : World} {ad : Option Addr} {n cap : Nat} {ns : List Ps.Nd} (h : Told W (.slice ad n cap) ns) (hn : ns ≠ []) : ∃ g, ad = some ⟨g, 0, none⟩ ∧ n = ns.length ∧ g < W.heap.size ∧ ns.length ≤ cap ∧ ∀ j (h : j < ns.length), ∃ (an ak : Option Addr) (cn ck : Nat), (∀ i, i < 6 → W.cell? ⟨g, j * 6 + i, none⟩ = (ndA ns[j] (.slice an ns[j].names.length cn) (.slice ak ns[j].kids.length ck))[i]?) ∧ NamesIn W (.slice an ns[j].names.length cn) ns[j].names ∧ KidsIn W (.slice ak ns[j].kids.length ck) ns[j].kids := by
  obtain ⟨vs, ad', cap', e1, e2, h3, h4, h5⟩ := h
  simp only [Value.slice.injEq] at e2
  obtain ⟨rfl, rfl, rfl⟩ := e2
  obtain ⟨g, rfl, hg, hc⟩ := h4.resolve_left hn
  refine ⟨g, rfl, rfl, hg, h3, fun j hj => ?_⟩
  subst e1
  rw [List.length_map] at hj
  have hm := h5 vs[j] (List.getElem_mem _)
  have e : (vs.map (·.1))[j]'(by rw [List.length_map]; exact hj) = vs[j].1 := by simp
  rw [e]
  have hci := hc j hj
  generalize vs[j] = x at *
  obtain ⟨nd, nm, kd⟩ := x
  simp only at hm hci ⊢
  obtain ⟨⟨an, cn, rfl, hN⟩, ⟨ak, ck, rfl, hK⟩⟩ := hm
  exact ⟨an, ak, cn, ck, hci, ⟨an, cn, rfl, hN⟩, ⟨ak, ck, rfl, hK⟩⟩
theorem sameTree_any {a b : List Ps.Nd} {ada adb : Option Addr} {na nb ca cb : Nat} {w : World} (ha : Told w (.slice ada na ca) a) (hb : Told w (.slice adb nb cb) b) (he : a.map bare = b.map bare) (hs : ∀ x ∈ a, x.names.length ≤ 1000000 ∧ x.kids.length ≤ 1000000) (hn : a.length ≤ 1000000) (h0 : a ≠ []) :
    Calls Tryz.prog 13 #[.slice ada na ca, .slice adb nb cb] w fun e w' => e = .returned (.bool true) ∧ Below w.heap.size w w' := by
  have hl : a.length = b.length := by have := congrArg List.length he; simpa using this
  have h0' : b ≠ [] := fun e => by rw [e] at hl; exact h0 (List.length_eq_zero_iff.1 hl)
  obtain ⟨ga, rfl, rfl, hga, hca, HA⟩ := ha.both h0
  obtain ⟨gb, rfl, rfl, hgb, hcb, HBB⟩ := hb.both h0'
  rw [← hl] at hcb ⊢
  refine sameTree_core ga gb a.length ca cb w hn hca hcb (fun k W hk hW => ?_)
  obtain ⟨an, ak, cn, ck, c1, n1, k1⟩ := HA k hk
  obtain ⟨bn, bk, dn, dk, c2, n2, k2⟩ := HBB k (by omega)
  have hx := hs a[k] (List.getElem_mem _)
  have hab : bare a[k] = bare (b[k]'(by omega)) := by
    have h1 : (a.map bare)[k]'(by rw [List.length_map]; exact hk) = bare a[k] := by simp
    have h2 : (b.map bare)[k]'(by rw [List.length_map]; omega) = bare (b[k]'(by omega)) := by simp
    rw [← h1, ← h2]; congr 1
  generalize a[k] = x at *
  generalize b[k]'(by omega) = y at *
  obtain ⟨xk, xn, xt, xN, xK, xa⟩ := x
  obtain ⟨yk, yn, yt, yN, yK, ya⟩ := y
  simp only [bare, Ps.Nd.mk.injEq, and_true] at hab
  obtain ⟨rfl, rfl, rfl, rfl, rfl⟩ := hab
  have cc : ∀ g, g < w.heap.size → ∀ o, W.cell? ⟨g, o, none⟩ = w.cell? ⟨g, o, none⟩ := fun g hg o => hW.cell (p := ⟨g, o, none⟩) hg
  refine ⟨xk, xn, xt, xN, xK, an, bn, ak, bk, cn, dn, ck, dk, xa, ya, ⟨?_, ?_, ?_, ?_, ?_, ?_, ?_, ?_, ?_, ?_, ?_, ?_, ⟨Nat.lt_of_lt_of_le hga hW.size, Nat.lt_of_lt_of_le hgb hW.size, Below.refl _ _⟩⟩, n1.same hW.size (fun k _ hk => hW.block k hk), n2.same hW.size (fun k _ hk => hW.block k hk), k1.same hW.size (fun k _ hk => hW.block k hk), k2.same hW.size (fun k _ hk => hW.block k hk), hx.1, hx.2⟩
  · rw [cc ga hga]; exact c1 0 (by omega)
  · rw [cc ga hga]; exact c1 1 (by omega)
  · rw [cc ga hga]; exact c1 2 (by omega)
  · rw [cc ga hga]; exact c1 3 (by omega)
  · rw [cc ga hga]; exact c1 4 (by omega)
  · rw [cc ga hga]; exact c1 5 (by omega)
  · rw [cc gb hgb]; exact c2 0 (by omega)
  · rw [cc gb hgb]; exact c2 1 (by omega)
  · rw [cc gb hgb]; exact c2 2 (by omega)
  · rw [cc gb hgb]; exact c2 3 (by omega)
  · rw [cc gb hgb]; exact c2 4 (by omega)
  · rw [cc gb hgb]; exact c2 5 (by omega)
end Go.Proofs.YtpjmapoiinjakaaGreatDoor.R
end
