-- PROVED: trace.framed and trace.size by their contracts.
import Derived.Test.YtmjmlccdgdakdaaTGet
import Derived.Test.YtmjmlccdgdakdaaTLies
namespace Go.Proofs.Ytmjmlccdgdakdaa.T
open Go.RowKit
set_option maxRecDepth 100000 in
set_option maxHeartbeats 1000000 in
theorem framed_ok (r : Tm.Rec) (w : World) (hf : Tm.fits r) (ho : Tm.ok r = true) :
    Calls Try.prog 31 #[recV r] w fun e w' => e = .returned (.tuple #[.string ⟨(Fm.put (Tm.put r)).toArray⟩, .int .i64 0]) ∧ Below w.heap.size w w' := by
  have hl := Tm.ok_len ho
  have HP : Hid (_) := fun W => put_ok r W hf ho
  have HF : Hid (_) := fun W => F.put_any ⟨(Tm.put r).toArray⟩ W
  have he : F.putE (Tm.put r) = (Fm.put (Tm.put r), 0) := by unfold F.putE; rw [if_neg (by omega)]
  rw [show (⟨(Tm.put r).toArray⟩ : ByteArray).data.toList = Tm.put r from rfl, he] at HF
  unfold recV at HP ⊢
  clear he hl ho hf
  generalize (⟨(Tm.put r).toArray⟩ : ByteArray) = P at *
  generalize (⟨(Fm.put (Tm.put r)).toArray⟩ : ByteArray) = Z at *
  generalize (⟨r.s.toArray⟩ : ByteArray) = s at *
  generalize r.step = st at *
  generalize r.kind = k at *
  generalize r.n = n at *
  go_enter Try.func31, Try.ntmps31
  go_wp2_with fail
  refine Calls.mono (HP.out _) ?_
  rintro e w1 ⟨rfl, hb1⟩
  go_wp2_with fail
  refine Calls.mono (HF.out _) ?_
  rintro e w2 ⟨rfl, hb2⟩
  go_wp2_with fail
  go_ret2
  exact ⟨rfl, C.below_chain (C.below_chain ((Below.refl w.heap.size w).alloc (Nat.le_refl _) _) hb1) hb2⟩
set_option maxRecDepth 100000 in
set_option maxHeartbeats 1000000 in
theorem framed_no (r : Tm.Rec) (w : World) (hs : r.s.length ≤ maxLen) (ho : Tm.ok r = false) :
    Calls Try.prog 31 #[recV r] w fun e w' => e = .returned (.tuple #[.string ⟨#[]⟩, .int .i64 1]) ∧ Below w.heap.size w w' := by
  have HP : Hid (_) := fun W => put_no r W hs ho
  unfold recV at HP ⊢
  clear ho hs
  generalize (⟨r.s.toArray⟩ : ByteArray) = s at *
  generalize r.step = st at *
  generalize r.kind = k at *
  generalize r.n = n at *
  go_enter Try.func31, Try.ntmps31
  go_wp2_with fail
  refine Calls.mono (HP.out _) ?_
  rintro e w1 ⟨rfl, hb1⟩
  go_wp2_with fail
  go_ret2
  exact ⟨rfl, C.below_chain ((Below.refl w.heap.size w).alloc (Nat.le_refl _) _) hb1⟩
def intOf : Value → Int
  | .int _ n => n
  | _ => 0
theorem puts_snoc (L : List (List UInt8)) (i : Nat) (h : i < L.length) : (Fm.puts (L.take (i + 1))).length = (Fm.puts (L.take i)).length + (Fm.put L[i]).length := Fm.fin_step L i h
theorem puts_le (L : List (List UInt8)) : (∀ t ∈ L, t.length ≤ 4096) → (Fm.puts L).length ≤ 4110 * L.length := by
  induction L with
  | nil => intro _; simp [Fm.puts]
  | cons t L ih =>
    intro h
    have h1 := Fm.put_bounds t
    have h2 := ih (fun x hx => h x (List.mem_cons_of_mem _ hx))
    have h3 := h t (List.mem_cons_self)
    simp [Fm.puts]
    omega
set_option maxRecDepth 100000 in
set_option maxHeartbeats 1000000 in
theorem size_any (L : List (List UInt8)) (ad : Option Addr) (cap : Nat) (w : World) (hL : L.length ≤ 1000000) (h4 : ∀ t ∈ L, t.length ≤ 4096) (hl : Lies w ad L) :
    Calls Try.prog 36 #[.slice ad L.length cap] w fun e w' => e = .returned (.int .i64 ((Fm.puts L).length : Int)) ∧ Below w.heap.size w w' := by
  have HL : Hid (_) := hl
  have H4 : Hid (_) := h4
  clear hl h4
  generalize hn : L.length = N at hL ⊢
  have HN : Hid (_) := hn
  clear hn
  go_enter Try.func36, Try.ntmps36
  go_wp2_with fail
  go_loopw [3, 10] (fun a c wr => ∃ i : Nat, i ≤ N ∧ c = .int .i64 (i : Int) ∧ a = .int .i64 ((Fm.puts (L.take i)).length : Int) ∧ Below w.heap.size w wr) (fun _ c _ => N - (intOf c).toNat)
  case atStart => exact ⟨0, by omega, rfl, by simp [Fm.puts], Below.refl _ _⟩
  case round =>
    obtain ⟨i, hi, rfl, rfl, hbel⟩ := hrel
    by_cases hlt : i < N
    · have hiL : i < L.length := by rw [HN.out]; exact hlt
      obtain ⟨b, off, rfl, hb, hc⟩ := HL.out.resolve_left (by omega)
      have hcell := (hbel.cell (p := ⟨b, off + i, none⟩) hb).trans (hc i hiL)
      have HS : Hid (_) := puts_snoc L i hiL
      have hle := H4.out L[i] (List.getElem_mem hiL)
      have HF : Hid (_) := fun W => F.put_any ⟨L[i].toArray⟩ W
      have he : F.putE L[i] = (Fm.put L[i], 0) := by unfold F.putE; rw [if_neg (by omega)]
      rw [show (⟨L[i].toArray⟩ : ByteArray).data.toList = L[i] from rfl, he] at HF
      have hb1 := puts_le (L.take i) (fun t ht => H4.out t (List.mem_of_mem_take ht))
      have hb2 := (Fm.put_bounds L[i]).2
      have hlen : (L.take i).length ≤ i := List.length_take_le _ _
      have hsz := V.size_list ⟨(Fm.put L[i]).toArray⟩
      simp only [] at hsz
      have hlt' : (i : Int) < N := by omega
      have HSZ : Hid (_) := hsz
      generalize hm : (Fm.puts (L.take i)).length = m at *
      generalize hk : (Fm.put L[i]).length = k at *
      generalize (⟨(Fm.put L[i]).toArray⟩ : ByteArray) = Z at *
      generalize (⟨L[i].toArray⟩ : ByteArray) = Y at *
      have hz2 : Z.size ≤ 5000 := by rw [← HSZ.out]; omega
      have hm2 : m ≤ 4110000000 := by omega
      clear he hc hsz hm hk hle hlen hb1 hb2
      go_wp2_with fail
      refine Calls.mono (HF.out _) ?_
      rintro e w1 ⟨rfl, hb1⟩
      go_wp2_with fail
      go_roundw
      case rel => exact ⟨i + 1, by omega, by go_num, by rw [HS.out, HSZ.out]; go_num, C.below_chain hbel hb1⟩
      case measure => simp [intOf]; omega
    · have hlt' : ¬ ((i : Int) < N) := by omega
      have hiN : L.take i = L := List.take_of_length_le (by rw [HN.out]; omega)
      rw [hiN]
      clear hiN HL HN H4
      go_wp2_with fail
      go_ret
      exact ⟨rfl, hbel⟩
end Go.Proofs.Ytmjmlccdgdakdaa.T
