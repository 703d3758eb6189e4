/- Texts: ScNz ScNw. -/
import Derived.Test.YtkaacmghgobhmaaBn19
import Derived.Test.YtkaacmghgobhmaaBn20
import Derived.Test.YtkaacmghgobhmaaBn21
import Derived.Test.YtkaacmghgobhmaaBn22
import Derived.Test.YtkaacmghgobhmaaBn23
import Derived.Test.YtkaacmghgobhmaaBn24
import Derived.Test.YtkaacmghgobhmaaBn25
import Derived.Test.YtkaacmghgobhmaaBn26
import Derived.Test.YtkaacmghgobhmaaBn18
section
namespace Go.Proofs.Ytkaacmghgobhmaa.Sc
theorem nests_of (bs : List Bool) (h : bs.length < 10) : okNest bs = true := by
  have hm := rows_all bs
  have hk : bs.length = 0 ∨ bs.length = 1 ∨ bs.length = 2 ∨ bs.length = 3 ∨ bs.length = 4 ∨ bs.length = 5 ∨ bs.length = 6 ∨ bs.length = 7 ∨ bs.length = 8 ∨ bs.length = 9 := by omega
  rcases hk with e | e | e | e | e | e | e | e | e | e
  · rw [e] at hm; exact List.all_eq_true.1 nests0 bs hm
  · rw [e] at hm; exact List.all_eq_true.1 nests1 bs hm
  · rw [e] at hm; exact List.all_eq_true.1 nests2 bs hm
  · rw [e] at hm; exact List.all_eq_true.1 nests3 bs hm
  · rw [e] at hm; exact List.all_eq_true.1 nests4 bs hm
  · rw [e] at hm; exact List.all_eq_true.1 nests5 bs hm
  · rw [e] at hm; exact List.all_eq_true.1 nests6 bs hm
  · match bs, e with
    | b0 :: b1 :: bs, e =>
      have e' : bs.length = 5 := by simpa using e
      have hr := rows_all bs
      rw [e'] at hr
      cases b0 <;> cases b1
      · exact List.all_eq_true.1 nests7ff bs hr
      · exact List.all_eq_true.1 nests7ft bs hr
      · exact List.all_eq_true.1 nests7tf bs hr
      · exact List.all_eq_true.1 nests7tt bs hr
  · match bs, e with
    | b0 :: b1 :: b2 :: bs, e =>
      have e' : bs.length = 5 := by simpa using e
      have hr := rows_all bs
      rw [e'] at hr
      cases b0 <;> cases b1 <;> cases b2
      · exact List.all_eq_true.1 nests8fff bs hr
      · exact List.all_eq_true.1 nests8fft bs hr
      · exact List.all_eq_true.1 nests8ftf bs hr
      · exact List.all_eq_true.1 nests8ftt bs hr
      · exact List.all_eq_true.1 nests8tff bs hr
      · exact List.all_eq_true.1 nests8tft bs hr
      · exact List.all_eq_true.1 nests8ttf bs hr
      · exact List.all_eq_true.1 nests8ttt bs hr
  · match bs, e with
    | b0 :: b1 :: b2 :: b3 :: b4 :: bs, e =>
      have e' : bs.length = 4 := by simpa using e
      have hr := rows_all bs
      rw [e'] at hr
      cases b0 <;> cases b1 <;> cases b2 <;> cases b3 <;> cases b4
      · exact List.all_eq_true.1 nests9fffff bs hr
      · exact List.all_eq_true.1 nests9fffft bs hr
      · exact List.all_eq_true.1 nests9ffftf bs hr
      · exact List.all_eq_true.1 nests9ffftt bs hr
      · exact List.all_eq_true.1 nests9fftff bs hr
      · exact List.all_eq_true.1 nests9fftft bs hr
      · exact List.all_eq_true.1 nests9ffttf bs hr
      · exact List.all_eq_true.1 nests9ffttt bs hr
      · exact List.all_eq_true.1 nests9ftfff bs hr
      · exact List.all_eq_true.1 nests9ftfft bs hr
      · exact List.all_eq_true.1 nests9ftftf bs hr
      · exact List.all_eq_true.1 nests9ftftt bs hr
      · exact List.all_eq_true.1 nests9fttff bs hr
      · exact List.all_eq_true.1 nests9fttft bs hr
      · exact List.all_eq_true.1 nests9ftttf bs hr
      · exact List.all_eq_true.1 nests9ftttt bs hr
      · exact List.all_eq_true.1 nests9tffff bs hr
      · exact List.all_eq_true.1 nests9tffft bs hr
      · exact List.all_eq_true.1 nests9tfftf bs hr
      · exact List.all_eq_true.1 nests9tfftt bs hr
      · exact List.all_eq_true.1 nests9tftff bs hr
      · exact List.all_eq_true.1 nests9tftft bs hr
      · exact List.all_eq_true.1 nests9tfttf bs hr
      · exact List.all_eq_true.1 nests9tfttt bs hr
      · exact List.all_eq_true.1 nests9ttfff bs hr
      · exact List.all_eq_true.1 nests9ttfft bs hr
      · exact List.all_eq_true.1 nests9ttftf bs hr
      · exact List.all_eq_true.1 nests9ttftt bs hr
      · exact List.all_eq_true.1 nests9tttff bs hr
      · exact List.all_eq_true.1 nests9tttft bs hr
      · exact List.all_eq_true.1 nests9ttttf bs hr
      · exact List.all_eq_true.1 nests9ttttt bs hr
end Go.Proofs.Ytkaacmghgobhmaa.Sc
end
section
namespace Go.Proofs.Ytkaacmghgobhmaa.Rd
open Go.RowKit
set_option linter.unusedVariables false
theorem nest_facts {bs : List Bool} (h : Sc.okNest bs = true) : ∃ l, Rp.rparse (Sc.nestT bs) = (l, 0, true) ∧ Sc.fitB l = true ∧ Sc.allA l (Sc.spot l (Sc.found l)) (((Sc.nearOf 0 bs : Nat) : Int), 0) l.length = true := by
  unfold Sc.okNest at h
  rcases e : Rp.rparse (Sc.nestT bs) with ⟨l, a, ok⟩
  rw [e] at h
  simp only [Bool.and_eq_true, decide_eq_true_eq] at h
  obtain ⟨⟨⟨h1, h2⟩, h3⟩, h4⟩ := h
  subst h1 h2
  exact ⟨l, rfl, h3, h4⟩
theorem scopeNests_walk (a : Int) (ad : Option Addr) (len cap : Nat) (z : List Bool) (w : World) (ha : 0 ≤ a ∧ a ≤ 255) (hz : Ob.IsBools w ad len cap z) : Calls Try.prog 5 #[.int .u8 a, .slice ad len cap] w fun e w' => e = .returned (.bool true) ∧ Below w.heap.size w w' := by
  obtain ⟨k, hm⟩ : ∃ k : Nat, a % 10 = (k : Int) := ⟨(a % 10).toNat, by omega⟩
  have hk : k < 10 := by omega
  obtain ⟨l, e, hf, hv⟩ := nest_facts (Sc.nests_of (Sc.bitsOf z k) (by rw [Sc.bits_len]; exact hk))
  have hfit := fit_of hf
  exact nests_core a ad len cap z k l.length w ha hm hk hz _ rfl l _ rfl hfit.few (fun j hj => ⟨hfit.kinds _ (List.getElem_mem hj), fun h3 ht => Sc.allA_at l.length hv j hj hj h3 ht⟩) (reads_of (by rw [Sc.len_nest, Sc.bits_len]; omega) e hfit.ne) (spots_of hf) (fun W => awake_any W)
end Go.Proofs.Ytkaacmghgobhmaa.Rd
end
