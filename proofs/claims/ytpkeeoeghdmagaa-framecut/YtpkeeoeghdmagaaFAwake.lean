-- PROVED: the statements' own 'awake' of layer 3.
import Derived.Test.YtpkeeoeghdmagaaFAll
namespace Go.Proofs.Ytpkeeoeghdmagaa.F
open Go.RowKit
theorem ret_bool {a b : Bool} (h : a = b) : Ending.returned (.bool a) = .returned (.bool b) := by rw [h]
theorem own_len {w : World} {base n : Nat} {e : TypeId} {v : Value} {xs : List Value} (h : w.ownsRow base e 1 v n xs) : ∃ ao cap, v = .slice ao n cap := by
  obtain ⟨_, h1⟩ := h
  rcases h1 with ⟨rfl, rfl⟩ | ⟨g, cap, cur, h1, _⟩
  · exact ⟨none, 0, rfl⟩
  · exact ⟨_, _, h1⟩
theorem own_some {w : World} {base n : Nat} {e : TypeId} {v : Value} {xs : List Value} (h : w.ownsRow base e 1 v n xs) (hn : 0 < n) : ∃ g cap, v = .slice (some ⟨g, 0, none⟩) n cap ∧ n ≤ cap ∧ base ≤ g ∧ g < w.heap.size ∧ ∀ j u, xs[j]? = some u → w.cell? ⟨g, j, none⟩ = some u := by
  have hl := h.lt
  have hc := fun g hg => h.cells (g := g) hg
  obtain ⟨_, h1⟩ := h
  rcases h1 with ⟨rfl, rfl⟩ | ⟨g, cap, cur, rfl, h2, h3, h4, _⟩
  · omega
  · refine ⟨g, cap, rfl, h4, h2, (hl g rfl).2, fun j u hj => ?_⟩
    have := hc g rfl j u hj
    by_cases h0 : j = 0
    · subst h0; simpa [Addr.add] using this
    · simpa [Addr.add, h0] using this
theorem putE_a : putE [97] = (Fm.put [97], 0) := rfl
theorem all_a : Fm.all (Fm.put [97]) = ([[97]], (Fm.put [97]).length, 0) := by
  have := Fm.all_whole [[97]] (by simp)
  simpa [Fm.puts] using this
theorem mk_list (l : List UInt8) : (⟨l.toArray⟩ : ByteArray).data.toList = l := rfl
set_option maxRecDepth 100000 in
set_option maxHeartbeats 800000 in
theorem awake_any (w : World) : Calls Try.prog 8 #[] w fun e w' => e = .returned (.bool true) ∧ Below w.heap.size w w' := by
  have H0 : Hid (_) := fun W => all_any ⟨#[]⟩ W (by decide)
  rw [show Fm.all (⟨#[]⟩ : ByteArray).data.toList = ([], 0, 0) from rfl] at H0
  have H1 : Hid (_) := fun W => put_any ⟨#[97]⟩ W
  rw [show putE (⟨#[97]⟩ : ByteArray).data.toList = (Fm.put [97], 0) from rfl] at H1
  have hpl := (Fm.put_bounds [97]).2
  have hsz := mk_size (Fm.put [97])
  have H2 : Hid (_) := fun W => all_any ⟨(Fm.put [97]).toArray⟩ W (by rw [hsz]; simp at hpl; omega)
  rw [mk_list, all_a, ← hsz] at H2
  have hw : (⟨(Fm.put [97]).toArray⟩ : ByteArray).size ≤ 20 := by rw [hsz]; simp at hpl; omega
  clear hpl hsz
  simp only [] at H1
  generalize (⟨(Fm.put [97]).toArray⟩ : ByteArray) = T at H1 H2 hw
  go_enter Try.func8, Try.ntmps8
  go_wp2_with fail
  refine Calls.mono (H0.out _) ?_
  rintro e w1 ⟨v, rfl, ho1, hb1⟩
  obtain ⟨ao, cap, rfl⟩ := own_len ho1
  go_wp2_with fail
  refine Calls.mono (H1.out _) ?_
  rintro e w2 ⟨rfl, hb2⟩
  go_wp2_with fail
  refine Calls.mono (H2.out _) ?_
  rintro e w3 ⟨v, rfl, ho3, hb3⟩
  obtain ⟨g, cap3, rfl, hcap, _, hg, hc⟩ := own_some ho3 (by simp)
  have hc0 := hc 0 (.string ⟨#[97]⟩) rfl
  have hBB := hb1.trans ((hb2.trans (hb3.mono hb2.size)).mono hb1.size)
  clear hc ho3 ho1 hb1 hb2 hb3
  go_wp2_with ((go_at_call 13; refine (V.err_any _ _).mono ?_; rintro e w' ⟨rfl, rfl⟩))
  go_ret
  exact ⟨ret_bool (by simp), hBB⟩
end Go.Proofs.Ytpkeeoeghdmagaa.F
