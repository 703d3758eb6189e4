/-
  No cell of these rows narrows 'for every input' (looked for: loops, veiled, ifaces, maps, wideKeys, modest, calm, conditions, laid).
  DERIVED. THE GIVEN ROWS OF THIS SEAT. 5 by the template 'for every input the law returns true; each argument reads behind the call as it read before'; 0 by the template 'total and deterministic' (their statements: YtkaacmghgobhmaaTotals.lean).
  GIVEN WITH THE SEED: the statements are not yours to turn. If you find one false, say at which input.
  Laid BY PROGRAM, IN A SANDBOX (cutbox-rows.mjs): the forced cells as the released guide's own fill.sh prints them over the translation 9dc62c4cd4093d87… (all of the seat's roots in one cut). By AI agents, Wed Nov 11 2026. No macro, syntax, notation, axiom, sorry.
-/
import Derived.Test.YtkaacmghgobhmaaChecked
import GoSem.Claim
import GoSem.ClaimJoined
import GoSem.ClaimMapViews
import Derived.JoinedTies
import Derived.KernelRfl
namespace Go.Proofs.Ytkaacmghgobhmaa
/- THE CELL 'sum', in the pinned program and in every row, IS THE sha256 OF THE DUMP (.gsa) THAT YtkaacmghgobhmaaProg.lean LOADS. Nothing in Lean hashes anything: it is a label: what it is worth is what the hold of that sum in a sandbox is worth. -/
noncomputable def Try.pinned : Pinned := { name := "ytkaacmghgobhmaa", sum := "9dc62c4cd4093d879e9abafadec77c6331b9cc10b50e5e5f865824725612a61d", checked := Try.checked }
namespace Rows
def none {H : Type} : Left H := { results := [], args := [] }

/-- 'boomeranglaw10.ScopeAll': WHATEVER THE INPUT: true; the input reads as it did. -/
def scopeAllSpec : ChangeSpec := { name := "scopeAll", fn := fun _ => fun
  | [d] => { results := [.lit (.bool true)], args := [d] }
  | _ => none }
def scopeAllRow : OpenClaim := { program := "ytkaacmghgobhmaa", sum := "9dc62c4cd4093d879e9abafadec77c6331b9cc10b50e5e5f865824725612a61d", func := "boomerang/boomeranglaw10.ScopeAll", spec := "scopeAll", recurses := true, apart := false }
def ScopeAllSaid : Prop := scopeAllRow.holds Try.pinned (OpenSpec.ofChange scopeAllSpec)

/-- ITS FALSE NEIGHBOUR: 'it returns false'. Refute it at one input. -/
def scopeAllWrong : ChangeSpec := { name := "scopeAll", fn := fun _ => fun
  | [d] => { results := [.lit (.bool false)], args := [d] }
  | _ => none }
def ScopeAllWrongFalsely : Prop := scopeAllRow.holds Try.pinned (OpenSpec.ofChange scopeAllWrong)

/-- 'boomeranglaw10.ScopeMade': WHATEVER THE INPUT: true; the input reads as it did. -/
def scopeMadeSpec : ChangeSpec := { name := "scopeMade", fn := fun _ => fun
  | [d1, d2, d3] => { results := [.lit (.bool true)], args := [d1, d2, d3] }
  | _ => none }
def scopeMadeRow : OpenClaim := { program := "ytkaacmghgobhmaa", sum := "9dc62c4cd4093d879e9abafadec77c6331b9cc10b50e5e5f865824725612a61d", func := "boomerang/boomeranglaw10.ScopeMade", spec := "scopeMade", recurses := true, apart := false }
def ScopeMadeSaid : Prop := scopeMadeRow.holds Try.pinned (OpenSpec.ofChange scopeMadeSpec)

/-- ITS FALSE NEIGHBOUR: 'it returns false'. Refute it at one input. -/
def scopeMadeWrong : ChangeSpec := { name := "scopeMade", fn := fun _ => fun
  | [d1, d2, d3] => { results := [.lit (.bool false)], args := [d1, d2, d3] }
  | _ => none }
def ScopeMadeWrongFalsely : Prop := scopeMadeRow.holds Try.pinned (OpenSpec.ofChange scopeMadeWrong)

/-- 'boomeranglaw10.ScopeNests': WHATEVER THE INPUT: true; the input reads as it did. -/
def scopeNestsSpec : ChangeSpec := { name := "scopeNests", fn := fun _ => fun
  | [d1, d2] => { results := [.lit (.bool true)], args := [d1, d2] }
  | _ => none }
def scopeNestsRow : OpenClaim := { program := "ytkaacmghgobhmaa", sum := "9dc62c4cd4093d879e9abafadec77c6331b9cc10b50e5e5f865824725612a61d", func := "boomerang/boomeranglaw10.ScopeNests", spec := "scopeNests", recurses := true, apart := false }
def ScopeNestsSaid : Prop := scopeNestsRow.holds Try.pinned (OpenSpec.ofChange scopeNestsSpec)

/-- ITS FALSE NEIGHBOUR: 'it returns false'. Refute it at one input. -/
def scopeNestsWrong : ChangeSpec := { name := "scopeNests", fn := fun _ => fun
  | [d1, d2] => { results := [.lit (.bool false)], args := [d1, d2] }
  | _ => none }
def ScopeNestsWrongFalsely : Prop := scopeNestsRow.holds Try.pinned (OpenSpec.ofChange scopeNestsWrong)

/-- 'boomeranglaw10.ScopeForms': WHATEVER THE INPUT: true; the input reads as it did. -/
def scopeFormsSpec : ChangeSpec := { name := "scopeForms", fn := fun _ => fun
  | [d] => { results := [.lit (.bool true)], args := [d] }
  | _ => none }
def scopeFormsRow : OpenClaim := { program := "ytkaacmghgobhmaa", sum := "9dc62c4cd4093d879e9abafadec77c6331b9cc10b50e5e5f865824725612a61d", func := "boomerang/boomeranglaw10.ScopeForms", spec := "scopeForms", recurses := true, apart := false }
def ScopeFormsSaid : Prop := scopeFormsRow.holds Try.pinned (OpenSpec.ofChange scopeFormsSpec)

/-- ITS FALSE NEIGHBOUR: 'it returns false'. Refute it at one input. -/
def scopeFormsWrong : ChangeSpec := { name := "scopeForms", fn := fun _ => fun
  | [d] => { results := [.lit (.bool false)], args := [d] }
  | _ => none }
def ScopeFormsWrongFalsely : Prop := scopeFormsRow.holds Try.pinned (OpenSpec.ofChange scopeFormsWrong)

/-- 'boomeranglaw10.ScopeFuns': WHATEVER THE INPUT: true; the input reads as it did. -/
def scopeFunsSpec : ChangeSpec := { name := "scopeFuns", fn := fun _ => fun
  | [d1, d2] => { results := [.lit (.bool true)], args := [d1, d2] }
  | _ => none }
def scopeFunsRow : OpenClaim := { program := "ytkaacmghgobhmaa", sum := "9dc62c4cd4093d879e9abafadec77c6331b9cc10b50e5e5f865824725612a61d", func := "boomerang/boomeranglaw10.ScopeFuns", spec := "scopeFuns", recurses := true, apart := false }
def ScopeFunsSaid : Prop := scopeFunsRow.holds Try.pinned (OpenSpec.ofChange scopeFunsSpec)

/-- ITS FALSE NEIGHBOUR: 'it returns false'. Refute it at one input. -/
def scopeFunsWrong : ChangeSpec := { name := "scopeFuns", fn := fun _ => fun
  | [d1, d2] => { results := [.lit (.bool false)], args := [d1, d2] }
  | _ => none }
def ScopeFunsWrongFalsely : Prop := scopeFunsRow.holds Try.pinned (OpenSpec.ofChange scopeFunsWrong)

/- THE SECOND FORM. 'bulk': how many values and letters a reading holds, each counted each time it is reached (what is shared counts as often as it is met; a slice's spare places count too). A statement '..UptoSaid' is the law's where the arguments, and the package variables that the reading takes, are together of bulk at most 1048576: NARROWER than '..Said'. Prove '..Said' where nothing that the law and all that it calls make is longer than what came in: it says more and counts as full. Else prove '..UptoSaid'. A law counts once. -/
mutual
def uptoBulk {H : Type} : DataW H → Nat
  | .lit (.string bytes) => bytes.length + 1
  | .lit _ => 1
  | .nil => 1
  | .ptr d => uptoBulk d + 1
  | .slice elems spare => uptoBulkAll elems + uptoBulkAll spare + 1
  | .agg parts => uptoBulkAll parts + 1
  | .iface _ d => uptoBulk d + 1
  | .map entries => uptoBulkEntries entries + 1
  | .held _ => 1
def uptoBulkAll {H : Type} : List (DataW H) → Nat
  | [] => 0
  | d :: r => uptoBulk d + uptoBulkAll r
def uptoBulkEntries {H : Type} : List (Lit × DataW H) → Nat
  | [] => 0
  | x :: r => uptoBulkEntry x + uptoBulkEntries r
def uptoBulkEntry {H : Type} : Lit × DataW H → Nat
  | (.string bytes, d) => bytes.length + uptoBulk d + 1
  | (_, d) => uptoBulk d + 1
 end
def uptoSmall : (H : Type) → List (DataW H) → Bool := fun _ ds => decide (uptoBulkAll ds ≤ 1048576)
def OpenSpec.upto (s : _root_.Go.ChangeSpec) : _root_.Go.OpenSpec := { _root_.Go.OpenSpec.ofChange s with cond := some uptoSmall }

/-- 'boomeranglaw10.ScopeAll', WHERE WHAT IT READS IS OF BULK AT MOST 1048576: true; the input reads as it did. -/
def scopeAllUptoRow : OpenClaim := { program := "ytkaacmghgobhmaa", sum := "9dc62c4cd4093d879e9abafadec77c6331b9cc10b50e5e5f865824725612a61d", func := "boomerang/boomeranglaw10.ScopeAll", spec := "scopeAll", recurses := true, apart := false, narrowed := true }
def ScopeAllUptoSaid : Prop := scopeAllUptoRow.holds Try.pinned (OpenSpec.upto scopeAllSpec)

/-- 'boomeranglaw10.ScopeMade', WHERE WHAT IT READS IS OF BULK AT MOST 1048576: true; the input reads as it did. -/
def scopeMadeUptoRow : OpenClaim := { program := "ytkaacmghgobhmaa", sum := "9dc62c4cd4093d879e9abafadec77c6331b9cc10b50e5e5f865824725612a61d", func := "boomerang/boomeranglaw10.ScopeMade", spec := "scopeMade", recurses := true, apart := false, narrowed := true }
def ScopeMadeUptoSaid : Prop := scopeMadeUptoRow.holds Try.pinned (OpenSpec.upto scopeMadeSpec)

/-- 'boomeranglaw10.ScopeNests', WHERE WHAT IT READS IS OF BULK AT MOST 1048576: true; the input reads as it did. -/
def scopeNestsUptoRow : OpenClaim := { program := "ytkaacmghgobhmaa", sum := "9dc62c4cd4093d879e9abafadec77c6331b9cc10b50e5e5f865824725612a61d", func := "boomerang/boomeranglaw10.ScopeNests", spec := "scopeNests", recurses := true, apart := false, narrowed := true }
def ScopeNestsUptoSaid : Prop := scopeNestsUptoRow.holds Try.pinned (OpenSpec.upto scopeNestsSpec)

/-- 'boomeranglaw10.ScopeForms', WHERE WHAT IT READS IS OF BULK AT MOST 1048576: true; the input reads as it did. -/
def scopeFormsUptoRow : OpenClaim := { program := "ytkaacmghgobhmaa", sum := "9dc62c4cd4093d879e9abafadec77c6331b9cc10b50e5e5f865824725612a61d", func := "boomerang/boomeranglaw10.ScopeForms", spec := "scopeForms", recurses := true, apart := false, narrowed := true }
def ScopeFormsUptoSaid : Prop := scopeFormsUptoRow.holds Try.pinned (OpenSpec.upto scopeFormsSpec)

/-- 'boomeranglaw10.ScopeFuns', WHERE WHAT IT READS IS OF BULK AT MOST 1048576: true; the input reads as it did. -/
def scopeFunsUptoRow : OpenClaim := { program := "ytkaacmghgobhmaa", sum := "9dc62c4cd4093d879e9abafadec77c6331b9cc10b50e5e5f865824725612a61d", func := "boomerang/boomeranglaw10.ScopeFuns", spec := "scopeFuns", recurses := true, apart := false, narrowed := true }
def ScopeFunsUptoSaid : Prop := scopeFunsUptoRow.holds Try.pinned (OpenSpec.upto scopeFunsSpec)

end Rows
end Go.Proofs.Ytkaacmghgobhmaa
