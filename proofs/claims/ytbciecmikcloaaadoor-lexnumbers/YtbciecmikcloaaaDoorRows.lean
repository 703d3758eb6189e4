/-
  NARROWER THAN 'FOR EVERY INPUT', by the rows' own cells (each row's printed sentence says how): LexAll: laid · LexMade: laid · LexRows: laid · LexTexts: laid · LexNumbers: laid · LexBlanks: laid.
  DERIVED. THE GIVEN ROWS OF THIS SEAT. 6 by the template 'for every input the law returns true; each argument reads behind the call as it read before'; 0 by the template 'total and deterministic' (their statements: YtbciecmikcloaaaDoorTotals.lean).
  GIVEN WITH THE SEED: the statements are not yours to turn. If you find one false, say at which input.
  Laid BY PROGRAM, IN A SANDBOX (cutbox-rows.mjs): the forced cells as the released guide's own fill.sh prints them over the translation e98bc7d2ca8d26f1… (all of the seat's roots in one cut). By AI agents, Wed Nov 11 2026. No macro, syntax, notation, axiom, sorry.
-/
import Derived.Test.YtbciecmikcloaaaDoorChecked
import GoSem.Claim
import GoSem.ClaimJoined
import GoSem.ClaimMapViews
import Derived.JoinedTies
import Derived.KernelRfl
namespace Go.Proofs.YtbciecmikcloaaaDoor
/- THE CELL 'sum', in the pinned program and in every row, IS THE sha256 OF THE DUMP (.gsa) THAT YtbciecmikcloaaaDoorProg.lean LOADS. Nothing in Lean hashes anything: it is a label: what it is worth is what the hold of that sum in a sandbox is worth. -/
noncomputable def Tryd.pinned : Pinned := { name := "ytbciecmikcloaaadoor", sum := "e98bc7d2ca8d26f1db01c4b80445bb658452b90d690b06c02c762b8c4d094e27", checked := Tryd.checked }
namespace Rows
def none {H : Type} : Left H := { results := [], args := [] }

/- WHAT THE LISTED PACKAGE-LEVEL VARIABLES READ AS WHEN THE CALL BEGINS. Each datum BY PROGRAM (the guide's laid-datum.mjs) off the statement by which the dump's own 'gosem.cut.vars' lays the variable. In a bare row this is a premise. The card (YtbciecmikcloaaaDoorCards.lean) ties it to the program's text. -/
def laid_boomerang_lex_signs {H : Type} : DataW H := .agg [.lit (.string [123]), .lit (.string [125]), .lit (.string [40]), .lit (.string [41]), .lit (.string [91]), .lit (.string [93]), .lit (.string [59]), .lit (.string [44]), .lit (.string [46]), .lit (.string [63]), .lit (.string [58]), .lit (.string [61]), .lit (.string [61, 61, 61]), .lit (.string [33, 61, 61]), .lit (.string [60]), .lit (.string [60, 61]), .lit (.string [62]), .lit (.string [62, 61]), .lit (.string [43]), .lit (.string [45]), .lit (.string [42]), .lit (.string [47]), .lit (.string [37]), .lit (.string [33]), .lit (.string [38, 38]), .lit (.string [124, 124])]

/-- 'boomeranglaw7.LexAll': WHATEVER THE INPUT: true; the input reads as it did. -/
def lexAllSpec : ChangeSpec := { name := "lexAll", fn := fun _ => fun
  | [d1, d2, d3] => { results := [.lit (.bool true)], args := [d1, d2, d3] }
  | _ => none }
def lexAllRow : OpenClaim := { program := "ytbciecmikcloaaadoor", sum := "e98bc7d2ca8d26f1db01c4b80445bb658452b90d690b06c02c762b8c4d094e27", func := "boomerang/boomeranglaw7.LexAll", spec := "lexAll", inPlace := ["internal/bytealg.IndexByteString", "internal/abi.NoEscape"], unfollowed := true, recurses := true, named := ["boomerang/lex.signs"], apart := false, laid := [("boomerang/lex.signs", laid_boomerang_lex_signs)] }
def LexAllSaid : Prop := lexAllRow.holds Tryd.pinned (OpenSpec.ofChange lexAllSpec)

/-- ITS FALSE NEIGHBOUR: 'it returns false'. Refute it at one input. -/
def lexAllWrong : ChangeSpec := { name := "lexAll", fn := fun _ => fun
  | [d1, d2, d3] => { results := [.lit (.bool false)], args := [d1, d2, d3] }
  | _ => none }
def LexAllWrongFalsely : Prop := lexAllRow.holds Tryd.pinned (OpenSpec.ofChange lexAllWrong)

/-- 'boomeranglaw7.LexMade': WHATEVER THE INPUT: true; the input reads as it did. -/
def lexMadeSpec : ChangeSpec := { name := "lexMade", fn := fun _ => fun
  | [d1, d2] => { results := [.lit (.bool true)], args := [d1, d2] }
  | _ => none }
def lexMadeRow : OpenClaim := { program := "ytbciecmikcloaaadoor", sum := "e98bc7d2ca8d26f1db01c4b80445bb658452b90d690b06c02c762b8c4d094e27", func := "boomerang/boomeranglaw7.LexMade", spec := "lexMade", inPlace := ["internal/bytealg.IndexByteString", "internal/abi.NoEscape"], unfollowed := true, recurses := true, named := ["boomerang/lex.signs"], apart := false, laid := [("boomerang/lex.signs", laid_boomerang_lex_signs)] }
def LexMadeSaid : Prop := lexMadeRow.holds Tryd.pinned (OpenSpec.ofChange lexMadeSpec)

/-- ITS FALSE NEIGHBOUR: 'it returns false'. Refute it at one input. -/
def lexMadeWrong : ChangeSpec := { name := "lexMade", fn := fun _ => fun
  | [d1, d2] => { results := [.lit (.bool false)], args := [d1, d2] }
  | _ => none }
def LexMadeWrongFalsely : Prop := lexMadeRow.holds Tryd.pinned (OpenSpec.ofChange lexMadeWrong)

/-- 'boomeranglaw7.LexRows': WHATEVER THE INPUT: true; the input reads as it did. -/
def lexRowsSpec : ChangeSpec := { name := "lexRows", fn := fun _ => fun
  | [d] => { results := [.lit (.bool true)], args := [d] }
  | _ => none }
def lexRowsRow : OpenClaim := { program := "ytbciecmikcloaaadoor", sum := "e98bc7d2ca8d26f1db01c4b80445bb658452b90d690b06c02c762b8c4d094e27", func := "boomerang/boomeranglaw7.LexRows", spec := "lexRows", inPlace := ["internal/bytealg.IndexByteString", "internal/abi.NoEscape"], unfollowed := true, recurses := true, named := ["boomerang/lex.signs"], apart := false, laid := [("boomerang/lex.signs", laid_boomerang_lex_signs)] }
def LexRowsSaid : Prop := lexRowsRow.holds Tryd.pinned (OpenSpec.ofChange lexRowsSpec)

/-- ITS FALSE NEIGHBOUR: 'it returns false'. Refute it at one input. -/
def lexRowsWrong : ChangeSpec := { name := "lexRows", fn := fun _ => fun
  | [d] => { results := [.lit (.bool false)], args := [d] }
  | _ => none }
def LexRowsWrongFalsely : Prop := lexRowsRow.holds Tryd.pinned (OpenSpec.ofChange lexRowsWrong)

/-- 'boomeranglaw7.LexTexts': WHATEVER THE INPUT: true; the input reads as it did. -/
def lexTextsSpec : ChangeSpec := { name := "lexTexts", fn := fun _ => fun
  | [d1, d2] => { results := [.lit (.bool true)], args := [d1, d2] }
  | _ => none }
def lexTextsRow : OpenClaim := { program := "ytbciecmikcloaaadoor", sum := "e98bc7d2ca8d26f1db01c4b80445bb658452b90d690b06c02c762b8c4d094e27", func := "boomerang/boomeranglaw7.LexTexts", spec := "lexTexts", inPlace := ["internal/bytealg.IndexByteString", "internal/abi.NoEscape"], unfollowed := true, recurses := true, named := ["boomerang/lex.signs"], apart := false, laid := [("boomerang/lex.signs", laid_boomerang_lex_signs)] }
def LexTextsSaid : Prop := lexTextsRow.holds Tryd.pinned (OpenSpec.ofChange lexTextsSpec)

/-- ITS FALSE NEIGHBOUR: 'it returns false'. Refute it at one input. -/
def lexTextsWrong : ChangeSpec := { name := "lexTexts", fn := fun _ => fun
  | [d1, d2] => { results := [.lit (.bool false)], args := [d1, d2] }
  | _ => none }
def LexTextsWrongFalsely : Prop := lexTextsRow.holds Tryd.pinned (OpenSpec.ofChange lexTextsWrong)

/-- 'boomeranglaw7.LexNumbers': WHATEVER THE INPUT: true; the input reads as it did. -/
def lexNumbersSpec : ChangeSpec := { name := "lexNumbers", fn := fun _ => fun
  | [d1, d2] => { results := [.lit (.bool true)], args := [d1, d2] }
  | _ => none }
def lexNumbersRow : OpenClaim := { program := "ytbciecmikcloaaadoor", sum := "e98bc7d2ca8d26f1db01c4b80445bb658452b90d690b06c02c762b8c4d094e27", func := "boomerang/boomeranglaw7.LexNumbers", spec := "lexNumbers", inPlace := ["internal/bytealg.IndexByteString", "internal/abi.NoEscape"], unfollowed := true, recurses := true, named := ["boomerang/lex.signs"], apart := false, laid := [("boomerang/lex.signs", laid_boomerang_lex_signs)] }
def LexNumbersSaid : Prop := lexNumbersRow.holds Tryd.pinned (OpenSpec.ofChange lexNumbersSpec)

/-- ITS FALSE NEIGHBOUR: 'it returns false'. Refute it at one input. -/
def lexNumbersWrong : ChangeSpec := { name := "lexNumbers", fn := fun _ => fun
  | [d1, d2] => { results := [.lit (.bool false)], args := [d1, d2] }
  | _ => none }
def LexNumbersWrongFalsely : Prop := lexNumbersRow.holds Tryd.pinned (OpenSpec.ofChange lexNumbersWrong)

/-- 'boomeranglaw7.LexBlanks': WHATEVER THE INPUT: true; the input reads as it did. -/
def lexBlanksSpec : ChangeSpec := { name := "lexBlanks", fn := fun _ => fun
  | [d1, d2] => { results := [.lit (.bool true)], args := [d1, d2] }
  | _ => none }
def lexBlanksRow : OpenClaim := { program := "ytbciecmikcloaaadoor", sum := "e98bc7d2ca8d26f1db01c4b80445bb658452b90d690b06c02c762b8c4d094e27", func := "boomerang/boomeranglaw7.LexBlanks", spec := "lexBlanks", inPlace := ["internal/bytealg.IndexByteString", "internal/abi.NoEscape"], unfollowed := true, recurses := true, named := ["boomerang/lex.signs"], apart := false, laid := [("boomerang/lex.signs", laid_boomerang_lex_signs)] }
def LexBlanksSaid : Prop := lexBlanksRow.holds Tryd.pinned (OpenSpec.ofChange lexBlanksSpec)

/-- ITS FALSE NEIGHBOUR: 'it returns false'. Refute it at one input. -/
def lexBlanksWrong : ChangeSpec := { name := "lexBlanks", fn := fun _ => fun
  | [d1, d2] => { results := [.lit (.bool false)], args := [d1, d2] }
  | _ => none }
def LexBlanksWrongFalsely : Prop := lexBlanksRow.holds Tryd.pinned (OpenSpec.ofChange lexBlanksWrong)

/- THE SECOND FORM. 'bulk': how many values and letters a reading holds, each counted each time it is reached (what is shared counts as often as it is met; a slice's spare places count too). A statement '..UptoSaid' is the law's where the arguments, and the package variables that the reading takes, are together of bulk at most 1048576: NARROWER than '..Said'. Prove '..Said' where nothing that the law and all that it calls make is longer than what came in: it says more and counts as full. Else prove '..UptoSaid'. A law counts once. -/
mutual
def uptoBulk {H : Type} : DataW H → Nat
  | .lit (.string bytes) => bytes.length + 1
  | .lit _ => 1
  | .nil => 1
  | .ptr d => uptoBulk d + 1
  | .slice elems spare => uptoBulkAll elems + uptoBulkAll spare + 1
  | .agg parts => uptoBulkAll parts + 1
  | .iface _ d => uptoBulk d + 1
  | .map entries => uptoBulkEntries entries + 1
  | .held _ => 1
def uptoBulkAll {H : Type} : List (DataW H) → Nat
  | [] => 0
  | d :: r => uptoBulk d + uptoBulkAll r
def uptoBulkEntries {H : Type} : List (Lit × DataW H) → Nat
  | [] => 0
  | x :: r => uptoBulkEntry x + uptoBulkEntries r
def uptoBulkEntry {H : Type} : Lit × DataW H → Nat
  | (.string bytes, d) => bytes.length + uptoBulk d + 1
  | (_, d) => uptoBulk d + 1
 end
def uptoSmall : (H : Type) → List (DataW H) → Bool := fun _ ds => decide (uptoBulkAll ds ≤ 1048576)
def OpenSpec.upto (s : _root_.Go.ChangeSpec) : _root_.Go.OpenSpec := { _root_.Go.OpenSpec.ofChange s with cond := some uptoSmall }

/-- 'boomeranglaw7.LexAll', WHERE WHAT IT READS IS OF BULK AT MOST 1048576: true; the input reads as it did. -/
def lexAllUptoRow : OpenClaim := { program := "ytbciecmikcloaaadoor", sum := "e98bc7d2ca8d26f1db01c4b80445bb658452b90d690b06c02c762b8c4d094e27", func := "boomerang/boomeranglaw7.LexAll", spec := "lexAll", inPlace := ["internal/bytealg.IndexByteString", "internal/abi.NoEscape"], unfollowed := true, recurses := true, named := ["boomerang/lex.signs"], apart := false, laid := [("boomerang/lex.signs", laid_boomerang_lex_signs)], narrowed := true }
def LexAllUptoSaid : Prop := lexAllUptoRow.holds Tryd.pinned (OpenSpec.upto lexAllSpec)

/-- 'boomeranglaw7.LexMade', WHERE WHAT IT READS IS OF BULK AT MOST 1048576: true; the input reads as it did. -/
def lexMadeUptoRow : OpenClaim := { program := "ytbciecmikcloaaadoor", sum := "e98bc7d2ca8d26f1db01c4b80445bb658452b90d690b06c02c762b8c4d094e27", func := "boomerang/boomeranglaw7.LexMade", spec := "lexMade", inPlace := ["internal/bytealg.IndexByteString", "internal/abi.NoEscape"], unfollowed := true, recurses := true, named := ["boomerang/lex.signs"], apart := false, laid := [("boomerang/lex.signs", laid_boomerang_lex_signs)], narrowed := true }
def LexMadeUptoSaid : Prop := lexMadeUptoRow.holds Tryd.pinned (OpenSpec.upto lexMadeSpec)

/-- 'boomeranglaw7.LexRows', WHERE WHAT IT READS IS OF BULK AT MOST 1048576: true; the input reads as it did. -/
def lexRowsUptoRow : OpenClaim := { program := "ytbciecmikcloaaadoor", sum := "e98bc7d2ca8d26f1db01c4b80445bb658452b90d690b06c02c762b8c4d094e27", func := "boomerang/boomeranglaw7.LexRows", spec := "lexRows", inPlace := ["internal/bytealg.IndexByteString", "internal/abi.NoEscape"], unfollowed := true, recurses := true, named := ["boomerang/lex.signs"], apart := false, laid := [("boomerang/lex.signs", laid_boomerang_lex_signs)], narrowed := true }
def LexRowsUptoSaid : Prop := lexRowsUptoRow.holds Tryd.pinned (OpenSpec.upto lexRowsSpec)

/-- 'boomeranglaw7.LexTexts', WHERE WHAT IT READS IS OF BULK AT MOST 1048576: true; the input reads as it did. -/
def lexTextsUptoRow : OpenClaim := { program := "ytbciecmikcloaaadoor", sum := "e98bc7d2ca8d26f1db01c4b80445bb658452b90d690b06c02c762b8c4d094e27", func := "boomerang/boomeranglaw7.LexTexts", spec := "lexTexts", inPlace := ["internal/bytealg.IndexByteString", "internal/abi.NoEscape"], unfollowed := true, recurses := true, named := ["boomerang/lex.signs"], apart := false, laid := [("boomerang/lex.signs", laid_boomerang_lex_signs)], narrowed := true }
def LexTextsUptoSaid : Prop := lexTextsUptoRow.holds Tryd.pinned (OpenSpec.upto lexTextsSpec)

/-- 'boomeranglaw7.LexNumbers', WHERE WHAT IT READS IS OF BULK AT MOST 1048576: true; the input reads as it did. -/
def lexNumbersUptoRow : OpenClaim := { program := "ytbciecmikcloaaadoor", sum := "e98bc7d2ca8d26f1db01c4b80445bb658452b90d690b06c02c762b8c4d094e27", func := "boomerang/boomeranglaw7.LexNumbers", spec := "lexNumbers", inPlace := ["internal/bytealg.IndexByteString", "internal/abi.NoEscape"], unfollowed := true, recurses := true, named := ["boomerang/lex.signs"], apart := false, laid := [("boomerang/lex.signs", laid_boomerang_lex_signs)], narrowed := true }
def LexNumbersUptoSaid : Prop := lexNumbersUptoRow.holds Tryd.pinned (OpenSpec.upto lexNumbersSpec)

/-- 'boomeranglaw7.LexBlanks', WHERE WHAT IT READS IS OF BULK AT MOST 1048576: true; the input reads as it did. -/
def lexBlanksUptoRow : OpenClaim := { program := "ytbciecmikcloaaadoor", sum := "e98bc7d2ca8d26f1db01c4b80445bb658452b90d690b06c02c762b8c4d094e27", func := "boomerang/boomeranglaw7.LexBlanks", spec := "lexBlanks", inPlace := ["internal/bytealg.IndexByteString", "internal/abi.NoEscape"], unfollowed := true, recurses := true, named := ["boomerang/lex.signs"], apart := false, laid := [("boomerang/lex.signs", laid_boomerang_lex_signs)], narrowed := true }
def LexBlanksUptoSaid : Prop := lexBlanksUptoRow.holds Tryd.pinned (OpenSpec.upto lexBlanksSpec)

end Rows
end Go.Proofs.YtbciecmikcloaaaDoor
