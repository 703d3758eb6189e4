/- Trees of programs (8.1 to 8.4), by lists: what the parser does, with no program in sight. d: how many parts may yet lie within. -/
import Derived.Test.YtoeolonbkeldoaaDoorLxM
namespace Go.Proofs.YtoeolonbkeldoaaDoor.Ps
open Lx
set_option linter.unusedVariables false
/-- A node: kind, number, text, names, kids, place. -/
structure Nd where
  k : Nat := 0
  n : Nat := 0
  t : List UInt8 := []
  names : List (List UInt8) := []
  kids : List Nat := []
  a : Nat := 0
  deriving DecidableEq
/-- Where a reader is: tokens ahead, nodes behind, whether it failed, and where. -/
structure St where
  toks : List Tk
  nodes : List Nd
  failed : Bool
  at_ : Nat
abbrev M (α : Type) := St → α × St
def bad : Tk := ⟨6, [], 0, 0, false, 0⟩
def nxt (s : St) : Tk := s.toks.headD bad
def mark (s : St) : List UInt8 := if (nxt s).k = 4 ∨ (nxt s).k = 5 then (nxt s).t else []
def skip : M Tk := fun s => (nxt s, if 1 < s.toks.length then { s with toks := s.toks.tail } else s)
def take (m : List UInt8) : M Bool := fun s => if mark s = m then (true, (skip s).2) else (false, s)
def add (n : Nd) : M Nat := fun s => (s.nodes.length, { s with nodes := s.nodes ++ [n] })
def fail : M Nat := fun s => add {} (if s.failed then s else { s with failed := true, at_ := (nxt s).a, toks := [bad] })
def want (m : List UInt8) : M Unit := fun s => match take m s with
  | (true, s) => ((), s)
  | (false, s) => ((), (fail s).2)
def textOf (kinds : List Nat) : M (List UInt8) := fun s => if (nxt s).k ∈ kinds then ((nxt s).t, (skip s).2) else ([], (fail s).2)
def name : M (List UInt8) := textOf [3]
def over (n : Nd) (kids : List Nat) : M Nat := fun s => add { n with kids := kids, a := (s.nodes.getD (kids.headD 0) {}).a } s
/-- Items with a comma between, up to what ends them. -/
def itemsLoop {α : Type} (item : M α) : Nat → List α → M (List α)
  | 0, l => fun s => (l, s)
  | f + 1, l => fun s => match take [44] s with
    | (false, s) => (l, s)
    | (true, s) => itemsLoop item f (l ++ [(item s).1]) (item s).2
def items {α : Type} (behind : List UInt8) (item : M α) : M (List α) := fun s => match take behind s with
  | (true, s) => ([], s)
  | (false, s) =>
    let r := itemsLoop item (item s).2.toks.length [(item s).1] (item s).2
    (r.1, (want behind r.2).2)
/-- Parts with signs of one level between. -/
def chainLoop (lv : List UInt8 → Option Nd) (sub : M Nat) : Nat → Nat → M Nat
  | 0, left => fun s => (left, s)
  | f + 1, left => fun s => match lv (mark s) with
    | none => (left, s)
    | some n =>
      let r := sub (skip s).2
      let o := over n [left, r.1] r.2
      chainLoop lv sub f o.1 o.2
def chain (part : M Nat) : List (List UInt8 → Option Nd) → M Nat
  | [] => part
  | lv :: row => fun s =>
    let r := chain part row s
    chainLoop lv (chain part row) r.2.toks.length r.1 r.2
def logic (sign : List UInt8) (k : Nat) : List UInt8 → Option Nd := fun m => if m = sign then some { k := k } else none
def binary (l : List (List UInt8)) : List UInt8 → Option Nd := fun m => if m ∈ l then some { k := 15, t := m } else none
def logics : List (List UInt8 → Option Nd) := [logic [124, 124] 17, logic [38, 38] 16]
def binaries : List (List UInt8 → Option Nd) := [binary [[61, 61, 61], [33, 61, 61]], binary [[60], [60, 61], [62], [62, 61]], binary [[43], [45]], binary [[42], [47], [37]]]
/-- What may lie within: an e, a u, a p, a statement. -/
structure Lv where
  e : M Nat
  u : M Nat
  p : M Nat
  s : M Nat
def isTarget (k : Nat) : Bool := k == 3 || k == 11 || k == 12
def choice (L : Lv) : M Nat := fun s =>
  let f := chain (chain L.u binaries) logics s
  match take [63] f.2 with
  | (false, s) => (f.1, s)
  | (true, s) =>
    let y := L.e s
    let w := want [58] y.2
    let z := L.e w.2
    over { k := 18 } [f.1, y.1, z.1] z.2
def anyExpr (L : Lv) : M Nat := fun s =>
  match take [121, 105, 101, 108, 100] s with
  | (true, s') => let r := L.e s'; add { k := 20, a := (nxt s).a, kids := [r.1] } r.2
  | (false, s') =>
    let t := choice L s'
    if isTarget (t.2.nodes.getD t.1 {}).k then
      match take [61] t.2 with
      | (false, s) => (t.1, s)
      | (true, s) => let r := L.e s; over { k := 19 } [t.1, r.1] r.2
    else t
def anyUnary (L : Lv) : M Nat := fun s =>
  if mark s = [33] ∨ mark s = [45] ∨ mark s = [116, 121, 112, 101, 111, 102] then
    let x := skip s
    let r := L.u x.2
    add { k := 14, t := x.1.t, a := x.1.a, kids := [r.1] } r.2
  else L.p s
def leaf (n : Nd) : M Nat := fun s => let x := skip s; add { n with a := x.1.a } x.2
def inParens (L : Lv) : M Nat := fun s =>
  let r := L.e (want [40] s).2
  (r.1, (want [41] r.2).2)
def closes (s : St) : Bool := decide (mark s = [125]) || decide ((nxt s).k = 0)
def statementsLoop (L : Lv) : Nat → List Nat → M (List Nat)
  | 0, l => fun s => (l, s)
  | f + 1, l => fun s => if !s.failed && !closes s then let r := L.s s; statementsLoop L f (l ++ [r.1]) r.2 else (l, s)
def statements (L : Lv) : M (List Nat) := fun s => statementsLoop L (s.toks.length + 1) [] s
def body (L : Lv) : M (List Nat) := fun s =>
  let r := statements L (want [123] s).2
  (r.1, (want [125] r.2).2)
def func (L : Lv) (named : Bool) : M Nat := fun s =>
  let x := skip s
  let g := take [42] x.2
  let nm := if named || (nxt g.2).k = 3 then name g.2 else ([], g.2)
  let ps := items [41] name (want [40] nm.2).2
  let b := body L ps.2
  add { k := 10, n := if g.1 then 1 else 0, t := nm.1, names := ps.1, kids := b.1, a := x.1.a } b.2
def pair (L : Lv) : M (List UInt8 × Nat) := fun s =>
  let n := textOf [3, 4, 2] s
  let r := L.e (want [58] n.2).2
  ((n.1, r.1), r.2)
def alone (L : Lv) : M Nat := fun s =>
  let x := nxt s
  if x.k = 1 then leaf { k := 1, n := x.n } s
  else if x.k = 2 then leaf { k := 2, t := x.t } s
  else if x.k = 3 then leaf { k := 3, t := x.t } s
  else
    let m := mark s
    if m = [116, 114, 117, 101] then leaf { k := 4, n := 1 } s
    else if m = [102, 97, 108, 115, 101] then leaf { k := 4 } s
    else if m = [110, 117, 108, 108] then leaf { k := 5 } s
    else if m = [117, 110, 100, 101, 102, 105, 110, 101, 100] then leaf { k := 6 } s
    else if m = [116, 104, 105, 115] then leaf { k := 7 } s
    else if m = [40] then inParens L s
    else if m = [91] then
      let x := skip s
      let l := items [93] L.e x.2
      add { k := 9, a := x.1.a, kids := l.1 } l.2
    else if m = [123] then
      let x := skip s
      let l := items [125] (pair L) x.2
      add { k := 8, a := x.1.a, names := l.1.map (·.1), kids := l.1.map (·.2) } l.2
    else if m = [102, 117, 110, 99, 116, 105, 111, 110] then func L false s
    else fail s
def primaryLoop (L : Lv) : Nat → Nat → M Nat
  | 0, p => fun s => (p, s)
  | f + 1, p => fun s => match take [46] s with
    | (true, s) =>
      let t := textOf [3, 4] s
      let o := over { k := 11, t := t.1 } [p] t.2
      primaryLoop L f o.1 o.2
    | (false, s) => match take [91] s with
      | (true, s) =>
        let w := L.e s
        let o := over { k := 12 } [p, w.1] (want [93] w.2).2
        primaryLoop L f o.1 o.2
      | (false, s) => match take [40] s with
        | (true, s) =>
          let w := items [41] L.e s
          let o := over { k := 13 } (p :: w.1) w.2
          primaryLoop L f o.1 o.2
        | (false, s) => (p, s)
def primary (L : Lv) : M Nat := fun s =>
  let p := alone L s
  primaryLoop L p.2.toks.length p.1 p.2
def endS : M Unit := fun s => match take [59] s with
  | (true, s) => ((), s)
  | (false, s) => if !closes s && !(nxt s).ln then ((), (fail s).2) else ((), s)
def block (L : Lv) : M Nat := fun s => let b := body L s; add { k := 25, a := (nxt s).a, kids := b.1 } b.2
def inner (L : Lv) : M Nat := fun s =>
  if mark s = [108, 101, 116] ∨ mark s = [99, 111, 110, 115, 116] ∨ mark s = [102, 117, 110, 99, 116, 105, 111, 110] then fail s else L.s s
def ifS (L : Lv) : M Nat := fun s =>
  let x := skip s
  let c := inParens L x.2
  let y := inner L c.2
  match take [101, 108, 115, 101] y.2 with
  | (true, s) => let z := inner L s; add { k := 26, a := x.1.a, kids := [c.1, y.1, z.1] } z.2
  | (false, s) => add { k := 26, a := x.1.a, kids := [c.1, y.1] } s
def whileS (L : Lv) : M Nat := fun s =>
  let x := skip s
  let c := inParens L x.2
  let y := inner L c.2
  add { k := 27, a := x.1.a, kids := [c.1, y.1] } y.2
def jump (k : Nat) : M Nat := fun s => let x := skip s; add { k := k, a := x.1.a } (endS x.2).2
def returnS (L : Lv) : M Nat := fun s =>
  let x := skip s
  if !(nxt x.2).ln && !decide (mark x.2 = [59]) && !closes x.2 then
    let r := L.e x.2
    add { k := 30, a := x.1.a, kids := [r.1] } (endS r.2).2
  else add { k := 30, a := x.1.a } (endS x.2).2
def throwS (L : Lv) : M Nat := fun s =>
  let x := skip s
  if (nxt x.2).ln then fail x.2
  else
    let r := L.e x.2
    add { k := 31, a := x.1.a, kids := [r.1] } (endS r.2).2
def tryS (L : Lv) : M Nat := fun s =>
  let x := skip s
  let f := block L x.2
  let n := name (want [40] (want [99, 97, 116, 99, 104] f.2).2).2
  let g := block L (want [41] n.2).2
  add { k := 32, t := n.1, a := x.1.a, kids := [f.1, g.1] } g.2
def binding (L : Lv) (k : Nat) : M Nat := fun s =>
  let x := skip s
  let n := name x.2
  let r := L.e (want [61] n.2).2
  add { k := k, t := n.1, a := x.1.a, kids := [r.1] } (endS r.2).2
def definition (L : Lv) : M Nat := fun s => let f := func L true s; add { k := 23, a := (nxt s).a, kids := [f.1] } f.2
def exprS (L : Lv) : M Nat := fun s => let r := L.e s; over { k := 24 } [r.1] (endS r.2).2
def anyStatement (L : Lv) : M Nat := fun s =>
  let m := mark s
  if m = [123] then block L s
  else if m = [105, 102] then ifS L s
  else if m = [119, 104, 105, 108, 101] then whileS L s
  else if m = [98, 114, 101, 97, 107] then jump 28 s
  else if m = [99, 111, 110, 116, 105, 110, 117, 101] then jump 29 s
  else if m = [114, 101, 116, 117, 114, 110] then returnS L s
  else if m = [116, 104, 114, 111, 119] then throwS L s
  else if m = [116, 114, 121] then tryS L s
  else if m = [108, 101, 116] then binding L 21 s
  else if m = [99, 111, 110, 115, 116] then binding L 22 s
  else if m = [102, 117, 110, 99, 116, 105, 111, 110] then definition L s
  else exprS L s
/-- So many parts may yet lie within one another. -/
def lv : Nat → Lv
  | 0 => ⟨fail, fail, fail, fail⟩
  | d + 1 => ⟨anyExpr (lv d), anyUnary (lv d), primary (lv d), anyStatement (lv d)⟩
/-- A program's tree, or where there is no program any more. -/
def parse (src : List UInt8) : List Nd × Nat × Bool :=
  if 4096 < src.length then ([], 0, false)
  else
    let r := statements (lv 40) ⟨Lx.all src, [], false, 0⟩
    let s := if (nxt r.2).k = 0 then r.2 else (fail r.2).2
    let s := (add { k := 33, kids := r.1 } s).2
    if s.failed then ([], s.at_, false) else (s.nodes, 0, true)
end Go.Proofs.YtoeolonbkeldoaaDoor.Ps
