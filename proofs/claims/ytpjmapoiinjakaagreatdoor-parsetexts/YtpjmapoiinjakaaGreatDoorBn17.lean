/- Texts: RpM QW QR. -/
import Derived.Test.YtpjmapoiinjakaaGreatDoorBn03
import Derived.Test.YtpjmapoiinjakaaGreatDoorBn16
import Derived.Maps.AppendAt
import Derived.Deep.RegionLaw
section
namespace Go.Proofs.YtpjmapoiinjakaaGreatDoor.Rp
open Lx Ps
set_option linter.unusedVariables false
/-- Where it is: tokens ahead, nodes behind, whether it is bad. -/
structure Rt where
  toks : List Tk
  nodes : List Nd
  bad : Bool
abbrev Q (α : Type) := Rt → α × Rt
def nx (r : Rt) : Tk := r.toks.headD Ps.bad
def isS (m : List UInt8) (r : Rt) : Bool := decide ((nx r).k = 4 ∨ (nx r).k = 5) && decide ((nx r).t = m)
def move (r : Rt) : Rt := if 1 < r.toks.length then { r with toks := r.toks.tail } else r
def spoil (r : Rt) : Rt := { r with bad := true }
def has (m : List UInt8) : Q Bool := fun r => if r.bad || !isS m r then (false, r) else (true, move r)
def must (m : List UInt8) (r : Rt) : Rt := match has m r with
  | (true, r) => r
  | (false, r) => spoil r
def rname : Q (List UInt8) := fun r => if r.bad || decide ((nx r).k ≠ 3) then ([], spoil r) else ((nx r).t, move r)
def put (n : Nd) : Q Nat := fun r => (r.nodes.length, { r with nodes := r.nodes ++ [n] })
def ende (r : Rt) : Rt := match has [59] r with
  | (true, r) => r
  | (false, r) => if r.bad then r else if decide ((nx r).k ≠ 0) && !isS [125] r && !(nx r).ln then spoil r else r
structure Lr where
  e : Q Nat
  u : Q Nat
  p : Q Nat
  s : Q Nat
def listLoop (L : Lr) (last : Bool) : Nat → List Nat → Q (List Nat)
  | 0, l => fun r => (l, r)
  | f + 1, l => fun r =>
    if r.bad then (l, r)
    else if (last && decide ((nx r).k = 0)) || (!last && isS [125] r) then (l, r)
    else let x := L.s r; listLoop L last f (l ++ [x.1]) x.2
def list (L : Lr) (last : Bool) : Q (List Nat) := fun r => listLoop L last (r.toks.length + 1) [] r
def body (L : Lr) : Q (List Nat) := fun r =>
  let x := list L false (must [123] r)
  (x.1, must [125] x.2)
def block (L : Lr) : Q Nat := fun r => let x := body L r; put { k := 25, a := (nx r).a, kids := x.1 } x.2
def inner (L : Lr) : Q Nat := fun r =>
  let r := if isS [108, 101, 116] r || isS [99, 111, 110, 115, 116] r || isS [102, 117, 110, 99, 116, 105, 111, 110] r then spoil r else r
  if r.bad then (0, r) else L.s r
def namesLoop : Nat → List (List UInt8) → Q (List (List UInt8))
  | 0, l => fun r => (l, r)
  | f + 1, l => fun r => match has [44] r with
    | (false, r) => (l, r)
    | (true, r) => let x := rname r; namesLoop f (l ++ [x.1]) x.2
def func (L : Lr) (named : Bool) : Q Nat := fun r =>
  let at_ := (nx r).a
  let g := has [42] (must [102, 117, 110, 99, 116, 105, 111, 110] r)
  let nm := if named || decide ((nx g.2).k = 3) then rname g.2 else ([], g.2)
  let r := must [40] nm.2
  let ps := if isS [41] r then ([], r) else let x := rname r; namesLoop x.2.toks.length [x.1] x.2
  let b := body L (must [41] ps.2)
  put { k := 10, n := if g.1 then 1 else 0, t := nm.1, names := ps.1, kids := b.1, a := at_ } b.2
def commasLoop (L : Lr) : Nat → List Nat → Q (List Nat)
  | 0, l => fun r => (l, r)
  | f + 1, l => fun r => match has [44] r with
    | (false, r) => (l, r)
    | (true, r) => let x := L.e r; commasLoop L f (l ++ [x.1]) x.2
def commas (L : Lr) (last : List UInt8) : Q (List Nat) := fun r => match has last r with
  | (true, r) => ([], r)
  | (false, r) =>
    let x := L.e r
    let y := commasLoop L x.2.toks.length [x.1] x.2
    (y.1, must last y.2)
def rrows : List (List (List UInt8)) := [[[124, 124]], [[38, 38]], [[61, 61, 61], [33, 61, 61]], [[60], [60, 61], [62], [62, 61]], [[43], [45]], [[42], [47], [37]]]
def sigNode (s : List UInt8) : Nd := if s = [124, 124] then { k := 17 } else if s = [38, 38] then { k := 16 } else { k := 15, t := s }
def binLoop (row : List (List UInt8)) (sub : Q Nat) : Nat → Nat → Q Nat
  | 0, k => fun r => (k, r)
  | f + 1, k => fun r =>
    if !r.bad && decide ((nx r).k = 5) && decide ((nx r).t ∈ row) then
      let s := (nx r).t
      let b := sub (move r)
      let o := put { sigNode s with kids := [k, b.1], a := (b.2.nodes.getD k {}).a } b.2
      binLoop row sub f o.1 o.2
    else (k, r)
def bin (L : Lr) : List (List (List UInt8)) → Q Nat
  | [] => L.u
  | row :: rest => fun r =>
    let x := bin L rest r
    binLoop row (bin L rest) x.2.toks.length x.1 x.2
def cond (L : Lr) : Q Nat := fun r =>
  let k := bin L rrows r
  if k.2.bad then k
  else match has [63] k.2 with
    | (false, r) => (k.1, r)
    | (true, r) =>
      let a := L.e r
      let r := must [58] a.2
      if r.bad then (0, r)
      else
        let b := L.e r
        put { k := 18, kids := [k.1, a.1, b.1], a := (b.2.nodes.getD k.1 {}).a } b.2
def assign (L : Lr) : Q Nat := fun r =>
  let at_ := (nx r).a
  match has [121, 105, 101, 108, 100] r with
  | (true, r) => let x := L.e r; put { k := 20, kids := [x.1], a := at_ } x.2
  | (false, r) =>
    let k := cond L r
    if k.2.bad then (0, k.2)
    else if Ps.isTarget (k.2.nodes.getD k.1 {}).k then
      match has [61] k.2 with
      | (false, r) => (k.1, r)
      | (true, r) => let v := L.e r; put { k := 19, kids := [k.1, v.1], a := (v.2.nodes.getD k.1 {}).a } v.2
    else k
def unary (L : Lr) : Q Nat := fun r =>
  if isS [33] r || isS [45] r || isS [116, 121, 112, 101, 111, 102] r then
    let k := L.u (move r)
    put { k := 14, t := (nx r).t, kids := [k.1], a := (nx r).a } k.2
  else L.p r
def simple (s : List UInt8) : Nd :=
  if s = [116, 114, 117, 101] then { k := 4, n := 1 }
  else if s = [102, 97, 108, 115, 101] then { k := 4 }
  else if s = [110, 117, 108, 108] then { k := 5 }
  else if s = [117, 110, 100, 101, 102, 105, 110, 101, 100] then { k := 6 }
  else if s = [116, 104, 105, 115] then { k := 7 }
  else {}
def objLoop (L : Lr) : Nat → List (List UInt8) → List Nat → Q (Option (List (List UInt8) × List Nat))
  | 0, N, K => fun r => (some (N, K), r)
  | f + 1, N, K => fun r =>
    if !isS [125] r || decide (0 < K.length) then
      let t := nx r
      let r := if t.k = 3 ∨ t.k = 4 ∨ t.k = 2 then r else spoil r
      if r.bad then (none, r)
      else
        let x := L.e (must [58] (move r))
        match has [44] x.2 with
        | (false, r) => (some (N ++ [t.t], K ++ [x.1]), r)
        | (true, r) => objLoop L f (N ++ [t.t]) (K ++ [x.1]) r
    else (some (N, K), r)
def object (L : Lr) (at_ : Nat) : Q Nat := fun r => match objLoop L (r.toks.length + 1) [] [] r with
  | (none, r) => (0, r)
  | (some (N, K), r) => put { k := 8, names := N, kids := K, a := at_ } (must [125] r)
def first (L : Lr) : Q Nat := fun r =>
  let t := nx r
  if t.k = 1 then put { k := 1, n := t.n, a := t.a } (move r)
  else if t.k = 2 then put { k := 2, t := t.t, a := t.a } (move r)
  else if t.k = 3 then put { k := 3, t := t.t, a := t.a } (move r)
  else if t.k = 4 ∧ 0 < (simple t.t).k then put { simple t.t with a := t.a } (move r)
  else if isS [102, 117, 110, 99, 116, 105, 111, 110] r then func L false r
  else match has [40] r with
    | (true, r) => let k := L.e r; (k.1, must [41] k.2)
    | (false, r) => match has [91] r with
      | (true, r) => let l := commas L [93] r; put { k := 9, kids := l.1, a := t.a } l.2
      | (false, r) => match has [123] r with
        | (true, r) => object L t.a r
        | (false, r) => (0, spoil r)
def postLoop (L : Lr) : Nat → Nat → Q Nat
  | 0, k => fun r => (k, r)
  | f + 1, k => fun r =>
    if r.bad then (k, r)
    else
      let at_ := (r.nodes.getD k {}).a
      match has [46] r with
      | (true, r) =>
        let t := nx r
        if t.k ≠ 3 ∧ t.k ≠ 4 then (k, spoil r)
        else let o := put { k := 11, t := t.t, kids := [k], a := at_ } (move r); postLoop L f o.1 o.2
      | (false, r) => match has [91] r with
        | (true, r) =>
          let b := L.e r
          let o := put { k := 12, kids := [k, b.1], a := at_ } (must [93] b.2)
          postLoop L f o.1 o.2
        | (false, r) => match has [40] r with
          | (true, r) =>
            let l := commas L [41] r
            let o := put { k := 13, kids := k :: l.1, a := at_ } l.2
            postLoop L f o.1 o.2
          | (false, r) => (k, r)
def post (L : Lr) : Q Nat := fun r => let k := first L r; postLoop L k.2.toks.length k.1 k.2
def one (L : Lr) : Q Nat := fun r =>
  let at_ := (nx r).a
  if isS [123] r then block L r
  else if isS [102, 117, 110, 99, 116, 105, 111, 110] r then let f := func L true r; put { k := 23, kids := [f.1], a := at_ } f.2
  else match has [105, 102] r with
  | (true, r) =>
    let c := L.e (must [40] r)
    let y := inner L (must [41] c.2)
    match has [101, 108, 115, 101] y.2 with
    | (true, r) => let z := inner L r; put { k := 26, kids := [c.1, y.1, z.1], a := at_ } z.2
    | (false, r) => put { k := 26, kids := [c.1, y.1], a := at_ } r
  | (false, r) => match has [119, 104, 105, 108, 101] r with
  | (true, r) =>
    let c := L.e (must [40] r)
    let y := inner L (must [41] c.2)
    put { k := 27, kids := [c.1, y.1], a := at_ } y.2
  | (false, r) => match has [98, 114, 101, 97, 107] r with
  | (true, r) => put { k := 28, a := at_ } (ende r)
  | (false, r) => match has [99, 111, 110, 116, 105, 110, 117, 101] r with
  | (true, r) => put { k := 29, a := at_ } (ende r)
  | (false, r) => match has [114, 101, 116, 117, 114, 110] r with
  | (true, r) =>
    let t := nx r
    if !t.ln && decide (t.k ≠ 0) && !isS [59] r && !isS [125] r then let c := L.e r; put { k := 30, kids := [c.1], a := at_ } (ende c.2)
    else put { k := 30, a := at_ } (ende r)
  | (false, r) => match has [116, 104, 114, 111, 119] r with
  | (true, r) =>
    let r := if (nx r).ln then spoil r else r
    let c := L.e r
    put { k := 31, kids := [c.1], a := at_ } (ende c.2)
  | (false, r) => match has [116, 114, 121] r with
  | (true, r) =>
    let f := block L r
    let n := rname (must [40] (must [99, 97, 116, 99, 104] f.2))
    let g := block L (must [41] n.2)
    put { k := 32, t := n.1, kids := [f.1, g.1], a := at_ } g.2
  | (false, r) =>
    if isS [108, 101, 116] r || isS [99, 111, 110, 115, 116] r then
      let kind := if isS [99, 111, 110, 115, 116] r then 22 else 21
      let n := rname (move r)
      let c := L.e (must [61] n.2)
      put { k := kind, t := n.1, kids := [c.1], a := at_ } (ende c.2)
    else
      let k := L.e r
      let r := ende k.2
      if r.bad then (0, r) else put { k := 24, kids := [k.1], a := (r.nodes.getD k.1 {}).a } r
/-- One deeper: not where it is bad, nor too deep. -/
def deeper (f : Q Nat) : Q Nat := fun r => if r.bad then (0, r) else f r
def rl : Nat → Lr
  | 0 => ⟨fun r => (0, spoil r), fun r => (0, spoil r), fun r => (0, spoil r), fun r => (0, spoil r)⟩
  | d + 1 => ⟨deeper (assign (rl d)), deeper (unary (rl d)), deeper (post (rl d)), deeper (one (rl d))⟩
/-- A program's tree, or where it is wrong. -/
def rparse (src : List UInt8) : List Nd × Nat × Bool :=
  if 4096 < src.length then ([], 0, false)
  else
    let x := list (rl 40) true ⟨Lx.all src, [], false⟩
    if x.2.bad then ([], (nx x.2).a, false)
    else ((put { k := 33, kids := x.1 } x.2).2.nodes, 0, true)
end Go.Proofs.YtpjmapoiinjakaaGreatDoor.Rp
end
section
namespace Go.Proofs.YtpjmapoiinjakaaGreatDoor.Rd
open Go.RowKit
open L (tkA own_block own_below intOf info_of size_list)
set_option linter.unusedVariables false
def blockOf : Value → Option Nat
  | .slice (some a) _ _ => some a.block
  | _ => none
/-- Numbers, texts in a row that is never written again. -/
def KidsIn (W : World) (v : Value) (l : List Nat) : Prop := ∃ (ad : Option Addr) (cap : Nat), v = .slice ad l.length cap ∧ l.length ≤ cap ∧ (l = [] ∨ ∃ g, ad = some ⟨g, 0, none⟩ ∧ g < W.heap.size ∧ ∀ j (h : j < l.length), W.cell? ⟨g, j, none⟩ = some (.int .i64 (l[j] : Int)))
def NamesIn (W : World) (v : Value) (l : List (List UInt8)) : Prop := ∃ (ad : Option Addr) (cap : Nat), v = .slice ad l.length cap ∧ l.length ≤ cap ∧ (l = [] ∨ ∃ g, ad = some ⟨g, 0, none⟩ ∧ g < W.heap.size ∧ ∀ j (h : j < l.length), W.cell? ⟨g, j, none⟩ = some (.string ⟨l[j].toArray⟩))
/-- What of a value's block may not be written: it is neither the reader's nor the nodes' own. -/
def Apart (F : Nat → Prop) (B : Nat) (nv v : Value) : Prop := ∀ k, blockOf v = some k → k ≠ B ∧ nv.ownBlock ≠ some k ∧ ¬ F k
/-- A node's six cells. -/
abbrev ndA (n : Ps.Nd) (nm kd : Value) : Array Value := #[.int .i64 (n.k : Int), .int .i64 (n.n : Int), .string ⟨n.t.toArray⟩, nm, kd, .int .i64 (n.a : Int)]
/-- What a node needs: its names, its kids. -/
structure NdIn (F : Nat → Prop) (W : World) (B : Nat) (nv : Value) (n : Ps.Nd) (nm kd : Value) : Prop where
  names : NamesIn W nm n.names
  kids : KidsIn W kd n.kids
  anm : Apart F B nv nm
  akd : Apart F B nv kd
  lnm : ∀ k, blockOf nm = some k → k < W.heap.size
  lkd : ∀ k, blockOf kd = some k → k < W.heap.size
/-- The nodes' values of names and of kids, in a row. -/
def ndCells (ns : List (Ps.Nd × Value × Value)) : List Value := ns.flatMap fun x => (ndA x.1 x.2.1 x.2.2).toList
/-- What the reader's functions leave of the world: all but the reader's block and the nodes' own. -/
structure Chg (B : Nat) (nv nv' : Value) (w w' : World) : Prop where
  os : w'.os = w.os
  tape : w'.tape = w.tape
  output : w'.output = w.output
  size : w.heap.size ≤ w'.heap.size
  block : ∀ k, k < w.heap.size → k ≠ B → nv.ownBlock ≠ some k → w'.heap[k]? = w.heap[k]?
  fresh : ∀ k, nv'.ownBlock = some k → nv.ownBlock = some k ∨ w.heap.size ≤ k
theorem Chg.refl (B : Nat) (nv : Value) (w : World) : Chg B nv nv w w := ⟨rfl, rfl, rfl, Nat.le_refl _, fun _ _ _ _ => rfl, fun _ h => .inl h⟩
theorem Chg.trans {B : Nat} {a b c : Value} {w w1 w2 : World} (h : Chg B a b w w1) (k : Chg B b c w1 w2) : Chg B a c w w2 where
  os := k.os.trans h.os
  tape := k.tape.trans h.tape
  output := k.output.trans h.output
  size := Nat.le_trans h.size k.size
  block := fun j h1 h2 h3 => (k.block j (Nat.lt_of_lt_of_le h1 h.size) h2 (fun e => by
    rcases h.fresh j e with e | e
    · exact h3 e
    · omega)).trans (h.block j h1 h2 h3)
  fresh := fun j e => by
    rcases k.fresh j e with e | e
    · exact h.fresh j e
    · exact .inr (Nat.le_trans h.size e)
theorem Chg.below {B : Nat} (nv : Value) {w w' : World} (h : Below w.heap.size w w') : Chg B nv nv w w' := ⟨h.os, h.tape, h.output, h.size, fun k hk _ _ => h.block k hk, fun _ h => .inl h⟩
theorem Chg.toBelow {B b : Nat} {nv nv' : Value} {w w' : World} (h : Chg B nv nv' w w') (hB : b ≤ B) (hn : ∀ k, nv.ownBlock = some k → b ≤ k) (hw : b ≤ w.heap.size) : Below b w w' :=
  ⟨h.os, h.tape, h.output, h.size, fun k hk => h.block k (by omega) (by omega) (fun e => by have := hn k e; omega)⟩
theorem cell_of_block {W W' : World} {g : Nat} (h : W'.heap[g]? = W.heap[g]?) (j : Nat) : W'.cell? ⟨g, j, none⟩ = W.cell? ⟨g, j, none⟩ := by
  unfold World.cell?; rw [h]
/-- What is apart stays. -/
theorem Apart.go {F : Nat → Prop} {B : Nat} {nv nv' v : Value} {w w' : World} (h : Apart F B nv v) (hl : ∀ k, blockOf v = some k → k < w.heap.size) (c : Chg B nv nv' w w') : Apart F B nv' v := fun k hk =>
  ⟨(h k hk).1, fun e => by
    rcases c.fresh k e with e | e
    · exact (h k hk).2.1 e
    · have := hl k hk; omega, (h k hk).2.2⟩
theorem KidsIn.lt {W : World} {v : Value} {l : List Nat} (h : KidsIn W v l) (hl : l ≠ []) : ∀ k, blockOf v = some k → k < W.heap.size := fun k hk => by
  obtain ⟨ad, cap, rfl, _, h⟩ := h
  obtain ⟨g, rfl, h1, _⟩ := h.resolve_left hl
  have : g = k := by simpa [blockOf] using hk
  omega
theorem KidsIn.go {F : Nat → Prop} {B : Nat} {nv nv' v : Value} {w w' : World} {l : List Nat} (h : KidsIn w v l) (ha : Apart F B nv v) (c : Chg B nv nv' w w') : KidsIn w' v l := by
  obtain ⟨ad, cap, rfl, hc, h⟩ := h
  refine ⟨ad, cap, rfl, hc, ?_⟩
  rcases h with h | ⟨g, rfl, h1, h2⟩
  · exact .inl h
  · have hg := ha g rfl
    exact .inr ⟨g, rfl, Nat.lt_of_lt_of_le h1 c.size, fun j hj => (cell_of_block (c.block g h1 hg.1 hg.2.1) j).trans (h2 j hj)⟩
theorem NamesIn.go {F : Nat → Prop} {B : Nat} {nv nv' v : Value} {w w' : World} {l : List (List UInt8)} (h : NamesIn w v l) (ha : Apart F B nv v) (c : Chg B nv nv' w w') : NamesIn w' v l := by
  obtain ⟨ad, cap, rfl, hc, h⟩ := h
  refine ⟨ad, cap, rfl, hc, ?_⟩
  rcases h with h | ⟨g, rfl, h1, h2⟩
  · exact .inl h
  · have hg := ha g rfl
    exact .inr ⟨g, rfl, Nat.lt_of_lt_of_le h1 c.size, fun j hj => (cell_of_block (c.block g h1 hg.1 hg.2.1) j).trans (h2 j hj)⟩
theorem NdIn.go {F : Nat → Prop} {B : Nat} {nv nv' nm kd : Value} {w w' : World} {n : Ps.Nd} (h : NdIn F w B nv n nm kd) (c : Chg B nv nv' w w') : NdIn F w' B nv' n nm kd :=
  ⟨h.names.go h.anm c, h.kids.go h.akd c, h.anm.go h.lnm c, h.akd.go h.lkd c, fun k hk => Nat.lt_of_lt_of_le (h.lnm k hk) c.size, fun k hk => Nat.lt_of_lt_of_le (h.lkd k hk) c.size⟩
theorem alloc_size' (w : World) (o : Obj) : (w.alloc o).heap.size = w.heap.size + 1 := Array.size_push _
theorem own_keep {w w' : World} {B : Nat} {e : TypeId} {z : Nat} {v : Value} {n : Nat} {xs : List Value} (h : w.ownsRow B e z v n xs) (hb : ∀ k, v.ownBlock = some k → w'.heap[k]? = w.heap[k]?) : w'.ownsRow B e z v n xs := by
  rcases h.2 with ⟨e, e0⟩ | ⟨g, cap, cur, e, e1, e2, e3⟩
  · exact ⟨h.1, .inl ⟨e, e0⟩⟩
  · exact ⟨h.1, .inr ⟨g, cap, cur, e, e1, (hb g (by rw [e]; rfl)).trans e2, e3⟩⟩
theorem Chg.setB (B : Nat) (nv : Value) (w : World) (i : Nat) (u : Value) : Chg B nv nv w (w.setCell ⟨B, i, none⟩ u) :=
  ⟨rfl, rfl, rfl, by simp [World.setCell], fun k _ h2 _ => Below.heap_setCell _ _ _ _ (by show k ≠ B; exact h2), fun _ h => .inl h⟩
theorem Chg.alloc {B : Nat} {nv nv' : Value} {w W : World} (h : Chg B nv nv' w W) (o : Obj) : Chg B nv nv' w (W.alloc o) :=
  ⟨h.os, h.tape, h.output, by rw [alloc_size']; exact Nat.le_succ_of_le h.size, fun k h1 h2 h3 => (Below.heap_alloc W o k (Nat.lt_of_lt_of_le h1 h.size)).trans (h.block k h1 h2 h3), h.fresh⟩
theorem Chg.drew {B : Nat} {nv nv' : Value} {w W : World} (h : Chg B nv nv' w W) : Chg B nv nv' w W.drew := ⟨h.os, h.tape, h.output, h.size, h.block, h.fresh⟩
theorem Chg.setX {B : Nat} {nv nv' : Value} {w W : World} (h : Chg B nv nv' w W) {X : Nat} (hX : w.heap.size ≤ X) (i : Nat) (u : Value) : Chg B nv nv' w (W.setCell ⟨X, i, none⟩ u) :=
  ⟨h.os, h.tape, h.output, by simpa [World.setCell] using h.size, fun k h1 h2 h3 => (Below.heap_setCell W ⟨X, i, none⟩ u k (by show k ≠ X; omega)).trans (h.block k h1 h2 h3), h.fresh⟩
theorem Chg.setBB {B : Nat} {nv nv' : Value} {w W : World} (h : Chg B nv nv' w W) (i : Nat) (u : Value) : Chg B nv nv' w (W.setCell ⟨B, i, none⟩ u) :=
  ⟨h.os, h.tape, h.output, by simpa [World.setCell] using h.size, fun k h1 h2 h3 => (Below.heap_setCell W ⟨B, i, none⟩ u k h2).trans (h.block k h1 h2 h3), h.fresh⟩
/-- All but one block stays. -/
abbrev ChgB (B : Nat) (w W : World) : Prop := Chg B (.slice none 0 0) (.slice none 0 0) w W
theorem ChgB.chg {B : Nat} {w W : World} (h : ChgB B w W) (nv : Value) : Chg B nv nv w W := ⟨h.os, h.tape, h.output, h.size, fun k h1 h2 _ => h.block k h1 h2 (by simp [Value.ownBlock]), fun _ h => .inl h⟩
theorem ChgB.keep {B : Nat} {w W : World} (h : ChgB B w W) {base : Nat} {e : TypeId} {z : Nat} {v : Value} {n : Nat} {xs : List Value} (ho : w.ownsRow base e z v n xs) (hB : v.ownBlock ≠ some B) : ∀ k, v.ownBlock = some k → W.heap[k]? = w.heap[k]? := fun k hk =>
  h.block k (own_block ho k hk).2 (fun e => hB (by rw [hk, e])) (by simp [Value.ownBlock])
theorem infoND : (Tryz.prog.info? 43).map (fun i => (i.zero, i.size, i.bytes)) = some (some (.agg #[.int .i64 0, .int .i64 0, .string ⟨#[]⟩, .slice none 0 0, .slice none 0 0, .int .i64 0]), 6, 88) := by kernel_rfl
theorem ndCells_snoc (vs : List (Ps.Nd × Value × Value)) (x : Ps.Nd × Value × Value) : ndCells vs ++ (ndA x.1 x.2.1 x.2.2).toList = ndCells (vs ++ [x]) := by simp [ndCells]
/-- What an append of a node leaves. -/
structure Added (base : Nat) (w : World) (nv : Value) (vs : List (Ps.Nd × Value × Value)) (x : Ps.Nd × Value × Value) (v' : Value) (w' : World) : Prop where
  form : ∃ ad cap, v' = .slice ad (vs.length + 1) cap
  own : w'.ownsRow base 43 6 v' (vs ++ [x]).length (ndCells (vs ++ [x]))
  os : w'.os = w.os
  tape : w'.tape = w.tape
  output : w'.output = w.output
  size : w.heap.size ≤ w'.heap.size
  block : ∀ k, k < w.heap.size → nv.ownBlock ≠ some k → w'.heap[k]? = w.heap[k]?
  fresh : ∀ k, v'.ownBlock = some k → nv.ownBlock = some k ∨ w.heap.size ≤ k
theorem nd_more {base : Nat} {w W : World} {nv : Value} {vs : List (Ps.Nd × Value × Value)} (h : w.ownsRow base 43 6 nv vs.length (ndCells vs)) (hB : base ≤ w.heap.size) (hl : vs.length ≤ 1000000000) (x : Ps.Nd × Value × Value) (h1 : x.2.1.oneCell' = true) (h2 : x.2.2.oneCell' = true) (ty : TypeId)
    (hW : Below w.heap.size w W) (X : Nat) (hX : W.heap[X]? = some (.cells (ndA x.1 x.2.1 x.2.2) 43 (0, 0))) :
    ∃ v' w', (Builtin.append_ #[27, 27] ty #[nv, .slice (some ⟨X, 0, none⟩) 1 1]).run Tryz.prog W = .ok v' w' ∧ Added base w nv vs x v' w' := by
  obtain ⟨i0, hi, hz0, hz1, hz2⟩ := info_of infoND
  have hown := own_block h
  obtain ⟨v', w3, hr, ho, hg, _, hat⟩ := run_append_own_at (P := Tryz.prog) W base 27 ty 43 i0 _ 6 88 Tryz.underlying27 hi hz0 hz1 hz2 rfl (by decide) nv vs.length (ndCells vs) (own_below h hW) ⟨X, 0, none⟩ 1 1 (ndA x.1 x.2.1 x.2.2).toList rfl (by
      intro j u hj
      have hj6 : j < 6 := by
        rcases Nat.lt_or_ge j 6 with h | h
        · exact h
        · rw [List.getElem?_eq_none (by simpa using h)] at hj; cases hj
      have hc : W.cell? ⟨X, j, none⟩ = (ndA x.1 x.2.1 x.2.2)[j]? := by unfold World.cell?; rw [hX]; rfl
      rw [show (⟨X, 0, none⟩ : Addr).add j = ⟨X, j, none⟩ by unfold Addr.add; split <;> simp_all, hc]
      simpa using hj) (by intro u hu; simp at hu; rcases hu with rfl | rfl | rfl | rfl | rfl | rfl <;> first | exact h1 | exact h2 | rfl) (by unfold maxLen; omega) (by omega) (Nat.le_trans hB hW.size)
  obtain ⟨a, cap, rfl⟩ : ∃ a cap, v' = .slice a (vs.length + 1) cap := by
    rcases ho.2 with ⟨_, e⟩ | ⟨g, cap, cur, e, _⟩
    · omega
    · exact ⟨_, _, e⟩
  rw [ndCells_snoc] at ho
  refine ⟨_, w3, hr, ⟨a, cap, rfl⟩, by simpa using ho, hg.os.trans hW.os, hg.tape.trans hW.tape, hg.output.trans hW.output, Nat.le_trans hW.size hg.size, fun k hk hn => (hg.block k (Nat.lt_of_lt_of_le hk hW.size) (fun e => hn e.symm)).trans (hW.block k hk), fun k hk => ?_⟩
  rcases hat with e | e
  · exact .inl (e ▸ hk)
  · rw [e] at hk
    have := hW.size
    exact .inr (by simp at hk; omega)
/-- An append whose run is known, as one step of a region that draws. -/
theorem step_append_ex {P : Program} {ops : Array Oper} {o : Oper} {a : Act} {w : World} {K : Act → World → Prop} {Q : Exit → Act → World → Prop} {E : Prop} (hgd : o.guard = none) (s x : Operand) (t : TypeId)
    (ho : o.op = .call { callee := .builtin .append, args := #[s, x], argTypes := #[t, t] }) (v y : Value) (hs : a.eval s = v) (hx : a.eval x = y) (R : Value → World → Prop)
    (hr : ∃ v' w', (Builtin.append_ #[t, t] o.type #[v, y]).run P w = .ok v' w' ∧ R v' w') (h : ∀ v' w', R v' w' → K (a.put o.dst v') w') :
    if Region.wanted o (yielded ops a.tmps) = true then Oper.wp P o a w K Q else E := by
  have hw : Region.wanted o (yielded ops a.tmps) = true := by simp [Region.wanted, hgd]
  rw [if_pos hw]
  obtain ⟨v', w', h1, h2⟩ := hr
  unfold Oper.wp execOp
  simp only [ho, resolve, invoke, builtin, Sem.run_bind, Sem.run_pure, Result.andThen_ok, List.map_toArray, List.map_cons, List.map_nil, hs, hx, h1]
  exact h v' w' h2
theorem Added.drew {base : Nat} {w w' : World} {nv v' : Value} {vs : List (Ps.Nd × Value × Value)} {x : Ps.Nd × Value × Value} (h : Added base w nv vs x v' w') : Added base w nv vs x v' w'.drew :=
  ⟨h.form, own_below h.own (Below.refl _ _).drew, h.os, h.tape, h.output, h.size, h.block, h.fresh⟩
theorem heap_alloc_new (w : World) (V : Array Value) (t : TypeId) : (w.alloc (.cells V t)).heap[w.heap.size]? = some (.cells V t (0, 0)) := Array.getElem?_push_size
theorem alloc_drew_new (w : World) (V : Array Value) (t : TypeId) : (w.alloc (.cells V t)).drew.heap[w.heap.size]? = some (.cells V t (0, 0)) := Array.getElem?_push_size
theorem alloc2_new (w : World) (o : Obj) (V : Array Value) (t : TypeId) : ((w.alloc o).alloc (.cells V t)).heap[w.heap.size + 1]? = some (.cells V t (0, 0)) := by
  rw [← alloc_size' w o]; exact Array.getElem?_push_size
end Go.Proofs.YtpjmapoiinjakaaGreatDoor.Rd
end
section
namespace Go.Proofs.YtpjmapoiinjakaaGreatDoor.Rd
open Go.RowKit
open L (tkA own_block own_below intOf info_of size_list)
set_option linter.unusedVariables false
theorem run_len (l : List UInt8) : ∀ (f p : Nat), (Lx.run l f p).length ≤ f + 1 ∧ 1 ≤ (Lx.run l f p).length
  | 0, p => by simp [Lx.run]
  | f + 1, p => by
    have h := run_len l f (Lx.tok l p).e
    unfold Lx.run
    split
    · simp
    · simp; omega
/-- The reader's ten cells. -/
abbrev rdA (src : ByteArray) (T : Lx.Tk) (E : Nat) (nv : Value) (D : Nat) (b : Bool) : Array Value := #[.string src, .int .i64 (T.k : Int), .string ⟨T.t.toArray⟩, .int .i64 (T.n : Int), .int .i64 (T.a : Int), .bool T.ln, .int .i64 (E : Int), nv, .int .i64 (D : Int), .bool b]
/-- Tokens from a place on, E behind the first of them. -/
def TokAt (src : ByteArray) (st : Rp.Rt) (E : Nat) : Prop := ∃ p, p ≤ src.size ∧ st.toks = Lx.run src.data.toList (src.data.toList.length + 1) p ∧ ((Rp.nx st).k ≠ 6 → E = (Rp.nx st).e)
/-- The reader at B, its nodes' value nv, in a state; F: blocks that are other ones', in which none of it lies. -/
structure RS (src : ByteArray) (F : Nat → Prop) (base B dep : Nat) (st : Rp.Rt) (nv : Value) (W : World) : Prop where
  hB : base ≤ B
  sm : src.size ≤ 4096
  low : dep ≤ 40
  rd : ∃ E x : Nat, TokAt src st E ∧ x ≤ 1 ∧ (st.bad = false → x = 0) ∧ W.heap[B]? = some (.cells (rdA src (Rp.nx st) E nv (dep + x) st.bad) 53 (0, 0))
  nd : ∃ vs : List (Ps.Nd × Value × Value), vs.map (·.1) = st.nodes ∧ W.ownsRow base 43 6 nv vs.length (ndCells vs) ∧ ∀ x ∈ vs, NdIn F W B nv x.1 x.2.1 x.2.2
  own : nv.ownBlock ≠ some B
  far : ∀ k, F k → k < W.heap.size ∧ k ≠ B ∧ nv.ownBlock ≠ some k
theorem cells10h {w : World} {b : Nat} {x0 x1 x2 x3 x4 x5 x6 x7 x8 x9 : Value} {t : TypeId} (h : w.heap[b]? = some (.cells #[x0, x1, x2, x3, x4, x5, x6, x7, x8, x9] t (0, 0))) :
    w.cell? ⟨b, 0, none⟩ = some x0 ∧ w.cell? ⟨b, 1, none⟩ = some x1 ∧ w.cell? ⟨b, 2, none⟩ = some x2 ∧ w.cell? ⟨b, 3, none⟩ = some x3 ∧ w.cell? ⟨b, 4, none⟩ = some x4 ∧ w.cell? ⟨b, 5, none⟩ = some x5 ∧ w.cell? ⟨b, 6, none⟩ = some x6 ∧ w.cell? ⟨b, 7, none⟩ = some x7 ∧ w.cell? ⟨b, 8, none⟩ = some x8 ∧ w.cell? ⟨b, 9, none⟩ = some x9 ∧ (∀ i, w.frozen? ⟨b, i, none⟩ = false) ∧ b < w.heap.size := by
  refine ⟨?_, ?_, ?_, ?_, ?_, ?_, ?_, ?_, ?_, ?_, fun i => ?_, Nat.lt_of_not_le fun hg => by rw [Array.getElem?_eq_none hg] at h; cases h⟩ <;> simp [World.cell?, World.frozen?, h]
section
variable {src : ByteArray} {F : Nat → Prop} {base B dep : Nat} {st st' : Rp.Rt} {nv : Value} {W W' : World}
theorem RS.lt (h : RS src F base B dep st nv W) : B < W.heap.size := by
  obtain ⟨E, x, _, _, _, h1⟩ := h.rd
  exact Nat.lt_of_not_le fun hg => by rw [Array.getElem?_eq_none hg] at h1; cases h1
theorem RS.hbw (h : RS src F base B dep st nv W) : base ≤ W.heap.size := by have := h.lt; have := h.hB; omega
theorem RS.few (h : RS src F base B dep st nv W) : st.toks.length ≤ 4098 ∧ 1 ≤ st.toks.length := by
  obtain ⟨E, x, ⟨p, _, e, _⟩, _⟩ := h.rd
  have := run_len src.data.toList (src.data.toList.length + 1) p
  have := h.sm
  rw [e]; rw [size_list] at *; omega
/-- A world that has turned nothing old keeps the reader. -/
theorem RS.below (h : RS src F base B dep st nv W) (hb : Below W.heap.size W W') : RS src F base B dep st nv W' := by
  have c := Chg.below (B := B) nv hb
  have hlt := h.lt
  obtain ⟨E, x, h0, h1, h2, h3⟩ := h.rd
  obtain ⟨vs, e, ho, hn⟩ := h.nd
  exact ⟨h.hB, h.sm, h.low, ⟨E, x, h0, h1, h2, (hb.block B hlt).trans h3⟩, ⟨vs, e, own_below ho hb, fun x hx => (hn x hx).go c⟩, h.own, fun k hk => ⟨Nat.lt_of_lt_of_le (h.far k hk).1 hb.size, (h.far k hk).2⟩⟩
/-- The reader in another state, where its block alone has changed. -/
theorem RS.turn (h : RS src F base B dep st nv W) (c : ChgB B W W') (hn : st'.nodes = st.nodes) {dep' : Nat} (hd : dep' ≤ 40) {E x : Nat} (h0 : TokAt src st' E) (h1 : x ≤ 1) (h2 : st'.bad = false → x = 0)
    (h3 : W'.heap[B]? = some (.cells (rdA src (Rp.nx st') E nv (dep' + x) st'.bad) 53 (0, 0))) : RS src F base B dep' st' nv W' := by
  obtain ⟨vs, e, ho, hx⟩ := h.nd
  have c2 := c.chg nv
  exact ⟨h.hB, h.sm, hd, ⟨E, x, h0, h1, h2, h3⟩, ⟨vs, by rw [hn]; exact e, own_keep ho (c.keep ho h.own), fun x hm => (hx x hm).go c2⟩, h.own, fun k hk => ⟨Nat.lt_of_lt_of_le (h.far k hk).1 c.size, (h.far k hk).2⟩⟩
end
/-- What a function leaves of the reader. -/
def Leaves (src : ByteArray) (F : Nat → Prop) (base B dep : Nat) (nv : Value) (w : World) (st' : Rp.Rt) (w' : World) : Prop := ∃ nv', RS src F base B dep st' nv' w' ∧ Chg B nv nv' w w'
/-- At s a function tells r and leaves s'; nodes are not too many. -/
structure Ru {α : Type} (f : Rp.Q α) (s : Rp.Rt) (r : α) (s' : Rp.Rt) : Prop where
  eq : f s = (r, s')
  small : s'.nodes.length ≤ 1000000000
/-- A call ends with a value and leaves the reader in a state. -/
def Tells (src : ByteArray) (F : Nat → Prop) (base B dep : Nat) (nv : Value) (w : World) (s' : Rp.Rt) (v : Value) : Ending → World → Prop := fun e w' => e = .returned v ∧ Leaves src F base B dep nv w s' w'
theorem leq (a b : List UInt8) : (a == b) = decide (a = b) := by by_cases h : a = b <;> simp [h]
theorem bytes_eq (s : ByteArray) (l : List UInt8) : (s.toList == l) = decide (s.data.toList = l) := by
  rw [ByteArray.toList_eq]
  by_cases h : s.data.toList = l <;> simp [h]
section
variable {src : ByteArray} {F : Nat → Prop} {base B dep : Nat} {s s' : Rp.Rt} {nv : Value} {w : World}
/-- The reader's cells, at hand. -/
theorem RS.cells (h : RS src F base B dep s nv w) : ∃ E x : Nat, TokAt src s E ∧ x ≤ 1 ∧ (s.bad = false → x = 0) ∧ w.heap[B]? = some (.cells (rdA src (Rp.nx s) E nv (dep + x) s.bad) 53 (0, 0)) ∧
    w.cell? ⟨B, 0, none⟩ = some (.string src) ∧ w.cell? ⟨B, 1, none⟩ = some (.int .i64 ((Rp.nx s).k : Int)) ∧ w.cell? ⟨B, 2, none⟩ = some (.string ⟨(Rp.nx s).t.toArray⟩) ∧ w.cell? ⟨B, 3, none⟩ = some (.int .i64 ((Rp.nx s).n : Int)) ∧ w.cell? ⟨B, 4, none⟩ = some (.int .i64 ((Rp.nx s).a : Int)) ∧ w.cell? ⟨B, 5, none⟩ = some (.bool (Rp.nx s).ln) ∧ w.cell? ⟨B, 6, none⟩ = some (.int .i64 (E : Int)) ∧ w.cell? ⟨B, 7, none⟩ = some nv ∧ w.cell? ⟨B, 8, none⟩ = some (.int .i64 ((dep + x : Nat) : Int)) ∧ w.cell? ⟨B, 9, none⟩ = some (.bool s.bad) ∧ (∀ i, w.frozen? ⟨B, i, none⟩ = false) ∧ B < w.heap.size := by
  obtain ⟨E, x, h0, h1, h2, h3⟩ := h.rd
  exact ⟨E, x, h0, h1, h2, h3, cells10h h3⟩
set_option maxRecDepth 100000 in
set_option maxHeartbeats 1000000 in
theorem is_any (h : RS src F base B dep s nv w) (m : List UInt8) :
    Calls Tryz.prog 35 #[.pointer (some ⟨B, 0, none⟩), .string ⟨m.toArray⟩] w fun e w' => e = .returned (.bool (Rp.isS m s)) ∧ w' = w := by
  obtain ⟨E, x, -, -, -, -, c0, c1, c2, c3, c4, c5, c6, c7, c8, c9, cf, hlt⟩ := h.cells
  have hm : Rp.isS m s = (decide ((Rp.nx s).k = 4 ∨ (Rp.nx s).k = 5) && decide ((Rp.nx s).t = m)) := rfl
  rw [hm]
  clear hm h
  generalize Rp.nx s = T at *
  obtain ⟨tk, tt, tn, ta, tl, te⟩ := T
  simp only at *
  by_cases h5 : tk = 5
  · subst h5
    go_enter Tryz.func35, Tryz.ntmps35
    go_wp2_with fail
    go_ret
    simp
    exact leq tt m
  by_cases h4 : tk = 4
  · subst h4
    go_enter Tryz.func35, Tryz.ntmps35
    go_wp2_with fail
    go_ret
    simp
    exact leq tt m
  have e4 : ((tk : Int) == 4) = false := by rw [beq_eq_false_iff_ne]; omega
  have e5 : ((tk : Int) == 5) = false := by rw [beq_eq_false_iff_ne]; omega
  go_enter Tryz.func35, Tryz.ntmps35
  go_wp2_with fail
  go_ret
  simp [h4, h5]
end
end Go.Proofs.YtpjmapoiinjakaaGreatDoor.Rd
end
