import PyProof.Rows.All
import KE.DataEq
import PyProof.ReprRoads
import HandS.Text
import Wide.All
import OpenK.AllK
import Wide.FinOn
import HandS.Base
import HandS.Call
import HandS.List
import HandS.Comp
import HandS.Exc
import HandS.Lambda
import HandS.Flow
import HandS.TupAny
import HandS.StrMore
import HandS.Star
import HandS.TupMul
import HandS.Codes
import HandS.Dict
import PyProof.ToksMono
import PyProof.ListStr
import HandS.Conv
import HandS.RaiseMore
import PyProof.TupleCall
import KE.KDictSum
import HandS.Iter
import HandS.ExcValue
import HandS.ExcOwn
import HandS.OwnEq
import HandS.FStr
import HandS.IsInst
import PyProof.MeetsStr3
import PyProof.StrLawsLast
import PyProof.Rows.StrCut
import KE.GoesMore
import KE.GoesEnum
import HandS.Walk
import HandS.NoneIn
import KE.KUnpackStar
import HandS.DictComp
import HandS.Property
import HandS.ClsMeth
import HandS.Replace
import HandS.ReplaceLit
import PyProof.Rows.StrStrike
import PyProof.InstEq
import PyProof.Conv_bool
import KE.KCallOwn
import HandS.SlotsOwn
import PyProof.EqAt
import PyProof.EqKinds
import HandS.Ends
import HandS.EndBits
import HandS.HeadEnd
import HandS.HeadHook1
import HandS.HeadHook2
import HandS.EndTab
import HandS.TryOnly
import KE.KTryMore
import KE.KExcIs
import HandS.ExcField
import HandS.ExcInit
import HandS.HotCalls
import HandS.SetFor
import KE.KStateDown
import HandS.Head0
import HandS.Head1
import HandS.Head2
import HandS.Words
import Lean
import PyProof.ReprBulk
import PySem.Challenge.RW_quotedthreads_k03_programs_refused
set_option Elab.async false
set_option linter.all false
set_option maxRecDepth 100000
set_option maxHeartbeats 0
/-! Z0: values without addresses, a small tree of the language, its evaluation. -/
namespace Z
open PySem (Operator CmpOp)

inductive D where
  | non | bl (b : Bool) | int (i : Int) | str (x : List Nat)
  | tup (xs : List D) | lst (xs : List D) | dic (kvs : List (D × D))
  | ins (C : String) (fs : List (String × D))
  | exc (C : String) (fs : List (String × D))
  | glo (n : String) | ty (n : String) | obj (n : Nat) | row (ns : List Int)
  deriving Inhabited

/-- a thing that may change -/
inductive MO where
  | lst (xs : List D) | dic (kvs : List (D × D)) | ins (C : String) (fs : List (String × D))
  deriving Inhabited
abbrev Hd := List MO
abbrev Env := List (Option D)

inductive R (α : Type) where
  | ok (a : α) (h : Hd)
  | exc (C : String) (fs : List (String × D)) (h : Hd)
  | bad

def R.bind {α β : Type} (m : R α) (f : α → Hd → R β) : R β :=
  match m with
  | .ok a h => f a h
  | .exc C fs h => .exc C fs h
  | .bad => .bad
@[simp] theorem R.bind_ok {α β : Type} (a : α) (h : Hd) (f : α → Hd → R β) : (R.ok a h).bind f = f a h := rfl
@[simp] theorem R.bind_exc {α β : Type} (C : String) (fs : List (String × D)) (h : Hd) (f : α → Hd → R β) : (R.exc C fs h : R α).bind f = .exc C fs h := rfl
@[simp] theorem R.bind_bad {α β : Type} (f : α → Hd → R β) : (R.bad : R α).bind f = .bad := rfl
/-- an operation: nothing is raised -/
def R.st {α : Type} : R α → R α
  | .ok a h => .ok a h
  | _ => .bad
@[simp] theorem R.st_ok {α : Type} (a : α) (h : Hd) : (R.ok a h).st = .ok a h := rfl
@[simp] theorem R.st_bad {α : Type} : (R.bad : R α).st = .bad := rfl
def R.of {α : Type} (o : Option α) (hd : Hd) : R α := match o with
  | some a => .ok a hd
  | none => .bad
@[simp] theorem R.of_some {α : Type} (a : α) (hd : Hd) : R.of (some a) hd = .ok a hd := rfl
@[simp] theorem R.of_none {α : Type} (hd : Hd) : R.of (none : Option α) hd = .bad := rfl

/-! ### the tree -/
inductive IK | plain | range | enum | zip
  deriving DecidableEq
inductive Tg | name (i : Nat) | names (is : List Nat) | star (is : List Nat) (j : Nat)
  deriving DecidableEq
inductive BI | len | abs | int | bool | str | repr | all | any | tuple | list | max | min | divmod
  deriving DecidableEq
inductive MT | join | split | partition | rpartition | replace | removeprefix | startswith | strip | append | extend | pop | index | count
  deriving DecidableEq

mutual
inductive E where
  | var (i : Nat)
  | con (d : D)
  | glo (x : String)
  | bin (m : Bool) (op : Operator) (a b : E)
  | neg (a : E)
  | not (a : E)
  | and (a b : E)
  | or (a b : E)
  | ite (c a b : E)
  | cmp (op : CmpOp) (a b : E)
  | cmp2 (o1 o2 : CmpOp) (a b c : E)
  | bi (m : Bool) (f : BI) (es : Es)
  | isi (a : E) (own : Bool) (c : String)
  | mt (m : Bool) (f : MT) (o : E) (es : Es)
  | fn (f : String) (es : Es) (ks : List String) (kes : Es)
  | new (C : String) (es : Es) (ks : List String) (kes : Es)
  | me (f : String) (o : E) (es : Es) (ks : List String) (kes : Es)
  | att (o : E) (f : String)
  | ix (a b : E)
  | sl (m : Bool) (a lo hi : E)
  | nop
  | tup (es : Es)
  | lst (m : Bool) (es : Es)
  | star (e : E)
  | dic (ks es : Es)
  | lc (m : Bool) (elt : E) (own : List Nat) (tg : Tg) (k : IK) (its ifs : Es)
  | dc (kx vx : E) (own : List Nat) (tg : Tg) (k : IK) (its ifs : Es)
  | fs (es : Es)
  | fmt (a : E)
  | cm (C f : String) (es : Es) (ks : List String) (kes : Es)
  | newv (i : Nat) (es : Es) (ks : List String) (kes : Es)
  | told (e : E)
inductive Es where
  | nil
  | cons (e : E) (es : Es)
end

inductive S where
  | skip
  | seq (a b : S)
  | set (t : Tg) (e : E)
  | seta (o : E) (f : String) (e : E)
  | seti (o i e : E)
  | aug (op : Operator) (i : Nat) (e : E)
  | ifs (c : E) (a b : S)
  | for_ (t : Tg) (k : IK) (its : Es) (body : S)
  | while_ (n : Nat) (c : E) (body : S)
  | ret (e : E)
  | ret0
  | retr (f : String) (v : Nat) (k : E) (c : Nat)
  | ex (e : E)
  | raise (C : String) (es : Es)
  | try_ (b : S)
  | brk | cont | nope

/-- a def: its parameters, all its names (those first), its body; the ways it is called: positional values, keywords -/
structure Fn where
  names : List String
  slots : List String
  body : S
  kept : Bool := false
  shapes : List (Nat × List String)
inductive Kind | meth | prop | cls
  deriving DecidableEq
structure Cl where
  own : List (String × Kind)
  flds : List String
  kept : Bool := false
/-- an exception class: what its __init__ stores, in this order; what is told of one that is caught -/
structure Ex where
  fld : List String
  asks : List ((Bool × String) × Bool) := []
  word : List Nat
  told : Option String
structure Tab where
  fn : String × String → Option Fn
  cl : String → Option Cl
  con : String → Option D
  exc : String → Option Ex := fun _ => none
  lam : Bool := false

/-- where the evaluation stands: the table, what a call gives -/
structure G where
  T : Tab
  call : String × String → List D → List (String × D) → Hd → R D

/-! ### values -/
def line : Nat := 16777216

/-- the items of a list, a tuple -/
def items (hd : Hd) : D → Option (List D)
  | .tup xs => some xs
  | .lst xs => some xs
  | .row ns => some (ns.map .int)
  | .obj n => match hd[n]? with
    | some (.lst xs) => some xs
    | _ => none
  | _ => none
/-- a list that was made in the run -/
def lstOf (hd : Hd) : D → Option (List D)
  | .lst xs => some xs
  | .obj n => match hd[n]? with
    | some (.lst xs) => some xs
    | _ => none
  | _ => none
def isTup : D → Bool
  | .tup _ => true
  | _ => false
def dicOf (hd : Hd) : D → Option (List (D × D))
  | .dic kvs => some kvs
  | .obj n => match hd[n]? with
    | some (.dic kvs) => some kvs
    | _ => none
  | _ => none

/-- a new list: frozen, or one that may change -/
def mkL (m : Bool) (xs : List D) (hd : Hd) : R D :=
  if m then .ok (.obj hd.length) (hd ++ [.lst xs]) else .ok (.lst xs) hd

def truth (hd : Hd) : D → Option Bool
  | .non => some false
  | .bl b => some b
  | .int i => some (i != 0)
  | .str x => if x.length ≤ line then some (!x.isEmpty) else none
  | .tup xs => some (!xs.isEmpty)
  | .lst xs => some (!xs.isEmpty)
  | .row ns => some (!ns.isEmpty)
  | .dic kvs => some (!kvs.isEmpty)
  | .obj n => match hd[n]? with
    | some (.lst xs) => some (!xs.isEmpty)
    | some (.dic kvs) => some (!kvs.isEmpty)
    | _ => none
  | _ => none

/-! ### data -/
def b2i (b : Bool) : Int := if b then 1 else 0
mutual
/-- as data: no thing that may change, no instance -/
def toP : D → Option PySem.PyData
  | .non => some .none
  | .bl b => some (.bool b)
  | .int i => some (.int i)
  | .str x => some (.str ⟨x.toArray⟩)
  | .tup xs => (toPs xs).map .tuple
  | .lst xs => (toPs xs).map .list
  | .row ns => some (.list (ns.map .int))
  | _ => none
def toPs : List D → Option (List PySem.PyData)
  | [] => some []
  | x :: xs => match toP x, toPs xs with
    | some d, some ds => some (d :: ds)
    | _, _ => none
end
mutual
/-- as data, dicts of text keys too -/
def toQ : D → Option PySem.PyData
  | .non => some .none
  | .bl b => some (.bool b)
  | .int i => some (.int i)
  | .str x => some (.str ⟨x.toArray⟩)
  | .tup xs => (toQs xs).map .tuple
  | .lst xs => (toQs xs).map .list
  | .row ns => some (.list (ns.map .int))
  | .dic kvs => (toQk kvs).map .dict
  | _ => none
def toQs : List D → Option (List PySem.PyData)
  | [] => some []
  | x :: xs => match toQ x, toQs xs with
    | some d, some ds => some (d :: ds)
    | _, _ => none
def toQk : List (D × D) → Option (List (PySem.PyData × PySem.PyData))
  | [] => some []
  | (k, x) :: xs => match toQ k, toQ x, toQk xs with
    | some c, some d, some ds => some ((c, d) :: ds)
    | _, _, _ => none
end
/-- a list that may change, at the top -/
def topP (hd : Hd) : D → Option PySem.PyData
  | .obj n => match hd[n]? with
    | some (.lst xs) => (toPs xs).map .list
    | _ => none
  | d => toP d
/-- == of data without dicts -/
def eqd (hd : Hd) (x y : D) : Option Bool :=
  match topP hd x, topP hd y with
  | some a, some b => if a.plain = true ∧ b.plain = true ∧ min a.depth b.depth ≤ 64 then some (PySem.PyData.eqv a b) else none
  | _, _ => none

/-- what a dict of text keys has -/
def lkD (z : List Nat) : List (D × D) → Option D
  | [] => none
  | (k, v) :: r => match k with
    | .str y => if y = z then some v else lkD z r
    | _ => none
def inD (hd : Hd) (x y : D) : Option Bool :=
  match topP hd x, topP hd y with
  | some a, some (.list ds) => if a.plain = true ∧ PySem.PyData.plainAll ds = true ∧ min (PySem.PyData.depthAll ds) a.depth ≤ 64 then some (ds.any fun d => PySem.PyData.eqv d a) else none
  | some a, some (.tuple ds) => if a.plain = true ∧ PySem.PyData.plainAll ds = true ∧ min (PySem.PyData.depthAll ds) a.depth ≤ 64 then some (ds.any fun d => PySem.PyData.eqv d a) else none
  | _, _ => none
def inS (hd : Hd) (x y : D) : Option Bool :=
  match y with
  | .str z => (match x with
    | .str [c] => some (decide (c ∈ z))
    | _ => none)
  | .dic kvs => (match x with
    | .str z => some (lkD z kvs).isSome
    | _ => none)
  | y => inD hd x y

def big : Int := 18446744073709551616
def addS (m : Bool) (x y : D) (hd : Hd) : R D :=
  match x, y with
  | .int a, .int b => .ok (.int (a + b)) hd
  | .str a, .str b => if a.length + b.length ≤ line then .ok (.str (a ++ b)) hd else .bad
  | .tup a, .tup b => if a.length + b.length ≤ line then .ok (.tup (a ++ b)) hd else .bad
  | x, y => match lstOf hd x, lstOf hd y with
    | some a, some b => if a.length + b.length ≤ line then mkL m (a ++ b) hd else .bad
    | _, _ => .bad
def mulS (m : Bool) (x y : D) (hd : Hd) : R D :=
  match x, y with
  | .int a, .int b => if (-big < a ∧ a < big) ∨ (-big < b ∧ b < big) then .ok (.int (a * b)) hd else .bad
  | .tup a, .int k => if a ≠ [] ∧ 2 ≤ k ∧ k ≤ 1000 ∧ a.length ≤ 1000 then .ok (.tup (List.replicate k.toNat a).flatten) hd else .bad
  | x, .int k => match lstOf hd x with
    | some a => if -9223372036854775808 ≤ k ∧ k < 9223372036854775808 ∧ a.length * k.toNat ≤ line then mkL m (List.replicate k.toNat a).flatten hd else .bad
    | _ => .bad
  | _, _ => .bad
def binS (m : Bool) (op : Operator) (x y : D) (hd : Hd) : R D :=
  match op with
  | .Add => addS m x y hd
  | .Mult => mulS m x y hd
  | .Sub => (match x, y with
    | .int a, .int b => .ok (.int (a - b)) hd
    | _, _ => .bad)
  | .FloorDiv => (match x, y with
    | .int a, .int b => if 0 < b ∧ b < 1073741824 then .ok (.int (a / b)) hd else .bad
    | _, _ => .bad)
  | .Mod => (match x, y with
    | .int a, .int b => if 0 < b then .ok (.int (a % b)) hd else .bad
    | _, _ => .bad)
  | .Pow => (match x, y with
    | .int a, .int b => if 0 ≤ b ∧ b ≤ 1000000 ∧ a.natAbs < 2 ^ 64 then .ok (.int (a ^ b.toNat)) hd else .bad
    | _, _ => .bad)
  | _ => .bad

/-- the built-in type of a value -/
def tyD (hd : Hd) : D → Option String
  | .non => some "NoneType"
  | .bl _ => some "bool"
  | .int _ => some "int"
  | .str _ => some "str"
  | .tup _ => some "tuple"
  | .lst _ => some "list"
  | .row _ => some "list"
  | .dic _ => some "dict"
  | .obj n => match hd[n]? with
    | some (.lst _) => some "list"
    | some (.dic _) => some "dict"
    | _ => none
  | _ => none
def insOf (hd : Hd) : D → Option String
  | .ins C _ => some C
  | .obj n => match hd[n]? with
    | some (.ins C _) => some C
    | _ => none
  | _ => none
/-- what may stand at the right of an own == -/
def cmpOk (g : G) (y : D) (hd : Hd) : Bool := match tyD hd y with
  | some _ => true
  | none => match insOf hd y with
    | some C => (g.T.cl C).isSome
    | none => false
/-- == and !=: an own __eq__ by its call, else data -/
def eqS (g : G) (x y : D) (hd : Hd) : R Bool :=
  match x with
  | .ins C _ => match g.T.cl C with
    | some c => if c.own.lookup "__eq__" = some .meth ∧ cmpOk g y hd = true then (g.call (C, "__eq__") [x, y] [] hd).bind fun r hd => match r with
        | .bl b => .ok b hd
        | _ => .bad
      else .bad
    | none => .bad
  | _ => R.of (eqd hd x y) hd
def immD : D → Nat
  | .non => 0
  | .bl _ => 1
  | .int _ => 2
  | .str _ => 3
  | .ty _ => 5
  | _ => 4
mutual
/-- surely not the same thing -/
def diffD : D → D → Bool
  | .str a, y => (match y with
    | .str b => !decide (a = b)
    | y => immD y != 3)
  | .bl a, y => (match y with
    | .bl b => !decide (a = b)
    | y => immD y != 1)
  | .int a, y => (match y with
    | .int b => !decide (a = b)
    | y => immD y != 2)
  | .non, y => immD y != 0
  | .tup xs, y => (match y with
    | .tup ys => diffL xs ys
    | y => immD y != 4)
  | .ins _ fs, y => (match y with
    | .ins _ gs => diffF fs gs
    | y => immD y != 4)
  | _, _ => false
def diffL : List D → List D → Bool
  | [], ys => !ys.isEmpty
  | x :: xs, ys => (match ys with
    | [] => true
    | y :: ys => diffD x y || diffL xs ys)
def diffF : List (String × D) → List (String × D) → Bool
  | [], _ => false
  | (_, x) :: xs, ys => (match ys with
    | [] => false
    | (_, y) :: ys => diffD x y || diffF xs ys)
end
/-- == of two instances by the first one's own __eq__ -/
def ownEq (g : G) (C : String) (x y : D) (hd : Hd) : R Bool := match g.T.cl C with
  | some c => if c.own.lookup "__eq__" = some .meth ∧ cmpOk g y hd = true then (g.call (C, "__eq__") [x, y] [] hd).bind fun r hd => match r with
      | .bl b => .ok b hd
      | _ => .bad
    else .bad
  | none => .bad
open Classical in
/-- == of two rows of instances -/
noncomputable def eqI (g : G) : List D → List D → Hd → R Bool
  | [], ys, hd => .ok ys.isEmpty hd
  | x :: xs, ys, hd => match ys with
    | [] => .ok false hd
    | y :: ys => match x, y with
      | .ins C fs, .ins C' gs => (match ownEq g C (.ins C fs) (.ins C' gs) hd with
        | .ok b h1 => if h1 = hd ∧ (b = true ∨ diffD (.ins C fs) (.ins C' gs) = true) then (if b then eqI g xs ys hd else .ok false hd) else .bad
        | _ => .bad)
      | _, _ => .bad
/-- ==, of rows of instances too -/
noncomputable def eqS2 (g : G) (x y : D) (hd : Hd) : R Bool :=
  match x with
  | .tup xs => (match eqd hd (.tup xs) y with
    | some b => .ok b hd
    | none => (match y with
      | .tup ys => eqI g xs ys hd
      | _ => .bad))
  | x => eqS g x y hd
def isNon : D → Bool
  | .non => true
  | _ => false
def isS (neg : Bool) (x y : D) (hd : Hd) : R D :=
  match y with
  | .non => (match x with
    | .exc _ _ => .bad
    | x => .ok (.bl (isNon x != neg)) hd)
  | _ => .bad
noncomputable def cmpS (g : G) (op : CmpOp) (x y : D) (hd : Hd) : R D :=
  match op with
  | .Eq => (eqS2 g x y hd).bind fun b hd => .ok (.bl b) hd
  | .NotEq => (eqS g x y hd).bind fun b hd => .ok (.bl (!b)) hd
  | .Lt => (match x, y with
    | .int a, .int b => .ok (.bl (decide (a < b))) hd
    | _, _ => .bad)
  | .LtE => (match x, y with
    | .int a, .int b => .ok (.bl (decide (a ≤ b))) hd
    | _, _ => .bad)
  | .Gt => (match x, y with
    | .int a, .int b => .ok (.bl (decide (b < a))) hd
    | _, _ => .bad)
  | .GtE => (match x, y with
    | .int a, .int b => .ok (.bl (decide (b ≤ a))) hd
    | _, _ => .bad)
  | .Is => isS false x y hd
  | .IsNot => isS true x y hd
  | .In => (R.of (inS hd x y) hd).bind fun b hd => .ok (.bl b) hd
  | .NotIn => (R.of (inS hd x y) hd).bind fun b hd => .ok (.bl (!b)) hd

/-! ### texts -/
def bls : List D → Option (List Bool)
  | [] => some []
  | .bl b :: r => (bls r).map (b :: ·)
  | _ :: _ => none
def stx : List D → Option (List (List Nat))
  | [] => some []
  | .str x :: r => (stx r).map (x :: ·)
  | _ :: _ => none
/-- where p stands last in z -/
def lastL (p z : List Nat) : Option Nat := PySem.Builtin.Str.lastOccurrence ⟨z.toArray⟩ ⟨p.toArray⟩ 0 z.length
def repC (c : Nat) (y : List Nat) : List Nat → List Nat
  | [] => []
  | a :: x => if a = c then y ++ repC c y x else a :: repC c y x
def decI (i : Int) : List Nat := (PySem.Str.ofString (toString i)).cps.toList

/-! ### subscripts -/
def ixn (n : Nat) (i : Int) : Option Nat := if 0 ≤ i then (if i < n then some i.toNat else none) else if -(n : Int) ≤ i then some (i + n).toNat else none
def atI {α : Type} (xs : List α) (i : Int) : Option α := (ixn xs.length i).bind fun j => xs[j]?
def sIx (n d : Nat) : Option Int → Nat
  | none => d
  | some v => if v < 0 then (v + (n : Int)).toNat else min v.toNat n
def cutL {α : Type} (xs : List α) (lo hi : Option Int) : List α := (xs.drop (sIx xs.length 0 lo)).take (sIx xs.length xs.length hi - sIx xs.length 0 lo)
def ixS (x y : D) (hd : Hd) : R D :=
  match x, y with
  | .str z, .int i => if z.length ≤ line then R.of ((atI z i).map fun c => .str [c]) hd else .bad
  | x, .int i => match items hd x with
    | some xs => R.of (atI xs i) hd
    | none => .bad
  | x, .str z => match dicOf hd x with
    | some kvs => R.of (lkD z kvs) hd
    | none => .bad
  | _, _ => .bad
def partI : D → Option (Option Int)
  | .non => some none
  | .int i => some (some i)
  | _ => none
def slS (m : Bool) (x lo hi : D) (hd : Hd) : R D :=
  match partI lo, partI hi with
  | some l, some u => (match x with
    | .str z => if z.length ≤ line then .ok (.str (cutL z l u)) hd else .bad
    | .tup xs => .ok (.tup (cutL xs l u)) hd
    | x => match items hd x with
      | some xs => mkL m (cutL xs l u) hd
      | none => .bad)
  | _, _ => .bad

/-! ### built-ins -/
/-- repr of data -/
def shwS (x : D) (hd : Hd) : R D :=
  match topP hd x with
  | some a => if a.showable = true ∧ a.depth ≤ 64 ∧ a.shown.length ≤ line then .ok (.str a.shown.cps.toList) hd else .bad
  | none => match toQ x with
    | some a => if a.showable = true ∧ a.depth ≤ 64 ∧ a.shown.length ≤ line then .ok (.str a.shown.cps.toList) hd else .bad
    | none => .bad
/-- what str(x) and a written part of a text give; repr where r -/
def strS (g : G) (r : Bool) (x : D) (hd : Hd) : R D :=
  match x with
  | .ins C _ => match g.T.cl C with
    | some c => if c.own.lookup (if r then "__repr__" else "__str__") = some .meth then (g.call (C, if r then "__repr__" else "__str__") [x] [] hd).bind fun v hd => match v with
        | .str z => .ok (.str z) hd
        | _ => .bad
      else .bad
    | none => .bad
  | .int i => if r then shwS (.int i) hd else if i.natAbs.log2 < 1920 then .ok (.str (decI i)) hd else .bad
  | x => if r then shwS x hd else .bad
def lenS (x : D) (hd : Hd) : R D :=
  match x with
  | .str z => if z.length ≤ line then .ok (.int z.length) hd else .bad
  | x => match items hd x with
    | some xs => .ok (.int xs.length) hd
    | none => .bad
def listS (m : Bool) (x : D) (hd : Hd) : R D :=
  match x with
  | .str z => if z.length ≤ line then mkL m (z.map fun c => .str [c]) hd else .bad
  | x => match items hd x with
    | some xs => mkL m xs hd
    | none => .bad
def boolS (g : G) (x : D) (hd : Hd) : R D :=
  match x with
  | .ins C _ => (match g.T.cl C with
    | some c => if c.own.lookup "__bool__" = none ∧ c.own.lookup "__len__" = none then .ok (.bl true) hd else .bad
    | none => .bad)
  | _ => .bad
def biS1 (g : G) (m : Bool) (f : BI) (x : D) (hd : Hd) : R D :=
  match f with
  | .len => lenS x hd
  | .abs => (match x with
    | .int i => .ok (.int (if i < 0 then -i else i)) hd
    | _ => .bad)
  | .int => (match x with
    | .int i => .ok (.int i) hd
    | .bl b => .ok (.int (b2i b)) hd
    | _ => .bad)
  | .bool => boolS g x hd
  | .str => strS g false x hd
  | .repr => strS g true x hd
  | .all => (match (items hd x).bind bls with
    | some bs => if isTup x = false then .ok (.bl (bs.all id)) hd else .bad
    | none => .bad)
  | .any => (match (items hd x).bind bls with
    | some bs => if isTup x = false then .ok (.bl (bs.any id)) hd else .bad
    | none => .bad)
  | .tuple => (match items hd x with
    | some xs => .ok (.tup xs) hd
    | none => (match x with
      | .dic kvs => .ok (.tup (kvs.map (·.1))) hd
      | _ => .bad))
  | .list => listS m x hd
  | _ => .bad
def biS2 (f : BI) (x y : D) (hd : Hd) : R D :=
  match f with
  | .max => (match x, y with
    | .int i, .int j => .ok (.int (if j > i then j else i)) hd
    | _, _ => .bad)
  | .min => (match x, y with
    | .int i, .int j => .ok (.int (if j < i then j else i)) hd
    | _, _ => .bad)
  | .divmod => (match x, y with
    | .int i, .int j => if 0 < j ∧ j < 1073741824 then .ok (.tup [.int (i / j), .int (i % j)]) hd else .bad
    | _, _ => .bad)
  | _ => .bad
def biS (g : G) (m : Bool) (f : BI) (xs : List D) (hd : Hd) : R D :=
  match xs with
  | [x] => biS1 g m f x hd
  | [x, y] => biS2 f x y hd
  | _ => .bad
def isiS (g : G) (own : Bool) (c : String) (x : D) (hd : Hd) : Option Bool :=
  match tyD hd x with
  | some t => if own then (if (g.T.cl c).isSome then some false else none) else if c ∈ ["str", "bool", "tuple"] then some (t == c) else none
  | none => match insOf hd x with
    | some C => if (g.T.cl C).isSome then (if own then (if (g.T.cl c).isSome then some (C == c) else none) else if c ∈ ["str", "bool", "tuple"] then some false else none) else none
    | none => none

/-- where what is left begins, where it ends -/
def stpA (y z : List Nat) : Nat := (z.takeWhile y.toArray.contains).length
def stpB (y z : List Nat) : Nat := z.length - ((z.drop (stpA y z)).reverse.takeWhile y.toArray.contains).length
def stpL (y z : List Nat) : List Nat := (z.drop (stpA y z)).take (stpB y z - stpA y z)
def mtA (m : Bool) (f : MT) (z : List Nat) (xs : List D) (hd : Hd) : R D :=
  match f with
  | .join => (match xs with
    | [y] => (match (items hd y).bind stx with
      | some ys => if (ys.map (·.length)).sum + ys.length * z.length ≤ line then .ok (.str (TL.joinL z ys)) hd else .bad
      | none => .bad)
    | _ => .bad)
  | .split => (match xs with
    | [.str [c]] => if c < 256 ∧ z.length + 2 ≤ line then mkL m ((TL.spl [c] 0 [] z).map .str) hd else .bad
    | _ => .bad)
  | .partition => (match xs with
    | [.str (c :: p)] => if z.length ≤ line then .ok (match TL.par (c :: p) [] z with
        | some (u, v) => .tup [.str u, .str (c :: p), .str v]
        | none => .tup [.str z, .str [], .str []]) hd else .bad
    | _ => .bad)
  | .rpartition => (match xs with
    | [.str (c :: p)] => if z.length ≤ line then .ok (match lastL (c :: p) z with
        | some i => .tup [.str (z.take i), .str (c :: p), .str (z.drop (i + (p.length + 1)))]
        | none => .tup [.str [], .str [], .str z]) hd else .bad
    | _ => .bad)
  | .replace => (match xs with
    | [.str [c], .str y] => if z.length * (y.length + 1) ≤ 1000000 then .ok (.str (repC c y z)) hd else .bad
    | _ => .bad)
  | .removeprefix => (match xs with
    | [.str (c :: p)] => if z.length ≤ line then .ok (.str (if TL.pre (c :: p) z = true then z.drop (p.length + 1) else z)) hd else .bad
    | _ => .bad)
  | .startswith => (match xs with
    | [.str p] => .ok (.bl (TL.pre p z)) hd
    | _ => .bad)
  | .strip => (match xs with
    | [.str y] => if z.length ≤ line then .ok (.str (stpL y z)) hd else .bad
    | _ => .bad)
  | _ => .bad
/-- of a list that may change -/
def mtB (f : MT) (n : Nat) (ys : List D) (xs : List D) (hd : Hd) : R D :=
  match f with
  | .append => (match xs with
    | [y] => if ys.length < line then .ok .non (hd.set n (.lst (ys ++ [y]))) else .bad
    | _ => .bad)
  | .extend => (match xs with
    | [y] => (match lstOf hd y with
      | some zs => if ys.length + zs.length ≤ line then .ok .non (hd.set n (.lst (ys ++ zs))) else .bad
      | none => .bad)
    | _ => .bad)
  | .pop => (match xs with
    | [.int i] => (match ixn ys.length i with
      | some j => (match ys[j]? with
        | some v => if ys.length ≤ line then .ok v (hd.set n (.lst (ys.eraseIdx j))) else .bad
        | none => .bad)
      | none => .bad)
    | _ => .bad)
  | _ => .bad
def mtS (m : Bool) (f : MT) (x : D) (xs : List D) (hd : Hd) : R D :=
  match x with
  | .str z => mtA m f z xs hd
  | .obj n => (match hd[n]? with
    | some (.lst ys) => mtB f n ys xs hd
    | _ => .bad)
  | _ => .bad

/-! ### targets -/
def setAll (env : Env) : List Nat → List D → Env
  | i :: is, v :: vs => setAll (env.set i (some v)) is vs
  | _, _ => env
def wipe (env : Env) : List Nat → Env
  | [] => env
  | v :: vs => (wipe env vs).set v none
/-- a store: the new slots, the new things -/
def storeS (t : Tg) (v : D) (env : Env) (hd : Hd) : Option Env :=
  match t with
  | .name i => some (env.set i (some v))
  | .names is => match items hd v with
    | some xs => if xs.length = is.length then some (setAll env is xs) else none
    | none => none
  | .star is j => match v, is with
    | .lst (x :: xs), [i] => some ((env.set i (some x)).set j (some (.lst xs)))
    | _, _ => none
/-- what is walked: its items, or a list that may change -/
def iterS (k : IK) (xs : List D) (hd : Hd) : Option (List D ⊕ Nat) :=
  match k, xs with
  | .plain, [.str z] => if z.length ≤ line then some (.inl (z.map fun c => .str [c])) else none
  | .plain, [.tup us] => some (.inl us)
  | .plain, [.lst us] => some (.inl us)
  | .plain, [.row us] => some (.inl (us.map .int))
  | .plain, [.obj n] => match hd[n]? with
    | some (.lst _) => some (.inr n)
    | _ => none
  | .range, [.int n] => if -4611686018427387904 ≤ n ∧ n < 4611686018427387904 then some (.inl ((List.range n.toNat).map fun (i : Nat) => .int (0 + (i : Int)))) else none
  | .range, [.int a, .int b] => if -4611686018427387904 ≤ a ∧ a < 4611686018427387904 ∧ -4611686018427387904 ≤ b ∧ b < 4611686018427387904 then
      some (.inl ((List.range (b - a).toNat).map fun (i : Nat) => .int (a + (i : Int)))) else none
  | .enum, [.tup us] => some (.inl (((((List.range us.length).map fun (i : Nat) => D.int (i : Int))).zip us).map fun p => .tup [p.1, p.2]))
  | .enum, [.lst us] => some (.inl (((((List.range us.length).map fun (i : Nat) => D.int (i : Int))).zip us).map fun p => .tup [p.1, p.2]))
  | _, _ => none

def attS (g : G) (x : D) (f : String) (hd : Hd) : R D :=
  match x with
  | .ins C fs => (match g.T.cl C with
    | some c => (match c.own.lookup f with
      | some .prop => g.call (C, f) [x] [] hd
      | some _ => .bad
      | none => if f ∈ c.flds then R.of (fs.lookup f) hd else .bad)
    | none => .bad)
  | .obj n => (match hd[n]? with
    | some (.ins C fs) => (match g.T.cl C with
      | some c => (match c.own.lookup f with
        | some .prop => g.call (C, f) [x] [] hd
        | some _ => .bad
        | none => if f ∈ c.flds then R.of (fs.lookup f) hd else .bad)
      | none => .bad)
    | _ => .bad)
  | .exc _ fs => R.of (fs.lookup f) hd
  | _ => .bad
/-- the class whose method o.f is: an instance's, or (cls) a class's own -/
def meK (g : G) (f : String) (x : D) (hd : Hd) : Option String :=
  match x with
  | .ins C fs => (match g.T.cl C with
    | some c => if c.own.lookup f = some .meth ∧ fs.lookup f = none then some C else none
    | none => none)
  | .obj n => (match hd[n]? with
    | some (.ins C fs) => (match g.T.cl C with
      | some c => if c.own.lookup f = some .meth ∧ fs.lookup f = none then some C else none
      | none => none)
    | _ => none)
  | _ => none
def isLM : MT → Bool
  | .append | .extend | .pop => true
  | _ => false
/-- what o.m asks of o -/
def tyOk (f : MT) (x : D) (hd : Hd) : Bool :=
  if isLM f then (lstOf hd x).isSome else match x with
    | .str _ => true
    | _ => false

/-- no place from n on is named -/
def low (n : Nat) : D → Bool
  | .obj m => decide (m < n)
  | .tup xs => lows n xs
  | .lst xs => lows n xs
  | .dic kvs => lowk n kvs
  | .ins _ fs => lowf n fs
  | .exc _ fs => lowf n fs
  | _ => true
where
  lows (n : Nat) : List D → Bool
    | [] => true
    | x :: xs => low n x && lows n xs
  lowk (n : Nat) : List (D × D) → Bool
    | [] => true
    | (k, x) :: xs => low n k && (low n x && lowk n xs)
  lowf (n : Nat) : List (String × D) → Bool
    | [] => true
    | (_, x) :: xs => low n x && lowf n xs
def lowO (n : Nat) : MO → Bool
  | .lst xs => low.lows n xs
  | .dic kvs => low.lowk n kvs
  | .ins _ fs => low.lowf n fs

/-- a new instance -/
def newS (g : G) (C : String) (xs : List D) (ks : List (String × D)) (hd : Hd) : R D :=
  match g.call (C, "__init__") (.obj hd.length :: xs) ks (hd ++ [.ins C []]) with
  | .ok .non h1 => (match g.T.cl C, h1[hd.length]? with
    | some c, some (.ins C' fs) => if h1.length = hd.length + 1 ∧ C' = C then
        (if c.kept then .ok (.obj hd.length) h1
          else if low.lowf hd.length fs = true ∧ (h1.take hd.length).all (lowO hd.length) = true then .ok (.ins C fs) (h1.take hd.length) else .bad) else .bad
    | _, _ => .bad)
  | .ok _ _ => .bad
  | .exc C fs h1 => if low.lowf hd.length fs = true ∧ (h1.take hd.length).all (lowO hd.length) = true then .exc C fs (h1.take hd.length) else .bad
  | .bad => .bad
/-! ### expressions -/
/-- the tests of a comprehension -/
def lcV (sto : D → Env → Hd → Option Env) (tst : Env → Hd → R Bool) (elt : Env → Hd → R D) (env : Env) : List D → List D → Hd → R (List D)
  | [], acc, hd => .ok acc hd
  | v :: vs, acc, hd => match sto v env hd with
    | none => .bad
    | some env1 => match tst env1 hd with
      | .ok true h1 => match elt env1 h1 with
        | .ok y h2 => if acc.length < line then lcV sto tst elt env vs (acc ++ [y]) h2 else .bad
        | _ => .bad
      | .ok false h1 => lcV sto tst elt env vs acc h1
      | _ => .bad
/-- over a list that may change: n items at each turn -/
def lcO (sto : D → Env → Hd → Option Env) (tst : Env → Hd → R Bool) (elt : Env → Hd → R D) (env : Env) (a n : Nat) : Nat → List D → Hd → R (List D)
  | 0, acc, hd => match hd[a]? with
    | some (.lst xs) => if xs.length = n then .ok acc hd else .bad
    | _ => .bad
  | k + 1, acc, hd => match hd[a]? with
    | some (.lst xs) => if xs.length = n then match xs[n - (k + 1)]? with
      | none => .bad
      | some v => match sto v env hd with
        | none => .bad
        | some env1 => match tst env1 hd with
          | .ok true h1 => match elt env1 h1 with
            | .ok y h2 => if acc.length < line then lcO sto tst elt env a n k (acc ++ [y]) h2 else .bad
            | _ => .bad
          | .ok false h1 => lcO sto tst elt env a n k acc h1
          | _ => .bad
      else .bad
    | _ => .bad
/-- a dict's comprehension: text keys -/
def isK (k : List Nat) : D → Bool
  | .str z => decide (z = k)
  | _ => false
def putD (kvs : List (D × D)) (k : List Nat) (v : D) : List (D × D) :=
  if kvs.any (fun kv => isK k kv.1) = true then kvs.map (fun kv => if isK k kv.1 = true then (kv.1, v) else kv) else kvs ++ [(.str k, v)]
def dcV (sto : D → Env → Hd → Option Env) (tst : Env → Hd → R Bool) (key elt : Env → Hd → R D) (env : Env) : List D → List (D × D) → Hd → R (List (D × D))
  | [], acc, hd => .ok acc hd
  | v :: vs, acc, hd => match sto v env hd with
    | none => .bad
    | some env1 => match tst env1 hd with
      | .ok true h1 => match key env1 h1 with
        | .ok (.str z) h2 => match elt env1 h2 with
          | .ok y h3 => if acc.length < line then dcV sto tst key elt env vs (putD acc z y) h3 else .bad
          | _ => .bad
        | _ => .bad
      | .ok false h1 => dcV sto tst key elt env vs acc h1
      | _ => .bad

def truthR (m : R D) : R Bool := m.bind fun v hd => R.of (truth hd v) hd
def notE : R D → R D := fun m => m.bind fun v hd => (R.of (truth hd v) hd).bind fun b hd => .ok (.bl (!b)) hd

/-- told(lambda: e): what e gives, or which exception it raises -/
def toldS (T : Tab) : R D → R D
  | .ok d hd => .ok (.lst [.str [116, 111, 108, 100], d]) hd
  | .exc C fs hd => (match T.exc C with
    | some x => (match x.told with
      | none => .ok (.lst [.str x.word, .str [78, 111, 110, 101]]) hd
      | some f => (match fs.lookup f with
        | some d => (shwS d hd).st.bind fun z hd => .ok (.lst [.str x.word, z]) hd
        | none => .bad))
    | none => .bad)
  | .bad => .bad
def intS (x : D) (hd : Hd) : R D := match x with
  | .int i => .ok (.int i) hd
  | _ => .bad
/-- a written part of a text -/
def fmtS (x : D) (hd : Hd) : R D := match x with
  | .str z => if z.length ≤ line then .ok (.str z) hd else .bad
  | .int i => if i.natAbs.log2 < 1920 then .ok (.str (decI i)) hd else .bad
  | _ => .bad
mutual
noncomputable def evE (g : G) : E → Env → Hd → R D
  | .var i, env, hd => match env[i]? with
    | some (some v) => .ok v hd
    | _ => .bad
  | .con d, _, hd => .ok d hd
  | .glo x, _, hd => match g.T.con x with
    | some d => .ok d hd
    | none => match g.T.cl x with
      | some _ => .ok (.glo x) hd
      | none => .bad
  | .bin m op a b, env, hd => (evE g a env hd).bind fun x hd => (evE g b env hd).bind fun y hd => (binS m op x y hd).st
  | .neg a, env, hd => (evE g a env hd).bind fun x hd => match x with
    | .int i => .ok (.int (-i)) hd
    | _ => .bad
  | .not a, env, hd => (truthR (evE g a env hd)).bind fun b hd => .ok (.bl (!b)) hd
  | .and a b, env, hd => (evE g a env hd).bind fun x hd => (R.of (truth hd x) hd).bind fun c hd => if c then evE g b env hd else .ok x hd
  | .or a b, env, hd => (evE g a env hd).bind fun x hd => (R.of (truth hd x) hd).bind fun c hd => if c then .ok x hd else evE g b env hd
  | .ite c a b, env, hd => (truthR (evE g c env hd)).bind fun k hd => if k then evE g a env hd else evE g b env hd
  | .cmp op a b, env, hd => (evE g a env hd).bind fun x hd => (evE g b env hd).bind fun y hd => (cmpS g op x y hd).st
  | .cmp2 o1 o2 a b c, env, hd => (evE g a env hd).bind fun x hd => (evE g b env hd).bind fun y hd => (cmpS g o1 x y hd).st.bind fun r hd => match r with
    | .bl k => if k then (evE g c env hd).bind fun z hd => (cmpS g o2 y z hd).st else .ok (.bl false) hd
    | _ => .bad
  | .bi m f es, env, hd => (evEs g es env hd).bind fun xs hd => (biS g m f xs hd).st
  | .isi a own c, env, hd => (evE g a env hd).bind fun x hd => (R.of (isiS g own c x hd) hd).bind fun b hd => .ok (.bl b) hd
  | .mt m f o es, env, hd => (evE g o env hd).bind fun x hd => if tyOk f x hd = true then (evEs g es env hd).bind fun xs hd => (mtS m f x xs hd).st else .bad
  | .fn f es ks kes, env, hd => (evEs g es env hd).bind fun xs hd => (evEs g kes env hd).bind fun ys hd => if ys.length = ks.length then g.call ("", f) xs (ks.zip ys) hd else .bad
  | .new C es ks kes, env, hd => (evEs g es env hd).bind fun xs hd => (evEs g kes env hd).bind fun ys hd => if ys.length = ks.length then newS g C xs (ks.zip ys) hd else .bad
  | .me f o es ks kes, env, hd => (evE g o env hd).bind fun x hd => match meK g f x hd with
    | some C => (evEs g es env hd).bind fun xs hd => (evEs g kes env hd).bind fun ys hd => if ys.length = ks.length then g.call (C, f) (x :: xs) (ks.zip ys) hd else .bad
    | none => .bad
  | .att o f, env, hd => (evE g o env hd).bind fun x hd => (attS g x f hd).st
  | .ix a b, env, hd => (evE g a env hd).bind fun x hd => (evE g b env hd).bind fun y hd => (ixS x y hd).st
  | .sl m a lo hi, env, hd => (evE g a env hd).bind fun x hd => (match lo with | .nop => R.ok D.non hd | lo => (evE g lo env hd).bind intS).bind fun l hd => (match hi with | .nop => R.ok D.non hd | hi => (evE g hi env hd).bind intS).bind fun u hd => (slS m x l u hd).st
  | .nop, _, _ => .bad
  | .tup es, env, hd => (evEs g es env hd).bind fun xs hd => if xs.length ≤ line then .ok (.tup xs) hd else .bad
  | .lst m es, env, hd => (evEs g es env hd).bind fun xs hd => if xs.length ≤ line then mkL m xs hd else .bad
  | .star _, _, _ => .bad
  | .dic ks es, env, hd => match ks, es with
    | .nil, .nil => .ok (.dic []) hd
    | .cons (.con (.str k)) .nil, .cons (.con (.str x)) .nil => .ok (.dic [(.str k, .str x)]) hd
    | _, _ => .bad
  | .lc m elt own tg k its ifs, env, hd => (evEs g its env hd).bind fun xs hd => match iterS k xs hd with
    | some (.inl vs) => (lcV (storeS tg) (fun env hd => evAll g ifs env hd) (fun env hd => evE g elt env hd) (wipe env own) vs [] hd).bind fun ys hd => mkL m ys hd
    | some (.inr a) => match hd[a]? with
      | some (.lst us) => (lcO (storeS tg) (fun env hd => evAll g ifs env hd) (fun env hd => evE g elt env hd) (wipe env own) a us.length us.length [] hd).bind fun ys hd => mkL m ys hd
      | _ => .bad
    | none => .bad
  | .dc kx vx own tg k its ifs, env, hd => (evEs g its env hd).bind fun xs hd => match iterS k xs hd with
    | some (.inl vs) => (dcV (storeS tg) (fun env hd => evAll g ifs env hd) (fun env hd => evE g kx env hd) (fun env hd => evE g vx env hd) (wipe env own) vs [] hd).bind fun kvs hd => .ok (.dic kvs) hd
    | _ => .bad
  | .fs es, env, hd => evF g es [] env hd
  | .fmt a, env, hd => (evE g a env hd).bind fmtS
  | .cm C f es ks kes, env, hd => (evEs g es env hd).bind fun xs hd => (evEs g kes env hd).bind fun ys hd => if ys.length = ks.length then g.call (C, f) (.glo C :: xs) (ks.zip ys) hd else .bad
  | .newv i es ks kes, env, hd => (match env[i]? with
    | some (some (.glo C)) => if (g.T.cl C).isSome then (evEs g es env hd).bind fun xs hd => (evEs g kes env hd).bind fun ys hd => if ys.length = ks.length then newS g C xs (ks.zip ys) hd else .bad else .bad
    | _ => .bad)
  | .told e, env, hd => toldS g.T (evE g e env hd)
termination_by structural e => e
noncomputable def evEs (g : G) : Es → Env → Hd → R (List D)
  | .nil, _, hd => .ok [] hd
  | .cons (.star e) es, env, hd => (evE g e env hd).bind fun x hd => match items hd x with
    | some xs => (evEs g es env hd).bind fun ys hd => .ok (xs ++ ys) hd
    | none => .bad
  | .cons e es, env, hd => (evE g e env hd).bind fun x hd => (evEs g es env hd).bind fun xs hd => .ok (x :: xs) hd
termination_by structural e => e
noncomputable def evAll (g : G) : Es → Env → Hd → R Bool
  | .nil, _, hd => .ok true hd
  | .cons e es, env, hd => (truthR (evE g e env hd)).bind fun b hd => if b then evAll g es env hd else .ok false hd
termination_by structural e => e
noncomputable def evF (g : G) : Es → List Nat → Env → Hd → R D
  | .nil, acc, _, hd => .ok (.str acc) hd
  | .cons e es, acc, env, hd => (evE g e env hd).bind fun x hd => match x with
    | .str z => if acc.length + z.length ≤ line then evF g es (acc ++ z) env hd else .bad
    | _ => .bad
termination_by structural e => e
end

/-! ### statements -/
inductive O where
  | nx (env : Env) (h : Hd)
  | rt (d : D) (h : Hd)
  | bk (env : Env) (h : Hd)
  | ct (env : Env) (h : Hd)
  | exc (C : String) (fs : List (String × D)) (env : Env) (h : Hd)
  | bad
/-- behind an expression -/
def R.to {α : Type} (m : R α) (env : Env) (f : α → Hd → O) : O := match m with
  | .ok a h => f a h
  | .exc C fs h => .exc C fs env h
  | .bad => .bad
@[simp] theorem R.to_ok {α : Type} (a : α) (h : Hd) (env : Env) (f : α → Hd → O) : (R.ok a h).to env f = f a h := rfl
@[simp] theorem R.to_exc {α : Type} (C : String) (fs : List (String × D)) (h : Hd) (env : Env) (f : α → Hd → O) : (R.exc C fs h : R α).to env f = .exc C fs env h := rfl
@[simp] theorem R.to_bad {α : Type} (env : Env) (f : α → Hd → O) : (R.bad : R α).to env f = .bad := rfl
/-- behind a statement -/
def O.then_ (o : O) (f : Env → Hd → O) : O := match o with
  | .nx env h => f env h
  | o => o
@[simp] theorem O.then_nx (env : Env) (h : Hd) (f : Env → Hd → O) : (O.nx env h).then_ f = f env h := rfl
@[simp] theorem O.then_rt (d : D) (h : Hd) (f : Env → Hd → O) : (O.rt d h).then_ f = .rt d h := rfl
@[simp] theorem O.then_bk (env : Env) (h : Hd) (f : Env → Hd → O) : (O.bk env h).then_ f = .bk env h := rfl
@[simp] theorem O.then_ct (env : Env) (h : Hd) (f : Env → Hd → O) : (O.ct env h).then_ f = .ct env h := rfl
@[simp] theorem O.then_exc (C : String) (fs : List (String × D)) (env : Env) (h : Hd) (f : Env → Hd → O) : (O.exc C fs env h).then_ f = .exc C fs env h := rfl
@[simp] theorem O.then_bad (f : Env → Hd → O) : O.bad.then_ f = .bad := rfl

def forV (sto : D → Env → Hd → Option Env) (body : Env → Hd → O) : List D → Env → Hd → O
  | [], env, hd => .nx env hd
  | v :: vs, env, hd => match sto v env hd with
    | none => .bad
    | some env1 => match body env1 hd with
      | .nx env2 h2 => forV sto body vs env2 h2
      | .ct env2 h2 => forV sto body vs env2 h2
      | .bk env2 h2 => .nx env2 h2
      | o => o
def forO (sto : D → Env → Hd → Option Env) (body : Env → Hd → O) (a n : Nat) : Nat → Env → Hd → O
  | 0, env, hd => match hd[a]? with
    | some (.lst xs) => if xs.length = n then .nx env hd else .bad
    | _ => .bad
  | k + 1, env, hd => match hd[a]? with
    | some (.lst xs) => if xs.length = n then match xs[n - (k + 1)]? with
      | none => .bad
      | some v => match sto v env hd with
        | none => .bad
        | some env1 => match body env1 hd with
          | .nx env2 h2 => forO sto body a n k env2 h2
          | .ct env2 h2 => forO sto body a n k env2 h2
          | .bk env2 h2 => .nx env2 h2
          | o => o
      else .bad
    | _ => .bad
def whileN (c : Env → Hd → R Bool) (body : Env → Hd → O) : Nat → Env → Hd → O
  | 0, _, _ => .bad
  | n + 1, env, hd => (c env hd).to env fun b h1 => if b then (match body env h1 with
      | .nx env2 h2 => whileN c body n env2 h2
      | .ct env2 h2 => whileN c body n env2 h2
      | .bk env2 h2 => .nx env2 h2
      | o => o) else .nx env h1

/-- a field written: one that stands keeps its place -/
def putFd (f : String) (v : D) : List (String × D) → List (String × D)
  | [] => [(f, v)]
  | (g, x) :: r => if g = f then (g, v) :: r else (g, x) :: putFd f v r
def setaS (g : G) (x : D) (f : String) (v : D) (hd : Hd) : Option Hd :=
  match x with
  | .obj n => match hd[n]? with
    | some (.ins C fs) => (match g.T.cl C with
      | some c => if f ∈ c.flds ∧ c.own.lookup f = none ∧ fs.length < 1000 then some (hd.set n (.ins C (putFd f v fs))) else none
      | none => none)
    | _ => none
  | _ => none
def setiS (x i v : D) (hd : Hd) : Option Hd :=
  match x, i with
  | .obj n, .int i => match hd[n]? with
    | some (.lst xs) => match ixn xs.length i with
      | some j => some (hd.set n (.lst (xs.set j v)))
      | none => none
    | _ => none
  | _, _ => none

/-- name op= e -/
def augS (op : Operator) (j : Nat) (x y : D) (env : Env) (hd : Hd) : O := match op, x, y with
  | .Add, .int a, .int b => .nx (env.set j (some (.int (a + b)))) hd
  | _, _, _ => .bad
/-- isinstance(x, str) and len(x) <= k and f(x.replace(c, '')) -/
noncomputable def repS (g : G) (f : String) (v c : Nat) (mk : Env → Hd → R D) (env : Env) (hd : Hd) : R D := match env[v]? with
  | some (some x) => (R.of (isiS g false "str" x hd) hd).bind fun b hd => if b then (match x with
      | .str z => if z.length ≤ line then (mk env hd).bind fun y hd => (cmpS g .LtE (.int z.length) y hd).st.bind fun r hd => match r with
          | .bl t => if t then (if z.length ≤ 1000000 then g.call ("", f) [.str (z.filter (· != c))] [] hd else .bad) else .ok (.bl false) hd
          | _ => .bad
        else .bad
      | _ => .bad) else .ok (.bl false) hd
  | _ => .bad
/-- nothing is raised -/
def O.calmO : O → O
  | .exc _ _ _ _ => .bad
  | o => o
noncomputable def evS (g : G) : S → Env → Hd → O
  | .skip, env, hd => .nx env hd
  | .seq a b, env, hd => (evS g a env hd).then_ fun env hd => evS g b env hd
  | .set t e, env, hd => (evE g e env hd).to env fun v hd => match storeS t v env hd with
    | some env => .nx env hd
    | none => .bad
  | .seta o f e, env, hd => (evE g e env hd).to env fun v hd => (evE g o env hd).to env fun x hd => match setaS g x f v hd with
    | some hd => .nx env hd
    | none => .bad
  | .seti o i e, env, hd => (evE g e env hd).to env fun v hd => (evE g o env hd).to env fun x hd => (evE g i env hd).to env fun j hd => match setiS x j v hd with
    | some hd => .nx env hd
    | none => .bad
  | .aug op i e, env, hd => (match env[i]? with
    | some (some x) => (evE g e env hd).to env fun y hd => augS op i x y env hd
    | _ => .bad)
  | .ifs c a b, env, hd => (truthR (evE g c env hd)).to env fun k hd => if k then evS g a env hd else evS g b env hd
  | .for_ t k its body, env, hd => (evEs g its env hd).to env fun xs hd => match iterS k xs hd with
    | some (.inl vs) => forV (storeS t) (fun env hd => evS g body env hd) vs env hd
    | some (.inr a) => (match hd[a]? with
      | some (.lst us) => forO (storeS t) (fun env hd => evS g body env hd) a us.length us.length env hd
      | _ => .bad)
    | none => .bad
  | .while_ n c body, env, hd => whileN (fun env hd => truthR (evE g c env hd)) (fun env hd => evS g body env hd) n env hd
  | .ret e, env, hd => (evE g e env hd).to env fun v hd => .rt v hd
  | .ret0, _, hd => .rt .non hd
  | .retr f v k c, env, hd => (repS g f v c (fun env hd => evE g k env hd) env hd).to env fun v hd => .rt v hd
  | .ex e, env, hd => (evE g e env hd).to env fun _ hd => .nx env hd
  | .raise C es, env, hd => (evEs g es env hd).to env fun xs hd => match g.T.exc C with
    | some x => if xs.length = 1 ∧ x.fld.length = 1 then .exc C (x.fld.zip xs) env hd else .bad
    | none => .bad
  | .try_ b, env, hd => (evS g b env hd).calmO
  | .brk, env, hd => .bk env hd
  | .cont, env, hd => .ct env hd
  | .nope, _, _ => .bad
termination_by structural s => s

/-! ### calls -/
mutual
/-- new things that a value names, frozen -/
def frz (hd : Hd) (n : Nat) : Nat → D → Option D
  | 0, _ => none
  | k + 1, d => if low n d = true then some d else match d with
    | .obj m => match hd[m]? with
      | some (.lst xs) => (frzs hd n k xs).map .lst
      | some (.ins C fs) => (frzf hd n k fs).map (.ins C)
      | _ => none
    | .lst xs => (frzs hd n k xs).map .lst
    | .tup xs => (frzs hd n k xs).map .tup
    | .ins C fs => (frzf hd n k fs).map (.ins C)
    | _ => none
def frzs (hd : Hd) (n : Nat) : Nat → List D → Option (List D)
  | 0, _ => none
  | _ + 1, [] => some []
  | k + 1, x :: xs => match frz hd n k x, frzs hd n k xs with
    | some y, some ys => some (y :: ys)
    | _, _ => none
def frzf (hd : Hd) (n : Nat) : Nat → List (String × D) → Option (List (String × D))
  | 0, _ => none
  | _ + 1, [] => some []
  | k + 1, (f, x) :: xs => match frz hd n k x, frzf hd n k xs with
    | some y, some ys => some ((f, y) :: ys)
    | _, _ => none
end
/-- the end of a call: new things are let go -/
def fin (kept : Bool) (n : Nat) : O → R D
  | .rt d hd => fin1 d hd
  | .nx _ hd => fin1 .non hd
  | .exc C fs _ hd => if hd.length = n then .exc C fs hd else if (hd.take n).all (lowO n) = true ∧ low.lowf n fs = true then .exc C fs (hd.take n) else .bad
  | _ => .bad
where
  fin1 (d : D) (hd : Hd) : R D := if kept = true ∨ hd.length = n then .ok d hd else if (hd.take n).all (lowO n) = true then
      (if low n d = true then .ok d (hd.take n) else match frz hd n 400 d with
        | some d => .ok d (hd.take n)
        | none => .bad) else .bad
/-- the parameters' values -/
def bindG {α : Type} : List String → List α → List (String × α) → Option (List α)
  | [], [], _ => some []
  | _ :: ns, x :: xs, ks => (bindG ns xs ks).map (x :: ·)
  | n :: ns, [], ks => match ks.lookup n with
    | some v => (bindG ns [] ks).map (v :: ·)
    | none => none
  | [], _ :: _, _ => none
/-- the slots at a def's entry -/
def entry (fd : Fn) (vs : List D) : Env := vs.map some ++ List.replicate (fd.slots.length - vs.length) none
noncomputable def callF (T : Tab) : Nat → String × String → List D → List (String × D) → Hd → R D
  | 0, _, _, _, _ => .bad
  | k + 1, f, xs, ks, hd => match T.fn f with
    | none => .bad
    | some fd => if (xs.length, ks.map (·.1)) ∈ fd.shapes then match bindG fd.names xs ks with
      | none => .bad
      | some vs => fin fd.kept hd.length (evS ⟨T, callF T k⟩ fd.body (entry fd vs) hd)
      else .bad
/-- a def's body at its parameters' values -/
noncomputable def runF (T : Tab) (k : Nat) (fd : Fn) (vs : List D) (hd : Hd) : R D := fin fd.kept hd.length (evS ⟨T, callF T k⟩ fd.body (entry fd vs) hd)
theorem callF_eq (T : Tab) (k : Nat) (f : String × String) (xs : List D) (ks : List (String × D)) (hd : Hd) : callF T (k + 1) f xs ks hd = match T.fn f with
    | none => .bad
    | some fd => if (xs.length, ks.map (·.1)) ∈ fd.shapes then match bindG fd.names xs ks with
      | none => .bad
      | some vs => runF T k fd vs hd
      else .bad := rfl
end Z
/-! Z1: what values stand for. -/
namespace Z
open PySem PySem.Spec PyProof.Rows L2

abbrev MG := PySem.Str → Option Value
abbrev nm (x : String) : PySem.Str := PySem.Str.ofString x
abbrev tx (x : List Nat) : PySem.Str := ⟨x.toArray⟩

/-- the things that may change: those that are seen, those that are not (a list that is being made) -/
structure Rh where
  v : List Addr
  h : List Addr
  n : Addr → PySem.Str
def Rh.has (ρ : Rh) (a : Addr) : Prop := a ∈ ρ.v ∨ a ∈ ρ.h
instance : Membership Addr Rh := ⟨Rh.has⟩
def Rh.add (ρ : Rh) (p : Addr) : Rh := ⟨ρ.v ++ [p], ρ.h, ρ.n⟩
def Rh.hide (ρ : Rh) (p : Addr) : Rh := ⟨ρ.v, p :: ρ.h, ρ.n⟩
theorem Rh.mem_iff {ρ : Rh} {a : Addr} : a ∈ ρ ↔ a ∈ ρ.v ∨ a ∈ ρ.h := Iff.rfl
theorem Rh.mem_add {ρ : Rh} {p a : Addr} : a ∈ ρ.add p ↔ a ∈ ρ ∨ a = p := by
  show (a ∈ ρ.v ++ [p] ∨ a ∈ ρ.h) ↔ ((a ∈ ρ.v ∨ a ∈ ρ.h) ∨ a = p)
  rw [List.mem_append, List.mem_singleton]
  constructor
  · rintro ((h | h) | h)
    · exact .inl (.inl h)
    · exact .inr h
    · exact .inl (.inr h)
  · rintro ((h | h) | h)
    · exact .inl (.inl h)
    · exact .inr h
    · exact .inl (.inr h)
theorem Rh.mem_hide {ρ : Rh} {p a : Addr} : a ∈ ρ.hide p ↔ a ∈ ρ ∨ a = p := by
  show (a ∈ ρ.v ∨ a ∈ p :: ρ.h) ↔ ((a ∈ ρ.v ∨ a ∈ ρ.h) ∨ a = p)
  rw [List.mem_cons]
  constructor
  · rintro (h | h | h)
    · exact .inl (.inl h)
    · exact .inr h
    · exact .inl (.inr h)
  · rintro ((h | h) | h)
    · exact .inl h
    · exact .inr (.inr h)
    · exact .inr (.inl h)
/-- a list that is only read -/
def SqR (K : PySem.W.Frag) (ρ : Rh) (H : Hp) (a : Addr) (xs : List V) : Prop := (a ∉ ρ ∧ Rd H a (.lst xs)) ∨
    ∃ (o : Obj) (its : Array Value) (n : Nat), K.lookup a = some o ∧ o.cls = .type "list" ∧ o.dict = none ∧ o.data = .seq its n ∧ its.size ≤ sizeLine ∧ Vals xs its.toList
theorem SqR.sq {K : PySem.W.Frag} {ρ : Rh} {H : Hp} {a : Addr} {xs : List V} (h : SqR K ρ H a xs) : SqL K H a xs := h.imp (fun q => q.2) fun q => q
mutual
inductive RD (K : PySem.W.Frag) (mg : MG) (ρ : Rh) (H : Hp) : D → V → Prop
  | non : RD K mg ρ H .non .non
  | bl (b : Bool) : RD K mg ρ H (.bl b) (.bl b)
  | int (i : Int) : RD K mg ρ H (.int i) (.int i)
  | str (x : List Nat) : RD K mg ρ H (.str x) (.str (tx x))
  | ty (n : String) : RD K mg ρ H (.ty n) (.ty n)
  | glo {n : String} {a : Addr} : mg (nm n) = some (.ref a) → RD K mg ρ H (.glo n) (.ref a)
  | obj {n : Nat} {a : Addr} : ρ.v[n]? = some a → RD K mg ρ H (.obj n) (.ref a)
  | tup {a : Addr} {xs : List D} {vs : List V} : a ∉ ρ → H a = some (.tup vs) → RDs K mg ρ H xs vs → RD K mg ρ H (.tup xs) (.ref a)
  | lst {a : Addr} {xs : List D} {vs : List V} : a ∉ ρ → H a = some (.lst vs) → RDs K mg ρ H xs vs → RD K mg ρ H (.lst xs) (.ref a)
  | row {a : Addr} {ns : List Int} : SqR K ρ H a (ns.map V.int) → RD K mg ρ H (.row ns) (.ref a)
  | dic {a : Addr} {xs : List (D × D)} {vs : List (L2.Key × V)} : a ∉ ρ → H a = some (.dK vs) → RDk K mg ρ H xs vs → RD K mg ρ H (.dic xs) (.ref a)
  | ins {a c dx : Addr} {C : String} {fs : List (String × D)} {gs : List (PySem.Str × V)} : a ∉ ρ → mg (nm C) = some (.ref c) → H a = some (.ins c dx gs) → RDf K mg ρ H fs gs → RD K mg ρ H (.ins C fs) (.ref a)
inductive RDs (K : PySem.W.Frag) (mg : MG) (ρ : Rh) (H : Hp) : List D → List V → Prop
  | nil : RDs K mg ρ H [] []
  | cons {x : D} {v : V} {xs : List D} {vs : List V} : RD K mg ρ H x v → RDs K mg ρ H xs vs → RDs K mg ρ H (x :: xs) (v :: vs)
inductive RDf (K : PySem.W.Frag) (mg : MG) (ρ : Rh) (H : Hp) : List (String × D) → List (PySem.Str × V) → Prop
  | nil : RDf K mg ρ H [] []
  | cons {f : String} {x : D} {v : V} {xs : List (String × D)} {vs : List (PySem.Str × V)} : RD K mg ρ H x v → RDf K mg ρ H xs vs → RDf K mg ρ H ((f, x) :: xs) ((nm f, v) :: vs)
inductive RDk (K : PySem.W.Frag) (mg : MG) (ρ : Rh) (H : Hp) : List (D × D) → List (L2.Key × V) → Prop
  | nil : RDk K mg ρ H [] []
  | cons {k : List Nat} {x : D} {v : V} {xs : List (D × D)} {vs : List (L2.Key × V)} : RD K mg ρ H x v → RDk K mg ρ H xs vs → RDk K mg ρ H ((.str k, x) :: xs) ((.inr (tx k), v) :: vs)
end

/-! ### tables of code objects -/
/-- a code object's own table, where it stands outside of what is known; the lambdas' name there -/
def lamOf (K : PySem.W.Frag) (o : Obj) : Option (Addr × PySem.Str) := match o.cls, o.data with
  | .type "code", .fields us => (match (us[11]? : Option Value), (us[1]? : Option Value), us.getD 18 .none, us.getD 7 .none, us.getD 9 .none, us.getD 10 .none with
    | some (Value.ref P), some (Value.str q _), Value.str _ _, Value.int _ _, Value.bool _, Value.int _ _ => if (K.lookup P).isNone = true then some (P, q ++ ".<locals>." ++ "<lambda>") else none
    | _, _, _, _, _, _ => none)
  | _, _ => none
def isCode (o : Obj) : Bool := match o.cls with
  | .type "code" => true
  | _ => false
def lamsK (K : PySem.W.Frag) : List (Addr × PySem.Str) := K.filterMap fun p => if isCode p.2 then (K.lookup p.1).bind (lamOf K) else none
def lamN (K : PySem.W.Frag) (P : Addr) : PySem.Str := ((lamsK K).lookup P).getD PySem.Str.empty
structure TbZ (ρ : Rh) (H : Hp) (P : Addr) : Prop where
  out : P ∉ ρ
  tab : ∃ ps : Array Value, H P = some (.tbl ps) ∧ TriplesOk ps.toList ∧ ∀ (pos : Pos) (u : Value), codeAmong pos ps.toList = some u → ∃ c, u = .ref c ∧ c ∉ ρ ∧ H c = some (LamX.CodeO c (ρ.n P))
/-- no table, no code object -/
structure NoTb (H : Hp) (p : Addr) : Prop where
  t : ∀ ps, H p ≠ some (.tbl ps)
  c : ∀ q, H p ≠ some (LamX.CodeO p q)
theorem NoTb.none {H : Hp} {p : Addr} (h : H p = none) : NoTb H p := ⟨fun ps z => (by rw [h] at z; cases z), fun q z => (by rw [h] at z; cases z)⟩
theorem code_ext {c : Addr} {q : PySem.Str} {o : HO} (e : o = LamX.CodeO c q) : ∃ φ, o = .ext φ := by
  unfold LamX.CodeO at e
  exact ⟨_, e⟩
theorem NoTb.lst {H : Hp} {p : Addr} {xs : List V} (h : H p = some (.lst xs)) : NoTb H p := ⟨fun ps z => (by rw [h] at z; cases z), fun q z => by
  rw [h] at z
  obtain ⟨φ, e⟩ := code_ext (Option.some.inj z)
  cases e⟩
theorem NoTb.dK {H : Hp} {p : Addr} {xs : List (L2.Key × V)} (h : H p = some (.dK xs)) : NoTb H p := ⟨fun ps z => (by rw [h] at z; cases z), fun q z => by
  rw [h] at z
  obtain ⟨φ, e⟩ := code_ext (Option.some.inj z)
  cases e⟩
theorem TbZ.keep {ρ ρ' : Rh} {H H' : Hp} {P : Addr} (t : TbZ ρ H P) (hn : ρ'.n = ρ.n) (k : ∀ a o, H a = some o → a ∉ ρ → a ∉ ρ' ∧ H' a = some o) : TbZ ρ' H' P := by
  obtain ⟨ps, h1, h2, h3⟩ := t.tab
  refine ⟨(k P _ h1 t.out).1, ps, (k P _ h1 t.out).2, h2, fun pos u e => ?_⟩
  obtain ⟨c, e1, e2, e3⟩ := h3 pos u e
  exact ⟨c, e1, (k c _ e3 e2).1, by rw [hn]; exact (k c _ e3 e2).2⟩
/-- told of other things -/
theorem TbZ.other {ρ ρ' : Rh} {H : Hp} {P : Addr} (t : TbZ ρ H P) (hn : ρ'.n = ρ.n) (k : ∀ a, a ∉ ρ → a ∉ ρ' ∨ NoTb H a) : TbZ ρ' H P := by
  obtain ⟨ps, h1, h2, h3⟩ := t.tab
  refine ⟨(k P t.out).elim id fun z => absurd h1 (z.t ps), ps, h1, h2, fun pos u e => ?_⟩
  obtain ⟨c, e1, e2, e3⟩ := h3 pos u e
  exact ⟨c, e1, (k c e2).elim id fun z => absurd e3 (z.c _), by rw [hn]; exact e3⟩

/-- what was there stays -/
structure Ext (ρ : Rh) (H : Hp) (ρ' : Rh) (H' : Hp) : Prop where
  pre : ∃ τ, ρ' = ⟨ρ.v ++ τ, ρ.h, ρ.n⟩
  keep : ∀ a o, H a = some o → a ∉ ρ → (∀ ps, o ≠ .tbl ps) → H' a = some o
  there : ∀ a, H' a = none → H a = none
  fresh : ∀ a, a ∈ ρ' → a ∉ ρ → H a = none
  hid : ∀ a, a ∈ ρ.h → H' a = H a
  tab : ∀ P, TbZ ρ H P → TbZ ρ' H' P
theorem Ext.refl {ρ : Rh} {H : Hp} : Ext ρ H ρ H := ⟨⟨[], by simp⟩, fun _ _ h _ _ => h, fun _ h => h, fun _ h h' => absurd h h', fun _ _ => rfl, fun _ t => t⟩
theorem Ext.mem {ρ ρ' : Rh} {H H' : Hp} (e : Ext ρ H ρ' H') {a : Addr} (h : a ∈ ρ) : a ∈ ρ' := by
  obtain ⟨τ, rfl⟩ := e.pre
  rcases h with h | h
  · exact .inl (List.mem_append_left _ h)
  · exact .inr h
theorem Ext.heq {ρ ρ' : Rh} {H H' : Hp} (e : Ext ρ H ρ' H') : ρ'.h = ρ.h := by
  obtain ⟨τ, rfl⟩ := e.pre
  rfl
theorem Ext.trans {ρ ρ1 ρ2 : Rh} {H H1 H2 : Hp} (a : Ext ρ H ρ1 H1) (b : Ext ρ1 H1 ρ2 H2) : Ext ρ H ρ2 H2 := by
  refine ⟨?_, fun c o h n s => ?_, fun c h => a.there c (b.there c h), fun c h n => ?_, fun c h => (b.hid c (by rw [a.heq]; exact h)).trans (a.hid c h), fun P t => b.tab P (a.tab P t)⟩
  · obtain ⟨τ, rfl⟩ := a.pre
    obtain ⟨τ', rfl⟩ := b.pre
    exact ⟨τ ++ τ', by rw [List.append_assoc]⟩
  · refine b.keep c o (a.keep c o h n s) (fun hm => ?_) s
    have := a.fresh c hm n
    rw [h] at this
    cases this
  · by_cases hm : c ∈ ρ1
    · exact a.fresh c hm n
    · exact a.there c (b.fresh c h hm)
theorem Ext.notin {ρ ρ' : Rh} {H H' : Hp} (e : Ext ρ H ρ' H') {a : Addr} {o : HO} (h : H a = some o) (n : a ∉ ρ) : a ∉ ρ' := fun hm => by
  have := e.fresh a hm n
  rw [h] at this
  cases this
theorem Ext.get {ρ ρ' : Rh} {H H' : Hp} (e : Ext ρ H ρ' H') {n : Nat} {a : Addr} (h : ρ.v[n]? = some a) : ρ'.v[n]? = some a := by
  obtain ⟨τ, rfl⟩ := e.pre
  show (ρ.v ++ τ)[n]? = _
  rw [List.getElem?_append_left]
  · exact h
  · exact (List.getElem?_eq_some_iff.mp h).1
/-- a new thing; nothing hidden is named by none -/
theorem Ext.new {ρ : Rh} {H : Hp} {p : Addr} {o : HO} (h : H p = none) (n : p ∉ ρ) : Ext ρ H ρ (upd H p o) :=
  ⟨⟨[], by simp⟩, fun a u q _ _ => by rw [upd_ne (ne_of_none q h)]; exact q, fun a q => by
    by_cases e : a = p
    · rw [e, upd_same] at q
      cases q
    · rw [upd_ne e] at q
      exact q, fun _ q q' => absurd q q', fun a q => upd_ne (fun e => n (by rw [← e]; exact .inr q)), fun P t => t.keep rfl fun a u e na => ⟨na, by rw [upd_ne (ne_of_none e h)]; exact e⟩⟩
theorem Ext.more {ρ : Rh} {H : Hp} {p : Addr} {o : HO} (h : H p = none) (n : p ∉ ρ) : Ext ρ H (ρ.add p) (upd H p o) :=
  ⟨⟨[p], rfl⟩, fun a u q _ _ => by rw [upd_ne (ne_of_none q h)]; exact q, (Ext.new (ρ := ρ) h n).there, fun a q n' => by
    rcases Rh.mem_add.mp q with q | q
    · exact absurd q n'
    · rw [q]
      exact h, (Ext.new (ρ := ρ) h n).hid, fun P t => t.keep rfl fun a u e na => ⟨fun z => (Rh.mem_add.mp z).elim na (fun z => by rw [z, h] at e; cases e), by rw [upd_ne (ne_of_none e h)]; exact e⟩⟩
/-- a thing that may change, changed -/
theorem Ext.put {ρ : Rh} {H : Hp} {p : Addr} {o : HO} (h : p ∈ ρ) (n : p ∉ ρ.h) : Ext ρ H ρ (upd H p o) :=
  ⟨⟨[], by simp⟩, fun a u q n' _ => by rw [upd_ne (fun e => n' (by rw [e]; exact h))]; exact q, fun a q => by
    by_cases e : a = p
    · rw [e, upd_same] at q
      cases q
    · rw [upd_ne e] at q
      exact q, fun _ q q' => absurd q q', fun a q => upd_ne (fun e => n (by rw [← e]; exact q)), fun P t => t.keep rfl fun a u e na => ⟨na, by rw [upd_ne (fun z => na (by rw [z]; exact h))]; exact e⟩⟩

/-- what is frozen stays -/
structure Wx (ρ : Rh) (H : Hp) (ρ' : Rh) (H' : Hp) : Prop where
  get : ∀ (n : Nat) a, ρ.v[n]? = some a → ρ'.v[n]? = some a
  keep : ∀ a o, H a = some o → a ∉ ρ → (∀ ps, o ≠ .tbl ps) → a ∉ ρ' ∧ H' a = some o
theorem Ext.w {ρ ρ' : Rh} {H H' : Hp} (e : Ext ρ H ρ' H') : Wx ρ H ρ' H' := ⟨fun n a h => e.get h, fun a o h n t => ⟨e.notin h n, e.keep a o h n t⟩⟩
section
variable {K : PySem.W.Frag} {mg : MG} {ρ ρ' : Rh} {H H' : Hp}
theorem SqR.wx {a : Addr} {xs : List V} (e : Wx ρ H ρ' H') (h : SqR K ρ H a xs) : SqR K ρ' H' a xs := by
  rcases h with ⟨n, h | ⟨o, h⟩⟩ | h
  · have q := e.keep a _ h n (fun ps z => by cases z)
    exact .inl ⟨q.1, .inl q.2⟩
  · have q := e.keep a _ h n (fun ps z => by cases z)
    exact .inl ⟨q.1, .inr ⟨o, q.2⟩⟩
  · exact .inr h
mutual
theorem RD.wx (e : Wx ρ H ρ' H') : ∀ {d : D} {v : V}, RD K mg ρ H d v → RD K mg ρ' H' d v
  | _, _, .non => .non
  | _, _, .bl b => .bl b
  | _, _, .int i => .int i
  | _, _, .str x => .str x
  | _, _, .ty n => .ty n
  | _, _, .glo h => .glo h
  | _, _, .obj h => .obj (e.get _ _ h)
  | _, _, .tup n h r => .tup (e.keep _ _ h n (fun ps z => by cases z)).1 (e.keep _ _ h n (fun ps z => by cases z)).2 (RDs.wx e r)
  | _, _, .lst n h r => .lst (e.keep _ _ h n (fun ps z => by cases z)).1 (e.keep _ _ h n (fun ps z => by cases z)).2 (RDs.wx e r)
  | _, _, .row h => .row (h.wx e)
  | _, _, .dic n h r => .dic (e.keep _ _ h n (fun ps z => by cases z)).1 (e.keep _ _ h n (fun ps z => by cases z)).2 (RDk.wx e r)
  | _, _, .ins n g h r => .ins (e.keep _ _ h n (fun ps z => by cases z)).1 g (e.keep _ _ h n (fun ps z => by cases z)).2 (RDf.wx e r)
theorem RDs.wx (e : Wx ρ H ρ' H') : ∀ {d : List D} {v : List V}, RDs K mg ρ H d v → RDs K mg ρ' H' d v
  | _, _, .nil => .nil
  | _, _, .cons r q => .cons (RD.wx e r) (RDs.wx e q)
theorem RDf.wx (e : Wx ρ H ρ' H') : ∀ {d : List (String × D)} {v : List (PySem.Str × V)}, RDf K mg ρ H d v → RDf K mg ρ' H' d v
  | _, _, .nil => .nil
  | _, _, .cons r q => .cons (RD.wx e r) (RDf.wx e q)
theorem RDk.wx (e : Wx ρ H ρ' H') : ∀ {d : List (D × D)} {v : List (L2.Key × V)}, RDk K mg ρ H d v → RDk K mg ρ' H' d v
  | _, _, .nil => .nil
  | _, _, .cons r q => .cons (RD.wx e r) (RDk.wx e q)
end
theorem RD.ext (e : Ext ρ H ρ' H') {d : D} {v : V} (r : RD K mg ρ H d v) : RD K mg ρ' H' d v := r.wx e.w
theorem RDs.ext (e : Ext ρ H ρ' H') {d : List D} {v : List V} (r : RDs K mg ρ H d v) : RDs K mg ρ' H' d v := r.wx e.w
theorem RDf.ext (e : Ext ρ H ρ' H') {d : List (String × D)} {v : List (PySem.Str × V)} (r : RDf K mg ρ H d v) : RDf K mg ρ' H' d v := r.wx e.w
theorem RDk.ext (e : Ext ρ H ρ' H') {d : List (D × D)} {v : List (L2.Key × V)} (r : RDk K mg ρ H d v) : RDk K mg ρ' H' d v := r.wx e.w
end

section
variable {K : PySem.W.Frag} {mg : MG} {ρ ρ' : Rh} {H H' : Hp}
theorem RDs.length : ∀ {xs : List D} {vs : List V}, RDs K mg ρ H xs vs → xs.length = vs.length
  | _, _, .nil => rfl
  | _, _, .cons _ r => congrArg Nat.succ r.length
theorem RDs.get : ∀ {xs : List D} {vs : List V} {i : Nat} {d : D}, RDs K mg ρ H xs vs → xs[i]? = some d → ∃ v, vs[i]? = some v ∧ RD K mg ρ H d v
  | _, _, _, _, .nil, e => by simp at e
  | _, _, 0, _, .cons r _, e => by simp at e; subst e; exact ⟨_, rfl, r⟩
  | _, _, i + 1, d, .cons _ r, e => by
    obtain ⟨v, h1, h2⟩ := RDs.get (i := i) (d := d) r (by simpa using e)
    exact ⟨v, by simpa using h1, h2⟩
theorem RDs.getV : ∀ {xs : List D} {vs : List V} {i : Nat} {v : V}, RDs K mg ρ H xs vs → vs[i]? = some v → ∃ d, xs[i]? = some d ∧ RD K mg ρ H d v
  | _, _, _, _, .nil, e => by simp at e
  | _, _, 0, _, .cons r _, e => by simp at e; subst e; exact ⟨_, rfl, r⟩
  | _, _, i + 1, d, .cons _ r, e => by
    obtain ⟨v, h1, h2⟩ := RDs.getV (i := i) (v := d) r (by simpa using e)
    exact ⟨v, by simpa using h1, h2⟩
theorem RDs.append : ∀ {xs ys : List D} {vs ws : List V}, RDs K mg ρ H xs vs → RDs K mg ρ H ys ws → RDs K mg ρ H (xs ++ ys) (vs ++ ws)
  | _, _, _, _, .nil, s => s
  | _, _, _, _, .cons r t, s => .cons r (RDs.append t s)
theorem RDs.take : ∀ {xs : List D} {vs : List V} (n : Nat), RDs K mg ρ H xs vs → RDs K mg ρ H (xs.take n) (vs.take n)
  | _, _, 0, _ => .nil
  | _, _, _ + 1, .nil => .nil
  | _, _, n + 1, .cons r t => .cons r (RDs.take n t)
theorem RDs.drop : ∀ {xs : List D} {vs : List V} (n : Nat), RDs K mg ρ H xs vs → RDs K mg ρ H (xs.drop n) (vs.drop n)
  | _, _, 0, r => r
  | _, _, _ + 1, .nil => .nil
  | _, _, n + 1, .cons _ t => RDs.drop n t
theorem RDs.set {d : D} {v : V} (r : RD K mg ρ H d v) : ∀ {xs : List D} {vs : List V} (i : Nat), RDs K mg ρ H xs vs → RDs K mg ρ H (xs.set i d) (vs.set i v)
  | _, _, _, .nil => .nil
  | _, _, 0, .cons _ t => .cons r t
  | _, _, i + 1, .cons q t => .cons q (RDs.set r i t)
theorem RDs.eraseIdx : ∀ {xs : List D} {vs : List V} (i : Nat), RDs K mg ρ H xs vs → RDs K mg ρ H (xs.eraseIdx i) (vs.eraseIdx i)
  | _, _, _, .nil => .nil
  | _, _, 0, .cons _ t => t
  | _, _, i + 1, .cons q t => .cons q (RDs.eraseIdx i t)
theorem RDs.flat : ∀ (n : Nat) {xs : List D} {vs : List V}, RDs K mg ρ H xs vs → RDs K mg ρ H (List.replicate n xs).flatten (List.replicate n vs).flatten
  | 0, _, _, _ => .nil
  | n + 1, _, _, r => by
    rw [List.replicate_succ, List.replicate_succ, List.flatten_cons, List.flatten_cons]
    exact r.append (RDs.flat n r)
theorem RDs.ints : ∀ (ns : List Int), RDs K mg ρ H (ns.map .int) (ns.map V.int)
  | [] => .nil
  | n :: r => .cons (.int n) (RDs.ints r)
theorem RDs.strs_ : ∀ (ns : List (List Nat)), RDs K mg ρ H (ns.map .str) (ns.map fun x => V.str (tx x))
  | [] => .nil
  | n :: r => .cons (.str n) (RDs.strs_ r)

/-- what may change, as it stands -/
inductive RM (K : PySem.W.Frag) (mg : MG) (ρ : Rh) (H : Hp) : MO → Addr → Prop
  | lst {a : Addr} {xs : List D} {vs : List V} : H a = some (.lst vs) → RDs K mg ρ H xs vs → RM K mg ρ H (.lst xs) a
  | dic {a : Addr} {xs : List (D × D)} {vs : List (L2.Key × V)} : H a = some (.dK vs) → RDk K mg ρ H xs vs → RM K mg ρ H (.dic xs) a
  | ins {a c dx : Addr} {C : String} {fs : List (String × D)} {gs : List (PySem.Str × V)} : mg (nm C) = some (.ref c) → H a = some (.ins c dx gs) → RDf K mg ρ H fs gs → RM K mg ρ H (.ins C fs) a
structure MOk (K : PySem.W.Frag) (mg : MG) (ρ : Rh) (H : Hp) (hd : Hd) : Prop where
  len : ρ.v.length = hd.length
  nd : ρ.v.Nodup
  at_ : ∀ (n : Nat) a mo, ρ.v[n]? = some a → hd[n]? = some mo → RM K mg ρ H mo a
  hid : ∀ a, a ∈ ρ.h → a ∉ ρ.v ∧ ∃ o, H a = some o
  nm : ρ.n = lamN K
  tabs : ∀ P q, (P, q) ∈ lamsK K → TbZ ρ H P
/-- the same object: what it holds is kept, what its items lean on too -/
theorem RM.wx {mo : MO} {a : Addr} (e : Wx ρ H ρ' H') (k : H' a = H a) (r : RM K mg ρ H mo a) : RM K mg ρ' H' mo a := by
  cases r with
  | lst h r => exact .lst (k.trans h) (r.wx e)
  | dic h r => exact .dic (k.trans h) (r.wx e)
  | ins g h r => exact .ins g (k.trans h) (r.wx e)
theorem RM.ext {mo : MO} {a : Addr} (e : Ext ρ H ρ' H') (k : H' a = H a) (r : RM K mg ρ H mo a) : RM K mg ρ' H' mo a := r.wx e.w k
theorem RM.at_ {mo : MO} {a : Addr} (r : RM K mg ρ H mo a) : ∃ o, H a = some o ∧ ∀ ps, o ≠ .tbl ps := by
  cases r with
  | lst h r => exact ⟨_, h, fun ps z => by cases z⟩
  | dic h r => exact ⟨_, h, fun ps z => by cases z⟩
  | ins g h r => exact ⟨_, h, fun ps z => by cases z⟩
theorem MOk.there {hd : Hd} (m : MOk K mg ρ H hd) {a : Addr} (h : a ∈ ρ) : ∃ o, H a = some o := by
  rcases h with h | h
  · obtain ⟨n, hn⟩ := List.mem_iff_getElem?.mp h
    have hl : n < hd.length := by rw [← m.len]; exact (List.getElem?_eq_some_iff.mp hn).1
    obtain ⟨o, q, _⟩ := (m.at_ n a hd[n] hn (by simp [hl])).at_
    exact ⟨o, q⟩
  · exact (m.hid a h).2
theorem MOk.notin {hd : Hd} (m : MOk K mg ρ H hd) {p : Addr} (h : H p = none) : p ∉ ρ := fun hm => by
  obtain ⟨o, q⟩ := m.there hm
  rw [h] at q
  cases q
theorem MOk.seen {hd : Hd} (m : MOk K mg ρ H hd) {p : Addr} (h : p ∈ ρ.v) : p ∉ ρ.h := fun q => (m.hid p q).1 h
/-- a new frozen thing -/
theorem MOk.new {hd : Hd} {p : Addr} {o : HO} (m : MOk K mg ρ H hd) (h : H p = none) : MOk K mg ρ (upd H p o) hd :=
  ⟨m.len, m.nd, fun n a mo e1 e2 => (m.at_ n a mo e1 e2).ext (Ext.new h (m.notin h)) (upd_ne (fun e => m.notin h (by rw [← e]; exact .inl (List.mem_of_getElem? e1)))),
    fun a q => ⟨(m.hid a q).1, by rw [upd_ne (fun e => m.notin h (by rw [← e]; exact .inr q))]; exact (m.hid a q).2⟩, m.nm, fun P q e => (Ext.new h (m.notin h)).tab P (m.tabs P q e)⟩
/-- a new thing that may change -/
theorem MOk.more {hd : Hd} {p : Addr} {o : HO} {mo : MO} (m : MOk K mg ρ H hd) (h : H p = none) (r : RM K mg (ρ.add p) (upd H p o) mo p) : MOk K mg (ρ.add p) (upd H p o) (hd ++ [mo]) := by
  have np := m.notin h
  refine ⟨by simp [Rh.add, m.len], ?_, fun n a mo' e1 e2 => ?_, fun a q => ⟨fun z => ?_, by rw [upd_ne (fun e => np (by rw [← e]; exact .inr q))]; exact (m.hid a q).2⟩, m.nm, fun P q e => (Ext.more h np).tab P (m.tabs P q e)⟩
  · show (ρ.v ++ [p]).Nodup
    rw [List.nodup_append]
    refine ⟨m.nd, by simp, fun a ha b hb e => ?_⟩
    rw [List.mem_singleton] at hb
    exact np (by rw [← hb, ← e]; exact .inl ha)
  · have e1 : (ρ.v ++ [p])[n]? = some a := e1
    by_cases hn : n < ρ.v.length
    · rw [List.getElem?_append_left hn] at e1
      rw [List.getElem?_append_left (by rw [← m.len]; exact hn)] at e2
      exact (m.at_ n a mo' e1 e2).ext (Ext.more h np) (upd_ne (fun e => np (by rw [← e]; exact .inl (List.mem_of_getElem? e1))))
    · have hl : n = ρ.v.length := by
        have := (List.getElem?_eq_some_iff.mp e1).1
        simp at this
        omega
      subst hl
      rw [List.getElem?_append_right (Nat.le_refl _)] at e1
      rw [m.len, List.getElem?_append_right (Nat.le_refl _)] at e2
      simp at e1 e2
      subst e1 e2
      exact r
  · rcases List.mem_append.mp (show a ∈ ρ.v ++ [p] from z) with z | z
    · exact (m.hid a q).1 z
    · rw [List.mem_singleton] at z
      exact np (by rw [← z]; exact .inr q)
/-- one changed -/
theorem MOk.put {hd : Hd} {p : Addr} {o : HO} {mo : MO} {n : Nat} (m : MOk K mg ρ H hd) (h : ρ.v[n]? = some p) (r : RM K mg ρ (upd H p o) mo p) : MOk K mg ρ (upd H p o) (hd.set n mo) := by
  have hp : p ∈ ρ.v := List.mem_of_getElem? h
  refine ⟨by simp [m.len], m.nd, fun k a mo' e1 e2 => ?_, fun a q => ⟨(m.hid a q).1, by rw [upd_ne (fun e => (m.hid a q).1 (by rw [e]; exact hp))]; exact (m.hid a q).2⟩, m.nm, fun P q e => (Ext.put (.inl hp) (m.seen hp)).tab P (m.tabs P q e)⟩
  by_cases hk : k = n
  · subst hk
    rw [h] at e1
    cases e1
    have hl : k < hd.length := by rw [← m.len]; exact (List.getElem?_eq_some_iff.mp h).1
    rw [List.getElem?_set_self hl] at e2
    cases e2
    exact r
  · rw [List.getElem?_set_ne (Ne.symm hk)] at e2
    refine (m.at_ k a mo' e1 e2).ext (Ext.put (.inl hp) (m.seen hp)) (upd_ne fun e => hk ?_)
    subst e
    exact (List.getElem?_inj (List.getElem?_eq_some_iff.mp e1).1 m.nd).mp (e1.trans h.symm)

/-- the slots -/
structure REnv (K : PySem.W.Frag) (mg : MG) (ρ : Rh) (H : Hp) (env : Env) (σ : L2.St) : Prop where
  len : env.length = σ.length
  at_ : ∀ (i : Nat) d, env[i]? = some (some d) → ∃ v, σ[i]? = some (some v) ∧ RD K mg ρ H d v
theorem REnv.wx {env : Env} {σ : L2.St} (e : Wx ρ H ρ' H') (r : REnv K mg ρ H env σ) : REnv K mg ρ' H' env σ :=
  ⟨r.len, fun i d h => by
    obtain ⟨v, h1, h2⟩ := r.at_ i d h
    exact ⟨v, h1, h2.wx e⟩⟩
theorem REnv.ext {env : Env} {σ : L2.St} (e : Ext ρ H ρ' H') (r : REnv K mg ρ H env σ) : REnv K mg ρ' H' env σ := r.wx e.w
theorem REnv.set {env : Env} {σ : L2.St} {d : D} {v : V} (i : Nat) (r : REnv K mg ρ H env σ) (h : RD K mg ρ H d v) : REnv K mg ρ H (env.set i (some d)) (σ.set i (some v)) := by
  refine ⟨by simp [r.len], fun j d' e => ?_⟩
  by_cases hj : j = i
  · subst hj
    have hl : j < env.length := by
      have := (List.getElem?_eq_some_iff.mp e).1
      simpa using this
    rw [List.getElem?_set_self hl] at e
    cases e
    exact ⟨v, by rw [List.getElem?_set_self (by rw [← r.len]; exact hl)], h⟩
  · rw [List.getElem?_set_ne (Ne.symm hj)] at e
    obtain ⟨w, h1, h2⟩ := r.at_ j d' e
    exact ⟨w, by rw [List.getElem?_set_ne (Ne.symm hj)]; exact h1, h2⟩
theorem REnv.unset {env : Env} {σ : L2.St} (i : Nat) (r : REnv K mg ρ H env σ) : REnv K mg ρ H (env.set i none) (σ.set i none) := by
  refine ⟨by simp [r.len], fun j d' e => ?_⟩
  by_cases hj : j = i
  · subst hj
    have hl : j < env.length := by
      have := (List.getElem?_eq_some_iff.mp e).1
      simpa using this
    rw [List.getElem?_set_self hl] at e
    cases e
  · rw [List.getElem?_set_ne (Ne.symm hj)] at e
    obtain ⟨w, h1, h2⟩ := r.at_ j d' e
    exact ⟨w, by rw [List.getElem?_set_ne (Ne.symm hj)]; exact h1, h2⟩
theorem REnv.wipe {env : Env} {σ : L2.St} : ∀ (vs : List Nat), REnv K mg ρ H env σ → REnv K mg ρ H (Z.wipe env vs) (L2.wipe σ vs)
  | [], r => r
  | v :: vs, r => (REnv.wipe vs r).unset v
/-! ### a thing that is hidden -/
theorem Wx.refl : Wx ρ H ρ H := ⟨fun _ _ h => h, fun _ _ h n _ => ⟨n, h⟩⟩
theorem Wx.trans {ρ1 ρ2 : Rh} {H1 H2 : Hp} (a : Wx ρ H ρ1 H1) (b : Wx ρ1 H1 ρ2 H2) : Wx ρ H ρ2 H2 := ⟨fun n c h => b.get n c (a.get n c h), fun c o h n t => let q := a.keep c o h n t; b.keep c o q.2 q.1 t⟩
theorem Wx.hide {p : Addr} (h : H p = none) : Wx ρ H (ρ.hide p) H := by
  refine ⟨fun _ _ h => h, fun a o q n _ => ⟨fun z => ?_, q⟩⟩
  rcases Rh.mem_hide.mp z with z | z
  · exact n z
  · rw [z, h] at q
    cases q
theorem Wx.show_ {p : Addr} : Wx (ρ.hide p) H ρ H := ⟨fun _ _ h => h, fun a o q n _ => ⟨fun z => n (Rh.mem_hide.mpr (.inl z)), q⟩⟩
theorem Wx.at_ {p : Addr} {o : HO} : Wx (ρ.hide p) H (ρ.hide p) (upd H p o) := ⟨fun _ _ h => h, fun a u q n _ => ⟨n, by rw [upd_ne (fun e => n (Rh.mem_hide.mpr (.inr e)))]; exact q⟩⟩
theorem Wx.new {p : Addr} {o : HO} (h : H p = none) : Wx ρ H ρ (upd H p o) := ⟨fun _ _ h => h, fun a u q n _ => ⟨n, by rw [upd_ne (ne_of_none q h)]; exact q⟩⟩
/-- hidden, and laid anew -/
theorem MOk.hide {hd : Hd} {p : Addr} {o : HO} (m : MOk K mg ρ H hd) (h : H p = none) : MOk K mg (ρ.hide p) (upd H p o) hd := by
  have np := m.notin h
  have w : Wx ρ H (ρ.hide p) (upd H p o) := (Wx.hide h).trans Wx.at_
  refine ⟨m.len, m.nd, fun n a mo e1 e2 => (m.at_ n a mo e1 e2).wx w (upd_ne fun e => np (by rw [← e]; exact .inl (List.mem_of_getElem? e1))), fun a q => ?_, m.nm, fun P q e => (m.tabs P q e).keep rfl fun a u e na => ⟨fun z => (Rh.mem_hide.mp z).elim na (fun z => by rw [z, h] at e; cases e), by rw [upd_ne (ne_of_none e h)]; exact e⟩⟩
  rcases List.mem_cons.mp (show a ∈ p :: ρ.h from q) with q | q
  · rw [q]
    exact ⟨fun z => np (.inl z), _, upd_same⟩
  · exact ⟨(m.hid a q).1, by rw [upd_ne (fun e => np (by rw [← e]; exact .inr q))]; exact (m.hid a q).2⟩
theorem MOk.show_ {hd : Hd} {p : Addr} (m : MOk K mg (ρ.hide p) H hd) : MOk K mg ρ H hd :=
  ⟨m.len, m.nd, fun n a mo e1 e2 => (m.at_ n a mo e1 e2).wx Wx.show_ rfl, fun a q => m.hid a (List.mem_cons_of_mem _ q), m.nm, fun P q e => (m.tabs P q e).keep rfl fun a u e na => ⟨fun z => na (Rh.mem_hide.mpr (.inl z)), e⟩⟩
theorem MOk.at_hidden {hd : Hd} {p : Addr} {o : HO} (m : MOk K mg (ρ.hide p) H hd) : MOk K mg (ρ.hide p) (upd H p o) hd := by
  have np : p ∉ ρ.v := (m.hid p (List.mem_cons_self ..)).1
  refine ⟨m.len, m.nd, fun n a mo e1 e2 => (m.at_ n a mo e1 e2).wx Wx.at_ (upd_ne fun e => np (by rw [← e]; exact List.mem_of_getElem? e1)), fun a q => ⟨(m.hid a q).1, ?_⟩, m.nm, fun P q e => (m.tabs P q e).keep rfl fun a u e na => ⟨na, by rw [upd_ne (fun z => na (Rh.mem_hide.mpr (.inr z)))]; exact e⟩⟩
  by_cases e : a = p
  · rw [e, upd_same]
    exact ⟨_, rfl⟩
  · rw [upd_ne e]
    exact (m.hid a q).2
/-- what is hidden is not seen -/
theorem MOk.hidden {hd : Hd} {p : Addr} (m : MOk K mg (ρ.hide p) H hd) : p ∉ ρ.v := (m.hid p (List.mem_cons_self ..)).1
theorem Ext.hidden {p : Addr} (e : Ext (ρ.hide p) H ρ' H') : ∃ ρ2 : Rh, ρ' = ρ2.hide p := by
  obtain ⟨τ, rfl⟩ := e.pre
  exact ⟨⟨ρ.v ++ τ, ρ.h, ρ.n⟩, rfl⟩
theorem Ext.show_ {p : Addr} {hd : Hd} (m : MOk K mg (ρ'.hide p) H' hd) (n : p ∉ ρ) (e : Ext (ρ.hide p) H (ρ'.hide p) H') (nt : NoTb H p) : Ext ρ H ρ' H' := by
  have hq : H' p = H p := e.hid p (List.mem_cons_self ..)
  refine ⟨?_, fun a o h na t => ?_, e.there, fun a h na => ?_, fun a h => e.hid a (List.mem_cons_of_mem _ h), fun P t => ?_⟩
  · obtain ⟨τ, q⟩ := e.pre
    refine ⟨τ, ?_⟩
    obtain ⟨v', h', n'⟩ := ρ'
    have q1 : (⟨v', p :: h', n'⟩ : Rh) = ⟨ρ.v ++ τ, p :: ρ.h, ρ.n⟩ := q
    injection q1 with q1 q2 q3
    injection q2 with _ q2
    rw [q1, q2, q3]
  · by_cases ea : a = p
    · rw [ea] at h ⊢
      exact hq.trans h
    · exact e.keep a o h (fun z => by
        rcases Rh.mem_hide.mp z with z | z
        · exact na z
        · exact ea z) t
  · refine e.fresh a (Rh.mem_hide.mpr (.inl h)) fun z => ?_
    rcases Rh.mem_hide.mp z with z | z
    · exact na z
    · rw [z] at h na
      obtain ⟨τ, q⟩ := e.pre
      obtain ⟨v', h', n'⟩ := ρ'
      have q1 : (⟨v', p :: h', n'⟩ : Rh) = ⟨ρ.v ++ τ, p :: ρ.h, ρ.n⟩ := q
      injection q1 with q1 q2
      injection q2 with _ q2
      rcases h with h | h
      · exact m.hidden h
      · exact na (.inr (by rw [← q2]; exact h))
  · have t1 : TbZ (ρ.hide p) H P := t.other rfl fun a na => by
      by_cases ea : a = p
      · exact .inr (by rw [ea]; exact nt)
      · exact .inl fun z => (Rh.mem_hide.mp z).elim na ea
    exact (e.tab P t1).keep rfl fun a o h na => ⟨fun z => na (Rh.mem_hide.mpr (.inl z)), h⟩
/-- .. and written -/
theorem Ext.at_new {p : Addr} {o : HO} (e : Ext ρ H ρ' H') (h : H p = none) (n : p ∉ ρ.h) (nt : NoTb H' p) : Ext ρ H ρ' (upd H' p o) :=
  ⟨e.pre, fun a u q na t => by rw [upd_ne (ne_of_none q h)]; exact e.keep a u q na t, fun a q => by
    by_cases ea : a = p
    · rw [ea]; exact h
    · rw [upd_ne ea] at q; exact e.there a q, e.fresh, fun a q => by
    rw [upd_ne (fun ea => n (by rw [← ea]; exact q))]; exact e.hid a q, fun P t => by
    obtain ⟨out, ps, h1, h2, h3⟩ := e.tab P t
    refine ⟨out, ps, by rw [upd_ne (fun z => nt.t ps (by rw [← z]; exact h1))]; exact h1, h2, fun pos u x => ?_⟩
    obtain ⟨c, e1, e2, e3⟩ := h3 pos u x
    exact ⟨c, e1, e2, by rw [upd_ne (fun z => nt.c _ (by rw [← z]; exact e3))]; exact e3⟩⟩
end
end Z
/-! Z2: readings. -/
namespace Z
open PySem PySem.Spec PyProof.Rows L2

/-- an exception, as it flies -/
def RX (K : PySem.W.Frag) (mg : MG) (ρ : Rh) (H : Hp) (C : String) (fs : List (String × D)) (cls : Value) (dd : Option Addr) : Prop :=
  ∃ c, mg (nm C) = some (.ref c) ∧ cls = .ref c ∧ ((fs = [] ∧ dd = none) ∨ ∃ d gs, dd = some d ∧ d ∉ ρ ∧ H d = some (.xd gs) ∧ RDf K mg ρ H fs gs)

section
variable (K : PySem.W.Frag) (mg : MG)
/-- a run's end, from the heap H -/
def Kt (W : WX) (σ : L2.St) (ρ : Rh) (H : Hp) {α : Type} (r : R α) (P : α → Hd → Rh → Hp → Prop) : Prop := match r with
  | .ok a h => ∀ ρ' H', Ext ρ H ρ' H' → MOk K mg ρ' H' h → P a h ρ' H'
  | .exc C fs h => ∀ ρ' H' cls dd, Ext ρ H ρ' H' → MOk K mg ρ' H' h → RX K mg ρ' H' C fs cls dd → W cls dd σ H'
  | .bad => False
/-- an operation's end -/
def Fin (ρ : Rh) (H : Hp) (Q : VK) : D → Hd → Prop := fun d h => ∀ ρ' H', Ext ρ H ρ' H' → MOk K mg ρ' H' h → ∀ v, RD K mg ρ' H' d v → Q v H'
def OkR {α : Type} (r : R α) (P : α → Hd → Prop) : Prop := match r with
  | .ok a h => P a h
  | _ => False
theorem OkR.imp {α : Type} {r : R α} {P P' : α → Hd → Prop} (k : OkR r P) (h : ∀ a hd, P a hd → P' a hd) : OkR r P' := by
  cases r with
  | ok a hd => exact h _ _ k
  | exc C fs hd => exact k
  | bad => exact k
/-- an expression that does m -/
def rd (W : WX) (m : Env → Hd → R D) : TE := fun σ H Q => ∃ ρ env hd, REnv K mg ρ H env σ ∧ MOk K mg ρ H hd ∧ Kt K mg W σ ρ H (m env hd) (fun d h ρ' H' => ∀ v, RD K mg ρ' H' d v → Q v H')
def rdT (W : WX) (m : Env → Hd → R Bool) : TT := fun σ H Q => ∃ ρ env hd, REnv K mg ρ H env σ ∧ MOk K mg ρ H hd ∧ Kt K mg W σ ρ H (m env hd) (fun b h ρ' H' => Q b H')
def rdA (W : WX) (m : Env → Hd → R (List D)) : TA := fun σ H Q => ∃ ρ env hd, REnv K mg ρ H env σ ∧ MOk K mg ρ H hd ∧ Kt K mg W σ ρ H (m env hd) (fun ds h ρ' H' => ∀ vs, RDs K mg ρ' H' ds vs → Q vs H')
/-- a two-place operation that does S -/
def r2 (S : D → D → Hd → R D) : R2 := fun x y H Q => ∃ ρ hd dx dy, MOk K mg ρ H hd ∧ RD K mg ρ H dx x ∧ RD K mg ρ H dy y ∧ OkR (S dx dy hd) (Fin K mg ρ H Q)
def r1 (S : D → Hd → R D) : V → Hp → VK → Prop := fun x H Q => ∃ ρ hd dx, MOk K mg ρ H hd ∧ RD K mg ρ H dx x ∧ OkR (S dx hd) (Fin K mg ρ H Q)
def rN (S : List D → Hd → R D) : List V → Hp → VK → Prop := fun xs H Q => ∃ ρ hd ds, MOk K mg ρ H hd ∧ RDs K mg ρ H ds xs ∧ OkR (S ds hd) (Fin K mg ρ H Q)
def rM (S : D → List D → Hd → R D) : V → List V → Hp → VK → Prop := fun x xs H Q => ∃ ρ hd d ds, MOk K mg ρ H hd ∧ RD K mg ρ H d x ∧ RDs K mg ρ H ds xs ∧ OkR (S d ds hd) (Fin K mg ρ H Q)
end

section
variable {K : PySem.W.Frag} {mg : MG} {W : WX} {σ : L2.St} {ρ ρ1 : Rh} {H H1 : Hp}
theorem Kt.ext {α : Type} {r : R α} {P : α → Hd → Rh → Hp → Prop} (e : Ext ρ H ρ1 H1) (k : Kt K mg W σ ρ H r P) : Kt K mg W σ ρ1 H1 r P := by
  cases r with
  | ok a h => exact fun ρ' H' e' m => k ρ' H' (e.trans e') m
  | exc C fs h => exact fun ρ' H' cls dd e' m x => k ρ' H' cls dd (e.trans e') m x
  | bad => exact k
theorem Kt.bind {α β : Type} {m : R α} {f : α → Hd → R β} {P : β → Hd → Rh → Hp → Prop} (k : Kt K mg W σ ρ H (m.bind f) P) :
    Kt K mg W σ ρ H m (fun a h ρ' H' => Ext ρ H ρ' H' ∧ MOk K mg ρ' H' h ∧ Kt K mg W σ ρ' H' (f a h) P) := by
  cases m with
  | ok a h => exact fun ρ' H' e m => ⟨e, m, Kt.ext (r := f a h) e k⟩
  | exc C fs h => exact k
  | bad => exact k
theorem Kt.imp {α : Type} {r : R α} {P P' : α → Hd → Rh → Hp → Prop} (k : Kt K mg W σ ρ H r P) (h : ∀ a hd ρ' H', P a hd ρ' H' → P' a hd ρ' H') : Kt K mg W σ ρ H r P' := by
  cases r with
  | ok a hd => exact fun ρ' H' e m => h _ _ _ _ (k ρ' H' e m)
  | exc C fs hd => exact k
  | bad => exact k
theorem Kt.st {α : Type} {r : R α} {P : α → Hd → Rh → Hp → Prop} (k : Kt K mg W σ ρ H r.st P) : OkR r (fun a h => ∀ ρ' H', Ext ρ H ρ' H' → MOk K mg ρ' H' h → P a h ρ' H') := by
  cases r with
  | ok a hd => exact k
  | exc C fs hd => exact k
  | bad => exact k
theorem Kt.of {α : Type} {o : Option α} {hd : Hd} {P : α → Hd → Rh → Hp → Prop} (k : Kt K mg W σ ρ H (R.of o hd) P) : ∃ a, o = some a ∧ ∀ ρ' H', Ext ρ H ρ' H' → MOk K mg ρ' H' hd → P a hd ρ' H' := by
  cases o with
  | some a => exact ⟨a, rfl, k⟩
  | none => exact k.elim
theorem rd.here {m : Env → Hd → R D} {Q : VK} {env : Env} {hd : Hd} (e : REnv K mg ρ H env σ) (m1 : MOk K mg ρ H hd) (k : Kt K mg W σ ρ H (m env hd) (fun d h ρ' H' => ∀ v, RD K mg ρ' H' d v → Q v H')) : rd K mg W m σ H Q := ⟨ρ, env, hd, e, m1, k⟩
end

/-- a reading made weaker -/
theorem _root_.L2.PE.imp {X : Cx} {e : Expr} {t t' : TE} (h : PE X e t) (i : ∀ σ H Q, t' σ H Q → t σ H Q) : PE X e t' := ⟨fun pins s σ H Q I q => h.run pins s σ H Q I (i σ H Q q)⟩
theorem _root_.L2.PT.imp {X : Cx} {e : Expr} {t t' : TT} (h : PT X e t) (i : ∀ σ H Q, t' σ H Q → t σ H Q) : PT X e t' := ⟨fun pins s σ H Q I q => h.run pins s σ H Q I (i σ H Q q)⟩
theorem _root_.L2.PA.imp {X : Cx} {e : List Expr} {t t' : TA} (h : PA X e t) (i : ∀ σ H Q, t' σ H Q → t σ H Q) : PA X e t' := ⟨fun pos pins s σ H Q I q => h.run pos pins s σ H Q I (i σ H Q q)⟩
theorem _root_.L2.PS.imp {X : Cx} {e : Stmt} {t t' : TS} (h : PS X e t) (i : ∀ D σ H, t' D σ H → t D σ H) : PS X e t' := ⟨fun pins s σ H D I q => h.run pins s σ H D I (i D σ H q)⟩
theorem _root_.L2.PSs.imp {X : Cx} {e : List Stmt} {t t' : TS} (h : PSs X e t) (i : ∀ D σ H, t' D σ H → t D σ H) : PSs X e t' := ⟨fun pins s σ H D I q => h.run pins s σ H D I (i D σ H q)⟩

section
variable {X : Cx} {W : WX} {a b c : Expr} {ma mb mc : Env → Hd → R D} {pos : Pos}
/-- one sub-expression, then what a rule asks -/
theorem rd_1 {K : PySem.W.Frag} {mg : MG} {m : Env → Hd → R D} {f : Env → D → Hd → R D} {σ : L2.St} {H : Hp} {Q : VK} {R' : V → Hp → Prop}
    (h : rd K mg W (fun env hd => (m env hd).bind fun x hd => f env x hd) σ H Q)
    (k : ∀ ρ env hd H1 x v, REnv K mg ρ H1 env σ → MOk K mg ρ H1 hd → RD K mg ρ H1 x v → Kt K mg W σ ρ H1 (f env x hd) (fun d h ρ' H' => ∀ v, RD K mg ρ' H' d v → Q v H') → R' v H1) : rd K mg W m σ H R' := by
  obtain ⟨ρ, env, hd, re, mo, q⟩ := h
  exact ⟨ρ, env, hd, re, mo, q.bind.imp fun x h1 ρ1 H1 ⟨e1, m1, k1⟩ v rv => k ρ1 env h1 H1 x v (re.ext e1) m1 rv k1⟩
theorem rd_2 {K : PySem.W.Frag} {mg : MG} {f : D → D → Hd → R D} {σ : L2.St} {H : Hp} {Q : VK} {R' : V → V → Hp → Prop}
    (h : rd K mg W (fun env hd => (ma env hd).bind fun x hd => (mb env hd).bind fun y hd => (f x y hd)) σ H Q)
    (k : ∀ ρ env hd H1 x y v u, REnv K mg ρ H1 env σ → MOk K mg ρ H1 hd → RD K mg ρ H1 x v → RD K mg ρ H1 y u → Kt K mg W σ ρ H1 (f x y hd) (fun d h ρ' H' => ∀ v, RD K mg ρ' H' d v → Q v H') → R' v u H1) :
    rd K mg W ma σ H (fun v H1 => rd K mg W mb σ H1 (fun u H2 => R' v u H2)) := by
  refine rd_1 h fun ρ env hd H1 x v re mo rv k1 => ?_
  exact ⟨ρ, env, hd, re, mo, k1.bind.imp fun y h2 ρ2 H2 ⟨e2, m2, k2⟩ u ru => k ρ2 env h2 H2 x y v u (re.ext e2) m2 (rv.ext e2) ru k2⟩
theorem pe_2 {op : Operator} {S : D → D → Hd → R D} (ho : OpR X (binaryOp op) (r2 X.K X.mg S)) (ha : PE X a (rd X.K X.mg W ma)) (hb : PE X b (rd X.K X.mg W mb)) :
    PE X (.BinOp a op b pos) (rd X.K X.mg W fun env hd => (ma env hd).bind fun x hd => (mb env hd).bind fun y hd => (S x y hd).st) :=
  (pe_op ho ha hb).imp fun σ H Q h => rd_2 h fun ρ env hd H1 x y v u re mo rv ru k => ⟨ρ, hd, x, y, mo, rv, ru, k.st⟩
theorem pe_cmp2 {op : CmpOp} {S : D → D → Hd → R D} (ho : OpR X (compareOp op) (r2 X.K X.mg S)) (ha : PE X a (rd X.K X.mg W ma)) (hb : PE X b (rd X.K X.mg W mb)) (hm : behindInMarks op b = false) :
    PE X (.Compare a [op] [b] pos) (rd X.K X.mg W fun env hd => (ma env hd).bind fun x hd => (mb env hd).bind fun y hd => (S x y hd).st) :=
  (pe_cmpR ho ha hb hm).imp fun σ H Q h => rd_2 h fun ρ env hd H1 x y v u re mo rv ru k => ⟨ρ, hd, x, y, mo, rv, ru, k.st⟩
end
end Z
/-! Z3: operations. -/
namespace Z
open PySem PySem.Spec PyProof.Rows L2

section
variable {K : PySem.W.Frag} {mg : MG} {ρ : Rh} {H : Hp} {hd : Hd} {Q : VK}
theorem Fin.same {d : D} {v : V} (mo : MOk K mg ρ H hd) (h : Fin K mg ρ H Q d hd) (r : RD K mg ρ H d v) : Q v H := h ρ H .refl mo v r
/-- a new list, frozen or not -/
theorem Fin.list {m : Bool} {xs : List D} {vs : List V} (mo : MOk K mg ρ H hd) (h : OkR (mkL m xs hd) (Fin K mg ρ H Q)) (r : RDs K mg ρ H xs vs) {p : Addr} (hp : H p = none) : Q (.ref p) (upd H p (.lst vs)) := by
  unfold mkL at h
  cases m with
  | false =>
    have h : Fin K mg ρ H Q (.lst xs) hd := h
    exact h ρ _ (Ext.new hp (mo.notin hp)) (mo.new hp) (.ref p) (.lst (mo.notin hp) upd_same (r.ext (Ext.new hp (mo.notin hp))))
  | true =>
    have h : Fin K mg ρ H Q (.obj hd.length) (hd ++ [.lst xs]) := h
    refine h (ρ.add p) _ (Ext.more hp (mo.notin hp)) (mo.more hp (.lst upd_same (r.ext (Ext.more hp (mo.notin hp))))) (.ref p) (.obj ?_)
    show (ρ.v ++ [p])[hd.length]? = some p
    rw [← mo.len, List.getElem?_append_right (Nat.le_refl _)]
    simp
theorem Fin.tup {xs : List D} {vs : List V} (mo : MOk K mg ρ H hd) (h : Fin K mg ρ H Q (.tup xs) hd) (r : RDs K mg ρ H xs vs) {p : Addr} (hp : H p = none) : Q (.ref p) (upd H p (.tup vs)) :=
  h ρ _ (Ext.new hp (mo.notin hp)) (mo.new hp) (.ref p) (.tup (mo.notin hp) upd_same (r.ext (Ext.new hp (mo.notin hp))))
/-- a list made in the run -/
theorem lst_of {d : D} {v : V} {xs : List D} (mo : MOk K mg ρ H hd) (r : RD K mg ρ H d v) (h : lstOf hd d = some xs) : ∃ a vs, v = .ref a ∧ H a = some (.lst vs) ∧ RDs K mg ρ H xs vs := by
  cases r with
  | lst n e q =>
    cases h
    exact ⟨_, _, rfl, e, q⟩
  | @obj k a e =>
    have h : (match hd[k]? with | some (.lst xs) => some xs | _ => none) = some xs := h
    split at h
    · rename_i ys q
      cases h
      have r := mo.at_ k a _ e q
      cases r with
      | lst e q => exact ⟨_, _, rfl, e, q⟩
    · cases h
  | _ => cases h
theorem seq_of {d : D} {v : V} {xs : List D} (mo : MOk K mg ρ H hd) (r : RD K mg ρ H d v) (h : items hd d = some xs) : ∃ a vs, v = .ref a ∧ RDs K mg ρ H xs vs ∧
    ((isTup d = true ∧ H a = some (.tup vs)) ∨ (isTup d = false ∧ SqL K H a vs)) := by
  cases r with
  | tup n e q =>
    cases h
    exact ⟨_, _, rfl, q, .inl ⟨rfl, e⟩⟩
  | lst n e q =>
    cases h
    exact ⟨_, _, rfl, q, .inr ⟨rfl, SqL.of e⟩⟩
  | row e =>
    cases h
    exact ⟨_, _, rfl, RDs.ints _, .inr ⟨rfl, e.sq⟩⟩
  | @obj k a e =>
    have h : (match hd[k]? with | some (.lst xs) => some xs | _ => none) = some xs := h
    split at h
    · rename_i ys q
      cases h
      have r := mo.at_ k a _ e q
      cases r with
      | lst e q => exact ⟨_, _, rfl, q, .inr ⟨rfl, SqL.of e⟩⟩
    · cases h
  | _ => cases h
end

section
variable {X : Cx}
theorem line_size : line = sizeLine := rfl
theorem tx_append (a b : List Nat) : tx a ++ tx b = tx (a ++ b) := by
  show (⟨a.toArray ++ b.toArray⟩ : PySem.Str) = ⟨(a ++ b).toArray⟩
  rw [List.append_toArray]
theorem tx_length (a : List Nat) : (tx a).length = a.length := rfl
theorem OpR.imp {f : Value → Value → Sem Value} {r r' : R2} (h : OpR X f r) (i : ∀ x y H Q, r' x y H Q → r x y H Q) : OpR X f r' := fun pins s σ H x y v u Q I rx ry q => h pins s σ H x y v u Q I rx ry (i x y H Q q)

theorem op_addZ (m : Bool) : OpR X (binaryOp .Add) (r2 X.K X.mg (addS m)) := by
  refine OpR.imp (OpR.or op_add (OpR.or op_add_str (OpR.or op_catA op_cat))) fun x y H Q ⟨ρ, hd, dx, dy, mo, rx, ry, k⟩ => ?_
  unfold addS at k
  split at k
  · cases rx; cases ry
    exact .inl ⟨_, _, rfl, rfl, k.same mo (.int _)⟩
  · cases rx; cases ry
    split at k
    · rename_i hl
      refine .inr (.inl ⟨_, _, rfl, rfl, by rw [tx_length, tx_length]; exact hl, ?_⟩)
      rw [tx_append]
      exact Fin.same mo k (.str _)
    · exact absurd k id
  · rename_i a b
    split at k
    · rename_i hl
      cases rx with
      | tup n1 e1 q1 =>
        cases ry with
        | tup n2 e2 q2 =>
          have k : Fin X.K X.mg ρ H Q (.tup (a ++ b)) hd := k
          refine .inr (.inr (.inl ⟨_, _, _, _, rfl, rfl, SqT.of e1, SqT.of e2, by rw [← q1.length, ← q2.length]; exact hl, fun z => ?_, fun _ z => ?_, fun _ _ p hp => k.tup mo (q1.append q2) hp⟩))
          · subst z
            cases q1
            exact k.same mo (.tup n2 e2 q2)
          · subst z
            cases q2
            refine k.same mo ?_
            rw [List.append_nil]
            exact .tup n1 e1 q1
    · exact absurd k id
  · split at k
    · rename_i a b e1 e2
      split at k
      · rename_i hl
        obtain ⟨_, vs, rfl, h1, q1⟩ := lst_of mo rx e1
        obtain ⟨_, ws, rfl, h2, q2⟩ := lst_of mo ry e2
        exact .inr (.inr (.inr ⟨_, _, _, _, rfl, rfl, h1, h2, by rw [← q1.length, ← q2.length]; exact hl, fun p hp => Fin.list mo k (q1.append q2) hp⟩))
      · exact absurd k id
    · exact absurd k id
theorem op_mulZ (m : Bool) : OpR X (binaryOp .Mult) (r2 X.K X.mg (mulS m)) := by
  refine OpR.imp (OpR.or (OpR.or op_mul op_rep) op_repT) fun x y H Q ⟨ρ, hd, dx, dy, mo, rx, ry, k⟩ => ?_
  unfold mulS at k
  split at k
  · cases rx; cases ry
    split at k
    · rename_i hc
      exact .inl (.inl ⟨_, _, rfl, rfl, hc, Fin.same mo k (.int _)⟩)
    · exact absurd k id
  · rename_i a i
    split at k
    · rename_i hl
      cases rx with
      | tup n1 e1 q1 =>
        cases ry
        have k : Fin X.K X.mg ρ H Q (.tup (List.replicate i.toNat a).flatten) hd := k
        exact .inr ⟨_, _, _, rfl, rfl, SqT.of e1, fun z => hl.1 (by subst z; cases q1; rfl), hl.2.1, hl.2.2.1, by rw [← q1.length]; exact hl.2.2.2, fun p hp => k.tup mo (RDs.flat _ q1) hp⟩
    · exact absurd k id
  · split at k
    · rename_i a e1
      split at k
      · rename_i hl
        obtain ⟨_, vs, rfl, h1, q1⟩ := lst_of mo rx e1
        cases ry
        exact .inl (.inr ⟨_, _, _, rfl, rfl, h1, hl.1, hl.2.1, by rw [← q1.length]; exact hl.2.2, fun p hp => Fin.list mo k (RDs.flat _ q1) hp⟩)
      · exact absurd k id
    · exact absurd k id
  · exact absurd k id
theorem op_subZ (m : Bool) : OpR X (binaryOp .Sub) (r2 X.K X.mg (binS m .Sub)) := by
  refine OpR.imp op_sub fun x y H Q ⟨ρ, hd, dx, dy, mo, rx, ry, k⟩ => ?_
  simp only [binS] at k
  split at k
  · cases rx; cases ry
    exact ⟨_, _, rfl, rfl, k.same mo (.int _)⟩
  · exact absurd k id
theorem op_fdivZ (m : Bool) : OpR X (binaryOp .FloorDiv) (r2 X.K X.mg (binS m .FloorDiv)) := by
  refine OpR.imp op_fdiv fun x y H Q ⟨ρ, hd, dx, dy, mo, rx, ry, k⟩ => ?_
  simp only [binS] at k
  split at k
  · split at k
    · rename_i hc
      cases rx; cases ry
      exact ⟨_, _, rfl, rfl, hc, Fin.same mo k (.int _)⟩
    · exact absurd k id
  · exact absurd k id
theorem op_modZ (m : Bool) : OpR X (binaryOp .Mod) (r2 X.K X.mg (binS m .Mod)) := by
  refine OpR.imp op_mod fun x y H Q ⟨ρ, hd, dx, dy, mo, rx, ry, k⟩ => ?_
  simp only [binS] at k
  split at k
  · split at k
    · rename_i hc
      cases rx; cases ry
      exact ⟨_, _, rfl, rfl, hc, Fin.same mo k (.int _)⟩
    · exact absurd k id
  · exact absurd k id
theorem op_powZ (m : Bool) : OpR X (binaryOp .Pow) (r2 X.K X.mg (binS m .Pow)) := by
  refine OpR.imp op_pow fun x y H Q ⟨ρ, hd, dx, dy, mo, rx, ry, k⟩ => ?_
  simp only [binS] at k
  split at k
  · split at k
    · rename_i hc
      cases rx; cases ry
      exact ⟨_, _, rfl, rfl, hc, Fin.same mo k (.int _)⟩
    · exact absurd k id
  · exact absurd k id
def binOk : Operator → Bool
  | .Add | .Sub | .Mult | .FloorDiv | .Mod | .Pow => true
  | _ => false
theorem op_binZ {m : Bool} {op : Operator} (h : binOk op = true) : OpR X (binaryOp op) (r2 X.K X.mg (binS m op)) := by
  cases op <;> first
    | exact op_addZ m
    | exact op_subZ m
    | exact op_mulZ m
    | exact op_fdivZ m
    | exact op_modZ m
    | exact op_powZ m
    | cases h
end
end Z
/-! Z4: data compared, shown. -/
namespace Z
open PySem PySem.Spec PyProof.Rows L2

section
variable {X : Cx} {pins : List (Addr × Obj)} {σ : L2.St} {ρ : Rh} {H : Hp} {s : Shared} {hd : Hd}
mutual
theorem RD.dp : ∀ (d : D) (v : V) (p : PyData), RD X.K X.mg ρ H d v → toP d = some p → Dp X.K H v p
  | .non, _, _, r, e => by cases r; cases e; exact .non
  | .bl b, _, _, r, e => by cases r; cases e; exact .bl b
  | .int i, _, _, r, e => by cases r; cases e; exact .int i
  | .str x, _, _, r, e => by cases r; cases e; exact .str _
  | .tup xs, _, _, r, e => by
    cases r with
    | tup n h q =>
      simp only [toP] at e
      cases q1 : toPs xs with
      | none => rw [q1] at e; cases e
      | some ps =>
        rw [q1] at e
        cases e
        exact .tup (SqT.of h) (RDs.dp xs _ ps q q1)
  | .lst xs, _, _, r, e => by
    cases r with
    | lst n h q =>
      simp only [toP] at e
      cases q1 : toPs xs with
      | none => rw [q1] at e; cases e
      | some ps =>
        rw [q1] at e
        cases e
        exact .lst (SqL.of h) (RDs.dp xs _ ps q q1)
  | .row ns, _, _, r, e => by
    cases r with
    | row h =>
      cases e
      refine .lst h.sq ?_
      clear h
      induction ns with
      | nil => exact .nil
      | cons n ns ih => exact .cons (.int n) ih
  | .dic _, _, _, _, e => by cases e
  | .ins _ _, _, _, _, e => by cases e
  | .exc _ _, _, _, _, e => by cases e
  | .glo _, _, _, _, e => by cases e
  | .ty _, _, _, _, e => by cases e
  | .obj _, _, _, _, e => by cases e
theorem RDs.dp : ∀ (ds : List D) (vs : List V) (ps : List PyData), RDs X.K X.mg ρ H ds vs → toPs ds = some ps → DpAll X.K H vs ps
  | [], _, _, r, e => by
    cases r
    cases e
    exact .nil
  | x :: xs, _, _, r, e => by
    cases r with
    | cons r1 r2 =>
      simp only [toPs] at e
      split at e
      · rename_i d ds e1 e2
        cases e
        exact .cons (RD.dp x _ d r1 e1) (RDs.dp xs _ ds r2 e2)
      · cases e
end
theorem RD.topdp {d : D} {v : V} {p : PyData} (mo : MOk X.K X.mg ρ H hd) (r : RD X.K X.mg ρ H d v) (e : topP hd d = some p) : Dp X.K H v p := by
  unfold topP at e
  split at e
  · split at e
    · rename_i n _ xs h
      cases r with
      | obj q =>
        have m := mo.at_ _ _ _ q h
        cases m with
        | lst e1 q1 =>
          cases q2 : toPs xs with
          | none => rw [q2] at e; cases e
          | some ps =>
            rw [q2] at e
            cases e
            exact .lst (SqL.of e1) (RDs.dp xs _ ps q1 q2)
    · cases e
  · exact RD.dp d v p r e
theorem RD.reads {d : D} {v : V} {u : Value} {p : PyData} (I : Inv X pins σ H s) (mo : MOk X.K X.mg ρ H hd) (r : RD X.K X.mg ρ H d v) (e : topP hd d = some p) (rv : RelV v u) : ∃ as, Reads s.heap u p as :=
  Dp.reads I p v u (r.topdp mo e) rv

theorem eqd_some {hd : Hd} {x y : D} {b : Bool} (h : eqd hd x y = some b) : ∃ p q, topP hd x = some p ∧ topP hd y = some q ∧ p.plain = true ∧ q.plain = true ∧ min p.depth q.depth ≤ 64 ∧ b = PyData.eqv p q := by
  unfold eqd at h
  split at h
  · rename_i p q e1 e2
    split at h
    · rename_i hc
      cases h
      exact ⟨p, q, e1, e2, hc.1, hc.2.1, hc.2.2, rfl⟩
    · cases h
  · cases h
theorem inD_some {hd : Hd} {x y : D} {b : Bool} (h : inD hd x y = some b) : ∃ p ds, topP hd x = some p ∧ (topP hd y = some (.list ds) ∨ topP hd y = some (.tuple ds)) ∧ p.plain = true ∧ PyData.plainAll ds = true ∧ min (PyData.depthAll ds) p.depth ≤ 64 ∧
    b = ds.any fun d => PyData.eqv d p := by
  unfold inD at h
  split at h
  · rename_i p q e1 e2
    split at h
    · rename_i hc
      cases h
      exact ⟨p, q, e1, .inl e2, hc.1, hc.2.1, hc.2.2, rfl⟩
    · cases h
  · rename_i p q e1 e2
    split at h
    · rename_i hc
      cases h
      exact ⟨p, q, e1, .inr e2, hc.1, hc.2.1, hc.2.2, rfl⟩
    · cases h
  · cases h
/-- an operation that hands on a truth -/
theorem bl_some {o : Option Bool} {hd : Hd} {f : Bool → D} {P : D → Hd → Prop} (k : OkR ((R.of o hd).bind fun b hd => .ok (f b) hd) P) : ∃ b, o = some b ∧ P (f b) hd := by
  cases o with
  | none => exact absurd k id
  | some b => exact ⟨b, rfl, k⟩
theorem op_eqZ (hu : X.A.units + 66 < cLine) : OpR X (compareOp .Eq) (r2 X.K X.mg fun x y hd => (R.of (eqd hd x y) hd).bind fun b hd => .ok (.bl b) hd) := by
  intro pins s σ H x y v u Q I rx ry ⟨ρ, hd, dx, dy, mo, r1, r2, k⟩
  obtain ⟨b, e, k⟩ := bl_some k
  obtain ⟨p, q, e1, e2, h1, h2, h3, rfl⟩ := eqd_some e
  obtain ⟨as, q1⟩ := r1.reads I mo e1 rx
  obtain ⟨bs, q2⟩ := r2.reads I mo e2 ry
  exact SeqAt.eq_plain q1 q2 h1 h2 (by omega) ⟨.bl _, H, I, rfl, Fin.same mo k (.bl _)⟩
theorem op_neZ (hu : X.A.units + 66 < cLine) : OpR X (compareOp .NotEq) (r2 X.K X.mg fun x y hd => (R.of (eqd hd x y) hd).bind fun b hd => .ok (.bl (!b)) hd) := by
  intro pins s σ H x y v u Q I rx ry ⟨ρ, hd, dx, dy, mo, r1, r2, k⟩
  obtain ⟨b, e, k⟩ := bl_some (f := fun b => .bl (!b)) k
  obtain ⟨p, q, e1, e2, h1, h2, h3, rfl⟩ := eqd_some e
  obtain ⟨as, q1⟩ := r1.reads I mo e1 rx
  obtain ⟨bs, q2⟩ := r2.reads I mo e2 ry
  exact SeqAt.ne_plain q1 q2 h1 h2 (by omega) ⟨.bl _, H, I, rfl, Fin.same mo k (.bl _)⟩
theorem tx_inj {a b : List Nat} (h : tx a = tx b) : a = b := by
  have := congrArg (fun z : PySem.Str => z.cps.toList) h
  simpa using this
theorem dic_get {K : PySem.W.Frag} {mg : MG} {z : List Nat} : ∀ {kvs : List (D × D)} {vs : List (L2.Key × V)}, RDk K mg ρ H kvs vs → 
    (∀ d, lkD z kvs = some d → ∃ v, valV vs (.inr (tx z)) = some v ∧ RD K mg ρ H d v) ∧ (lkD z kvs = none → valV vs (.inr (tx z)) = none)
  | _, _, .nil => ⟨fun d e => (nomatch e), fun _ => rfl⟩
  | _, _, .cons (k := k) (x := x) (v := v) (vs := vs) r q => by
    have ih := dic_get (z := z) q
    unfold lkD valV
    simp only
    by_cases e : k = z
    · subst e
      simp only [if_true, List.find?_cons, decide_true, Option.map_some, Option.some.injEq]
      exact And.intro (fun d e => ⟨v, rfl, e ▸ r⟩) (fun e => nomatch e)
    · have e2 : ¬ (Sum.inr (tx k) : L2.Key) = Sum.inr (tx z) := fun h => e (tx_inj (Sum.inr.inj h))
      simp only [if_neg e, List.find?_cons, decide_eq_false e2]
      exact ih
theorem op_inZ (hu : X.A.units + 66 < cLine) : OpR X (compareOp .In) (r2 X.K X.mg fun x y hd => (R.of (inS hd x y) hd).bind fun b hd => .ok (.bl b) hd) := by
  intro pins s σ H x y v u Q I rx ry ⟨ρ, hd, dx, dy, mo, r1, r2, k⟩
  obtain ⟨b, e, k⟩ := bl_some k
  unfold inS at e
  split at e
  · split at e
    · rename_i z _ c
      cases e
      cases r1; cases r2
      exact op_in_sign pins s σ H _ _ v u Q I rx ry ⟨c, tx z, rfl, rfl, Fin.same mo k (.bl _)⟩
    · cases e
  · split at e
    · rename_i kvs _ z
      cases e
      cases r1
      cases r2 with
      | @dic a _ vs n h q =>
        obtain rfl : u = Value.ref _ := ry
        have g := DGet.k (k := Sum.inr (tx z)) h
        have hq := dic_get (z := z) q
        refine d_in (by omega) I g rx fun s3 I3 => ?_
        have e3 : (valV vs (Sum.inr (tx z))).isSome = (lkD z kvs).isSome := by
          cases e : lkD z kvs with
          | none => rw [hq.2 e]; rfl
          | some d =>
            obtain ⟨w, hw, _⟩ := hq.1 d e
            rw [hw]; rfl
        rw [e3]
        exact ⟨.bl _, H, I3, rfl, Fin.same mo k (.bl _)⟩
    · cases e
  · obtain ⟨p, ds, e1, e2, h1, h2, h3, rfl⟩ := inD_some e
    obtain ⟨as, q1⟩ := r1.reads I mo e1 rx
    rcases e2 with e2 | e2
    · obtain ⟨bs, q2⟩ := r2.reads I mo e2 ry
      exact SeqAt.in_list_data q2 q1 h2 h1 (by omega) ⟨.bl _, H, I, rfl, Fin.same mo k (.bl _)⟩
    · obtain ⟨bs, q2⟩ := r2.reads I mo e2 ry
      exact SeqAt.in_tuple_data q2 q1 h2 h1 (by omega) ⟨.bl _, H, I, rfl, Fin.same mo k (.bl _)⟩
theorem op_notInZ (hu : X.A.units + 66 < cLine) : OpR X (compareOp .NotIn) (r2 X.K X.mg fun x y hd => (R.of (inS hd x y) hd).bind fun b hd => .ok (.bl (!b)) hd) := by
  intro pins s σ H x y v u Q I rx ry ⟨ρ, hd, dx, dy, mo, r1, r2, k⟩
  obtain ⟨b, e, k⟩ := bl_some (f := fun b => .bl (!b)) k
  unfold inS at e
  split at e
  · split at e
    · rename_i z _ c
      cases e
      cases r1; cases r2
      exact op_notIn_sign pins s σ H _ _ v u Q I rx ry ⟨c, tx z, rfl, rfl, Fin.same mo k (.bl _)⟩
    · cases e
  · split at e
    · rename_i kvs _ z
      cases e
      cases r1
      cases r2 with
      | @dic a _ vs n h q =>
        obtain rfl : u = Value.ref _ := ry
        have g := DGet.k (k := Sum.inr (tx z)) h
        have hq := dic_get (z := z) q
        refine d_notIn (by omega) I g rx fun s3 I3 => ?_
        have e3 : (valV vs (Sum.inr (tx z))).isSome = (lkD z kvs).isSome := by
          cases e : lkD z kvs with
          | none => rw [hq.2 e]; rfl
          | some d =>
            obtain ⟨w, hw, _⟩ := hq.1 d e
            rw [hw]; rfl
        rw [e3]
        exact ⟨.bl _, H, I3, rfl, Fin.same mo k (.bl _)⟩
    · cases e
  · obtain ⟨p, ds, e1, e2, h1, h2, h3, rfl⟩ := inD_some e
    obtain ⟨as, q1⟩ := r1.reads I mo e1 rx
    rcases e2 with e2 | e2
    · obtain ⟨bs, q2⟩ := r2.reads I mo e2 ry
      exact SeqAt.notIn_list_data q2 q1 h2 h1 (by omega) ⟨.bl _, H, I, rfl, Fin.same mo k (.bl _)⟩
    · obtain ⟨bs, q2⟩ := r2.reads I mo e2 ry
      exact SeqAt.notIn_tuple_data q2 q1 h2 h1 (by omega) ⟨.bl _, H, I, rfl, Fin.same mo k (.bl _)⟩
theorem op_ltZ : OpR X (compareOp .Lt) (r2 X.K X.mg fun x y hd => match x, y with | .int a, .int b => .ok (.bl (decide (a < b))) hd | _, _ => .bad) := by
  refine OpR.imp op_lt fun x y H Q ⟨ρ, hd, dx, dy, mo, rx, ry, k⟩ => ?_
  dsimp only at k
  split at k
  · cases rx; cases ry
    exact ⟨_, _, rfl, rfl, Fin.same mo k (.bl _)⟩
  · exact absurd k id
theorem op_leZ : OpR X (compareOp .LtE) (r2 X.K X.mg fun x y hd => match x, y with | .int a, .int b => .ok (.bl (decide (a ≤ b))) hd | _, _ => .bad) := by
  refine OpR.imp op_le fun x y H Q ⟨ρ, hd, dx, dy, mo, rx, ry, k⟩ => ?_
  dsimp only at k
  split at k
  · cases rx; cases ry
    exact ⟨_, _, rfl, rfl, Fin.same mo k (.bl _)⟩
  · exact absurd k id
theorem op_gtZ : OpR X (compareOp .Gt) (r2 X.K X.mg fun x y hd => match x, y with | .int a, .int b => .ok (.bl (decide (b < a))) hd | _, _ => .bad) := by
  refine OpR.imp op_gt fun x y H Q ⟨ρ, hd, dx, dy, mo, rx, ry, k⟩ => ?_
  dsimp only at k
  split at k
  · cases rx; cases ry
    exact ⟨_, _, rfl, rfl, Fin.same mo k (.bl _)⟩
  · exact absurd k id
theorem op_geZ : OpR X (compareOp .GtE) (r2 X.K X.mg fun x y hd => match x, y with | .int a, .int b => .ok (.bl (decide (b ≤ a))) hd | _, _ => .bad) := by
  refine OpR.imp op_ge fun x y H Q ⟨ρ, hd, dx, dy, mo, rx, ry, k⟩ => ?_
  dsimp only at k
  split at k
  · cases rx; cases ry
    exact ⟨_, _, rfl, rfl, Fin.same mo k (.bl _)⟩
  · exact absurd k id
theorem op_isZ : OpR X (compareOp .Is) (r2 X.K X.mg (isS false)) := by
  refine OpR.imp op_isN fun x y H Q ⟨ρ, hd, dx, dy, mo, rx, ry, k⟩ => ?_
  unfold isS at k
  split at k
  · cases ry
    split at k
    · exact absurd k id
    · have k : Fin X.K X.mg ρ H Q (.bl (isNon dx != false)) hd := k
      have e : (isNon dx != false) = decide (x = .non) := by cases rx <;> simp [isNon]
      rw [e] at k
      exact ⟨rfl, k.same mo (.bl _)⟩
  · exact absurd k id
theorem op_isNotZ : OpR X (compareOp .IsNot) (r2 X.K X.mg (isS true)) := by
  refine OpR.imp op_notN fun x y H Q ⟨ρ, hd, dx, dy, mo, rx, ry, k⟩ => ?_
  unfold isS at k
  split at k
  · cases ry
    split at k
    · exact absurd k id
    · have k : Fin X.K X.mg ρ H Q (.bl (isNon dx != true)) hd := k
      have e : (isNon dx != true) = !decide (x = .non) := by cases rx <;> simp [isNon]
      rw [e] at k
      exact ⟨rfl, k.same mo (.bl _)⟩
  · exact absurd k id
end
end Z
/-! Z5: what an expression does: truth, tests, rows of expressions. -/
namespace Z
open PySem L2 PySem.Spec PyProof.Rows

section
variable {K : PySem.W.Frag} {mg : MG} {ρ : Rh} {H : Hp} {hd : Hd}
theorem emp_eq : ∀ {xs : List D} {vs : List V}, RDs K mg ρ H xs vs → xs.isEmpty = vs.isEmpty
  | _, _, .nil => rfl
  | _, _, .cons _ _ => rfl
theorem empk_eq : ∀ {xs : List (D × D)} {vs : List (L2.Key × V)}, RDk K mg ρ H xs vs → xs.isEmpty = vs.isEmpty
  | _, _, .nil => rfl
  | _, _, .cons _ _ => rfl
theorem tru_of {d : D} {v : V} {b : Bool} (mo : MOk K mg ρ H hd) (r : RD K mg ρ H d v) (e : truth hd d = some b) : TruV K v H b := by
  cases r with
  | non => cases e; rfl
  | bl b => cases e; rfl
  | int i => cases e; rfl
  | str x =>
    simp only [truth] at e
    split at e
    · rename_i hl
      cases e
      refine ⟨hl, ?_⟩
      show (!x.isEmpty) = (((x.length : Nat) : Int) != 0)
      cases x with
      | nil => rfl
      | cons c x =>
        have q : (((c :: x).length : Nat) : Int) ≠ 0 := by simp only [List.length_cons]; omega
        exact (bne_iff_ne.mpr q).symm
    · cases e
  | tup n h q =>
    cases e
    exact .inr (.inl ⟨_, SqT.of h, by rw [emp_eq q]⟩)
  | lst n h q =>
    cases e
    exact .inl ⟨_, SqL.of h, by rw [emp_eq q]⟩
  | row h =>
    cases e
    refine .inl ⟨_, h.sq, ?_⟩
    rename_i ns
    cases ns <;> rfl
  | dic n h q =>
    cases e
    exact .inr (.inr ⟨_, h, by rw [empk_eq q]⟩)
  | @obj n a h =>
    simp only [truth] at e
    split at e
    · rename_i xs q
      cases e
      have m := mo.at_ _ _ _ h q
      cases m with
      | lst h q => exact .inl ⟨_, SqL.of h, by rw [emp_eq q]⟩
    · rename_i xs q
      cases e
      have m := mo.at_ _ _ _ h q
      cases m with
      | dic h q => exact .inr (.inr ⟨_, h, by rw [empk_eq q]⟩)
    · cases e
  | _ => cases e
end

section
variable {X : Cx} {W : WX} {a b c e : Expr} {ma mb mc : Env → Hd → R D} {ta tb : Env → Hd → R Bool} {pos : Pos} {es rest : List Expr}
/-- behind a value, its truth -/
theorem rd_tr {K : PySem.W.Frag} {mg : MG} {m : Env → Hd → R D} {β : Type} {f : Env → D → Bool → Hd → R β} {P : β → Hd → Rh → Hp → Prop} {σ : L2.St} {H : Hp} {R' : V → Bool → Hp → Prop}
    (h : ∃ ρ env hd, REnv K mg ρ H env σ ∧ MOk K mg ρ H hd ∧ Kt K mg W σ ρ H ((m env hd).bind fun x hd => (R.of (truth hd x) hd).bind fun b hd => f env x b hd) P)
    (k : ∀ ρ env hd H1 x v b, REnv K mg ρ H1 env σ → MOk K mg ρ H1 hd → RD K mg ρ H1 x v → Kt K mg W σ ρ H1 (f env x b hd) P → R' v b H1) :
    rd K mg W m σ H (fun v H1 => ∃ b, TruV K v H1 b ∧ R' v b H1) := by
  obtain ⟨ρ, env, hd, re, mo, q⟩ := h
  refine ⟨ρ, env, hd, re, mo, q.bind.imp fun x h1 ρ1 H1 ⟨e1, m1, k1⟩ v rv => ?_⟩
  cases e2 : truth h1 x with
  | none => rw [e2] at k1; exact k1.elim
  | some b =>
    rw [e2] at k1
    exact ⟨b, tru_of m1 rv e2, k ρ1 env h1 H1 x v b (re.ext e1) m1 rv k1⟩
theorem bind_of {α β : Type} (m : R α) (f : α → Option Bool) (g : Bool → Hd → R β) : ((m.bind fun v hd => R.of (f v) hd).bind g) = (m.bind fun v hd => (R.of (f v) hd).bind g) := by
  cases m <;> rfl
theorem truthR_bind {β : Type} (m : R D) (g : Bool → Hd → R β) : ((truthR m).bind g) = (m.bind fun v hd => (R.of (truth hd v) hd).bind g) := by
  cases m <;> rfl
theorem kt_bind {α β : Type} {K : PySem.W.Frag} {mg : MG} {σ : L2.St} {ρ : Rh} {H : Hp} {m : R α} {f : α → Hd → R β} {P : β → Hd → Rh → Hp → Prop} (k : Kt K mg W σ ρ H (m.bind f) P) :
    Kt K mg W σ ρ H m (fun a h ρ' H' => Ext ρ H ρ' H' ∧ MOk K mg ρ' H' h ∧ Kt K mg W σ ρ' H' (f a h) P) := k.bind

theorem pe_negZ (ha : PE X a (rd X.K X.mg W ma)) : PE X (.UnaryOp .USub a pos) (rd X.K X.mg W fun env hd => (ma env hd).bind fun x hd => match x with | .int i => .ok (.int (-i)) hd | _ => .bad) :=
  (pe_un un_neg ha).imp fun σ H Q h => rd_1 (f := fun _ x hd => match x with | .int i => .ok (.int (-i)) hd | _ => .bad) h fun ρ env hd H1 x v re mo rv k => by
    cases rv with
    | int i => exact ⟨i, rfl, k ρ H1 .refl mo _ (.int _)⟩
    | _ => exact k.elim
/-- a value as a test -/
theorem pt_valZ (ha : PE X a (rd X.K X.mg W ma)) (he : ∀ whole, isTrue a X.env whole = (do let v ← whole; standAt a.pos; holding [v] (truthy v))) : PT X a (rdT X.K X.mg W fun env hd => truthR (ma env hd)) :=
  (pt_truth ha he).imp fun σ H Q ⟨ρ, env, hd, re, mo, k⟩ => by
    refine rd_tr (f := fun _ _ b hd => .ok b hd) (P := fun b h ρ' H' => Q b H') ⟨ρ, env, hd, re, mo, ?_⟩ (fun ρ env hd H1 x v b re mo rv k => k ρ H1 .refl mo)
    have e : (truthR (ma env hd)) = ((ma env hd).bind fun x hd => (R.of (truth hd x) hd).bind fun b hd => .ok b hd) := by
      cases ma env hd with
      | ok v h =>
        show R.of (truth h v) h = ((R.of (truth h v) h).bind fun b hd => .ok b hd)
        cases truth h v <;> rfl
      | exc C fs h => rfl
      | bad => rfl
    exact e ▸ k
theorem pt_notZ (ha : PT X a (rdT X.K X.mg W ta)) : PT X (.UnaryOp .Not a pos) (rdT X.K X.mg W fun env hd => (ta env hd).bind fun b hd => .ok (!b) hd) :=
  (pt_not ha).imp fun σ H Q ⟨ρ, env, hd, re, mo, k⟩ => ⟨ρ, env, hd, re, mo, k.bind.imp fun b h ρ' H' ⟨e, m, k⟩ => k ρ' H' .refl m⟩
theorem pw_oneZ {op : BoolOp} (ha : PT X a (rdT X.K X.mg W ta)) : PW X (.BoolOp op [a] pos) (rdT X.K X.mg W ta) := by
  cases op with
  | And => exact pw_and1 ha
  | Or => exact pw_or1 ha
theorem pw_imp {t t' : TT} (h : PW X e t) (i : ∀ σ H Q, t' σ H Q → t σ H Q) : PW X e t' := ⟨fun wh pins s σ H Q I q => h.run wh pins s σ H Q I (i σ H Q q)⟩
theorem pw_andZ (ha : PT X a (rdT X.K X.mg W ta)) (hb : PW X (.BoolOp .And (b :: rest) pos) (rdT X.K X.mg W tb)) : PW X (.BoolOp .And (a :: b :: rest) pos) (rdT X.K X.mg W fun env hd => (ta env hd).bind fun k hd => if k then tb env hd else .ok false hd) :=
  pw_imp (pw_and ha hb) fun σ H Q ⟨ρ, env, hd, re, mo, k⟩ => ⟨ρ, env, hd, re, mo, k.bind.imp fun b h ρ' H' ⟨e, m, k⟩ => by
    cases b with
    | true => exact ⟨ρ', env, h, re.ext e, m, k⟩
    | false => exact k ρ' H' .refl m⟩
theorem pw_orZ (ha : PT X a (rdT X.K X.mg W ta)) (hb : PW X (.BoolOp .Or (b :: rest) pos) (rdT X.K X.mg W tb)) : PW X (.BoolOp .Or (a :: b :: rest) pos) (rdT X.K X.mg W fun env hd => (ta env hd).bind fun k hd => if k then .ok true hd else tb env hd) :=
  pw_imp (pw_or ha hb) fun σ H Q ⟨ρ, env, hd, re, mo, k⟩ => ⟨ρ, env, hd, re, mo, k.bind.imp fun b h ρ' H' ⟨e, m, k⟩ => by
    cases b with
    | false => exact ⟨ρ', env, h, re.ext e, m, k⟩
    | true => exact k ρ' H' .refl m⟩
theorem pe_notZ (ha : PE X a (rd X.K X.mg W ma)) : PE X (.UnaryOp .Not a pos) (rd X.K X.mg W fun env hd => (truthR (ma env hd)).bind fun b hd => .ok (.bl (!b)) hd) :=
  (pe_notT ha).imp fun σ H Q ⟨ρ, env, hd, re, mo, k⟩ => by
    have k : Kt X.K X.mg W σ ρ H ((truthR (ma env hd)).bind fun b hd => R.ok (D.bl !b) hd) _ := k
    rw [truthR_bind] at k
    exact rd_tr (f := fun _ _ b hd => R.ok (D.bl (!b)) hd) ⟨ρ, env, hd, re, mo, k⟩ fun ρ env hd H1 x v b re mo rv k => k ρ H1 .refl mo _ (.bl _)
theorem pe_andZ (ha : PE X a (rd X.K X.mg W ma)) (hb : PE X (.BoolOp .And (b :: rest) pos) (rd X.K X.mg W mb)) :
    PE X (.BoolOp .And (a :: b :: rest) pos) (rd X.K X.mg W fun env hd => (ma env hd).bind fun x hd => (R.of (truth hd x) hd).bind fun c hd => if c then mb env hd else .ok x hd) :=
  (pe_andT ha hb).imp fun σ H Q h => rd_tr (f := fun env x c hd => if c then mb env hd else .ok x hd) h fun ρ env hd H1 x v b re mo rv k => by
    cases b with
    | true => exact ⟨ρ, env, hd, re, mo, k⟩
    | false => exact k ρ H1 .refl mo _ rv
theorem pe_orZ (ha : PE X a (rd X.K X.mg W ma)) (hb : PE X (.BoolOp .Or (b :: rest) pos) (rd X.K X.mg W mb)) :
    PE X (.BoolOp .Or (a :: b :: rest) pos) (rd X.K X.mg W fun env hd => (ma env hd).bind fun x hd => (R.of (truth hd x) hd).bind fun c hd => if c then .ok x hd else mb env hd) :=
  (pe_orT ha hb).imp fun σ H Q h => rd_tr (f := fun env x c hd => if c then .ok x hd else mb env hd) h fun ρ env hd H1 x v b re mo rv k => by
    cases b with
    | false => exact ⟨ρ, env, hd, re, mo, k⟩
    | true => exact k ρ H1 .refl mo _ rv
theorem pe_iteZ (hc : PT X c (rdT X.K X.mg W ta)) (ha : PE X a (rd X.K X.mg W ma)) (hb : PE X b (rd X.K X.mg W mb)) :
    PE X (.IfExp c a b pos) (rd X.K X.mg W fun env hd => (ta env hd).bind fun k hd => if k then ma env hd else mb env hd) :=
  (pe_ifExp hc ha hb).imp fun σ H Q ⟨ρ, env, hd, re, mo, k⟩ => ⟨ρ, env, hd, re, mo, k.bind.imp fun b h ρ' H' ⟨e, m, k⟩ => by
    cases b with
    | true => exact ⟨ρ', env, h, re.ext e, m, k⟩
    | false => exact ⟨ρ', env, h, re.ext e, m, k⟩⟩
/-- a test that is one way or another -/
theorem pt_iteZ {tc : Env → Hd → R Bool} (hc : PT X c (rdT X.K X.mg W tc)) (ha : PT X a (rdT X.K X.mg W ta)) (hb : PT X b (rdT X.K X.mg W tb)) :
    PT X (.IfExp c a b pos) (rdT X.K X.mg W fun env hd => (tc env hd).bind fun k hd => if k then ta env hd else tb env hd) := ⟨fun pins s σ H Q I ⟨ρ, env, hd, re, mo, k⟩ => by
  show wpAny _ _ (do if ← isTrue c X.env (eval c X.env) then isTrue a X.env (eval a X.env) else isTrue b X.env (eval b X.env)) _ _ _
  refine wpAny_bind (thn (hc.run pins s σ H (fun k H1 => if k = true then rdT X.K X.mg W ta σ H1 Q else rdT X.K X.mg W tb σ H1 Q) I ⟨ρ, env, hd, re, mo, k.bind.imp fun b h ρ' H' ⟨e, m, k⟩ => ?_⟩) fun d s1 ⟨H1, I1, q1⟩ => ?_)
  · cases b with
    | true => exact ⟨ρ', env, h, re.ext e, m, k⟩
    | false => exact ⟨ρ', env, h, re.ext e, m, k⟩
  · cases d with
    | true => exact ha.run pins s1 σ H1 Q I1 q1
    | false => exact hb.run pins s1 σ H1 Q I1 q1⟩
/-- a chain -/
theorem rd_chain {K : PySem.W.Frag} {mg : MG} {S S' : D → D → Hd → R D} {σ : L2.St} {H : Hp} {Q : VK}
    (h : rd K mg W (fun env hd => (ma env hd).bind fun x hd => (mb env hd).bind fun y hd => (S x y hd).st.bind fun r hd => match r with
      | .bl k => if k then (mc env hd).bind fun z hd => (S' y z hd).st else .ok (.bl false) hd
      | _ => .bad) σ H Q) : tChain (r2 K mg S) (r2 K mg S') (rd K mg W ma) (rd K mg W mb) (rd K mg W mc) σ H Q := by
  obtain ⟨ρ, env, hd, re, mo, k⟩ := h
  refine ⟨ρ, env, hd, re, mo, k.bind.imp fun x h1 ρ1 H1 ⟨e1, m1, k1⟩ v rv => ⟨ρ1, env, h1, re.ext e1, m1, k1.bind.imp fun y h2 ρ2 H2 ⟨e2, m2, k2⟩ u ru => ⟨ρ2, h2, x, y, m2, rv.ext e2, ru, ?_⟩⟩⟩
  refine OkR.imp k2.bind.st fun r h3 q ρ3 H3 e3 m3 z rz => ?_
  obtain ⟨_, _, k3⟩ := q ρ3 H3 e3 m3
  cases rz with
  | bl c =>
    refine ⟨c, rfl, ?_⟩
    cases c with
    | false => exact k3 ρ3 H3 .refl m3 _ (.bl _)
    | true =>
      refine ⟨ρ3, env, h3, ((re.ext e1).ext e2).ext e3, m3, ?_⟩
      have k3 : Kt K mg W σ ρ3 H3 ((mc env h3).bind fun z hd => (S' y z hd).st) _ := k3
      exact k3.bind.imp fun z h4 ρ4 H4 ⟨e4, m4, k4⟩ w rw' => ⟨ρ4, h4, y, z, m4, (ru.ext e3).ext e4, rw', k4.st⟩
  | _ => exact k3.elim
theorem pe_chainZ {op op' : CmpOp} {S S' : D → D → Hd → R D} (ho : OpR X (compareOp op) (r2 X.K X.mg S)) (ho' : OpR X (compareOp op') (r2 X.K X.mg S')) (ha : PE X a (rd X.K X.mg W ma)) (hb : PE X b (rd X.K X.mg W mb)) (hc : PE X c (rd X.K X.mg W mc))
    (hm : lastMarks [op, op'] [b, c] = false) : PE X (.Compare a [op, op'] [b, c] pos) (rd X.K X.mg W fun env hd => (ma env hd).bind fun x hd => (mb env hd).bind fun y hd => (S x y hd).st.bind fun r hd => match r with
      | .bl k => if k then (mc env hd).bind fun z hd => (S' y z hd).st else .ok (.bl false) hd
      | _ => .bad) := (pe_chain ho ho' ha hb hc hm).imp fun σ H Q h => rd_chain h
/-- a comparison's value is a truth -/
def Bls (S : D → D → Hd → R D) : Prop := ∀ x y hd d h, S x y hd = .ok d h → ∃ k, d = .bl k
theorem kt_tr {K : PySem.W.Frag} {mg : MG} {σ : L2.St} {ρ : Rh} {H : Hp} {m : R D} {P : Bool → Hd → Rh → Hp → Prop} (hm : ∀ d h, m = .ok d h → ∃ k, d = .bl k) (k : Kt K mg W σ ρ H (truthR m) P) :
    Kt K mg W σ ρ H m (fun d h ρ' H' => ∃ b, d = .bl b ∧ P b h ρ' H') := by
  cases m with
  | ok d h =>
    obtain ⟨b, rfl⟩ := hm d h rfl
    exact fun ρ' H' e m => ⟨b, rfl, k ρ' H' e m⟩
  | exc C fs h => exact k
  | bad => exact k
theorem ok_bind {α β : Type} {m : R α} {f : α → Hd → R β} {b : β} {h : Hd} (e : m.bind f = .ok b h) : ∃ a h1, m = .ok a h1 ∧ f a h1 = .ok b h := by
  cases m with
  | ok a h1 => exact ⟨a, h1, rfl, e⟩
  | exc C fs h1 => cases e
  | bad => cases e
theorem ok_st {α : Type} {m : R α} {b : α} {h : Hd} (e : m.st = .ok b h) : m = .ok b h := by
  cases m with
  | ok a h1 => exact e
  | exc C fs h1 => cases e
  | bad => cases e
theorem pt_cmpZ {op : CmpOp} {S : D → D → Hd → R D} (hS : Bls S) (ho : OpR X (compareOp op) (r2 X.K X.mg S)) (ha : PE X a (rd X.K X.mg W ma)) (hb : PE X b (rd X.K X.mg W mb)) (hm : behindInMarks op b = false) :
    PT X (.Compare a [op] [b] pos) (rdT X.K X.mg W fun env hd => truthR ((ma env hd).bind fun x hd => (mb env hd).bind fun y hd => (S x y hd).st)) :=
  (pt_cmpR ho ha hb hm).imp fun σ H Q ⟨ρ, env, hd, re, mo, k⟩ => by
    have k := kt_tr (fun d h e => by
      obtain ⟨x, h1, _, e⟩ := ok_bind e
      obtain ⟨y, h2, _, e⟩ := ok_bind e
      exact hS x y h2 d h (ok_st e)) k
    refine rd_2 (f := fun x y hd => (S x y hd).st) (Q := fun v H' => ∃ b, v = .bl b ∧ Q b H') ⟨ρ, env, hd, re, mo, k.imp fun d h ρ' H' ⟨b, e, q⟩ v rv => ?_⟩ fun ρ env hd H1 x y v u re mo rv ru k => ⟨ρ, hd, x, y, mo, rv, ru, k.st⟩
    subst e
    cases rv
    exact ⟨b, rfl, q⟩
theorem pt_chainZ {op op' : CmpOp} {S S' : D → D → Hd → R D} (hS' : Bls S') (ho : OpR X (compareOp op) (r2 X.K X.mg S)) (ho' : OpR X (compareOp op') (r2 X.K X.mg S')) (ha : PE X a (rd X.K X.mg W ma)) (hb : PE X b (rd X.K X.mg W mb)) (hc : PE X c (rd X.K X.mg W mc))
    (hm : lastMarks [op, op'] [b, c] = false) : PT X (.Compare a [op, op'] [b, c] pos) (rdT X.K X.mg W fun env hd => truthR ((ma env hd).bind fun x hd => (mb env hd).bind fun y hd => (S x y hd).st.bind fun r hd => match r with
      | .bl k => if k then (mc env hd).bind fun z hd => (S' y z hd).st else .ok (.bl false) hd
      | _ => .bad)) := (pt_chain ho ho' ha hb hc hm).imp fun σ H Q ⟨ρ, env, hd, re, mo, k⟩ => by
    have k := kt_tr (fun d h e => by
      obtain ⟨x, h1, _, e⟩ := ok_bind e
      obtain ⟨y, h2, _, e⟩ := ok_bind e
      obtain ⟨r, h3, _, e⟩ := ok_bind e
      split at e
      · split at e
        · obtain ⟨z, h4, _, e⟩ := ok_bind e
          exact hS' y z h4 d h (ok_st e)
        · cases e
          exact ⟨_, rfl⟩
      · cases e) k
    refine rd_chain (Q := fun v H' => ∃ b, v = .bl b ∧ Q b H') ⟨ρ, env, hd, re, mo, k.imp fun d h ρ' H' ⟨b, e, q⟩ v rv => ?_⟩
    subst e
    cases rv
    exact ⟨b, rfl, q⟩

/-! ### rows -/
theorem pa_nilZ : PA X [] (rdA X.K X.mg W fun _ hd => .ok [] hd) := pa_nil.imp fun σ H Q ⟨ρ, env, hd, re, mo, k⟩ => k ρ H .refl mo [] .nil
theorem pa_consZ {mr : Env → Hd → R (List D)} (ha : PE X a (rd X.K X.mg W ma)) (hr : PA X es (rdA X.K X.mg W mr)) (hs : starEach (a :: es) X.env = (false, eval a X.env) :: starEach es X.env) :
    PA X (a :: es) (rdA X.K X.mg W fun env hd => (ma env hd).bind fun x hd => (mr env hd).bind fun xs hd => .ok (x :: xs) hd) :=
  (pa_cons ha hr hs).imp fun σ H Q ⟨ρ, env, hd, re, mo, k⟩ => ⟨ρ, env, hd, re, mo, k.bind.imp fun x h1 ρ1 H1 ⟨e1, m1, k1⟩ v rv => ⟨ρ1, env, h1, re.ext e1, m1, k1.bind.imp fun xs h2 ρ2 H2 ⟨e2, m2, k2⟩ vs rvs =>
    k2 ρ2 H2 .refl m2 (v :: vs) (.cons (rv.ext e2) rvs)⟩⟩
theorem pa_starZ {mr : Env → Hd → R (List D)} {p : Pos} (ha : PE X a (rd X.K X.mg W ma)) (hr : PA X es (rdA X.K X.mg W mr)) (hs : starEach (.Starred a p :: es) X.env = (true, eval a X.env) :: starEach es X.env) :
    PA X (.Starred a p :: es) (rdA X.K X.mg W fun env hd => (ma env hd).bind fun x hd => match items hd x with
      | some xs => (mr env hd).bind fun ys hd => .ok (xs ++ ys) hd
      | none => .bad) :=
  (StX.pa_star ha hr hs).imp fun σ H Q ⟨ρ, env, hd, re, mo, k⟩ => ⟨ρ, env, hd, re, mo, k.bind.imp fun x h1 ρ1 H1 ⟨e1, m1, k1⟩ v rv => by
    cases e : items h1 x with
    | none => rw [e] at k1; exact k1.elim
    | some xs =>
      rw [e] at k1
      obtain ⟨p, vs, rfl, q, h⟩ := seq_of m1 rv e
      refine ⟨p, vs, rfl, ?_, ρ1, env, h1, re.ext e1, m1, k1.bind.imp fun ys h2 ρ2 H2 ⟨e2, m2, k2⟩ ws rws => k2 ρ2 H2 .refl m2 _ ((q.ext e2).append rws)⟩
      rcases h with ⟨_, h⟩ | ⟨_, h⟩
      · exact .inl (SqT.of h)
      · exact .inr h⟩
theorem pe_tupZ {mr : Env → Hd → R (List D)} {k0 : Nat} (h : PA X es (rdA X.K X.mg W mr)) : PE X (.Tuple es k0 pos) (rd X.K X.mg W fun env hd => (mr env hd).bind fun xs hd => if xs.length ≤ line then .ok (.tup xs) hd else .bad) :=
  (pe_tup h).imp fun σ H Q ⟨ρ, env, hd, re, mo, k⟩ => ⟨ρ, env, hd, re, mo, k.bind.imp fun xs h1 ρ1 H1 ⟨e1, m1, k1⟩ vs rvs => by
    split at k1
    · rename_i hl
      exact ⟨by rw [← rvs.length]; exact hl, fun p hp => Fin.tup (Q := Q) m1 k1 rvs hp⟩
    · exact k1.elim⟩
theorem kt_ok {α : Type} {K : PySem.W.Frag} {mg : MG} {σ : L2.St} {ρ : Rh} {H : Hp} {m : R α} {P : α → Hd → Rh → Hp → Prop} (hm : ∀ C fs h, m ≠ .exc C fs h) (k : Kt K mg W σ ρ H m P) : OkR m (fun a h => ∀ ρ' H', Ext ρ H ρ' H' → MOk K mg ρ' H' h → P a h ρ' H') := by
  cases m with
  | ok a h => exact k
  | exc C fs h => exact absurd rfl (hm C fs h)
  | bad => exact k
theorem mkL_ok (m : Bool) (xs : List D) (hd : Hd) : ∀ C fs h, mkL m xs hd ≠ .exc C fs h := by
  intro C fs h
  unfold mkL
  split <;> exact fun e => nomatch e
theorem pe_lstZ {mr : Env → Hd → R (List D)} {m : Bool} (h : PA X es (rdA X.K X.mg W mr)) : PE X (.List es pos) (rd X.K X.mg W fun env hd => (mr env hd).bind fun xs hd => if xs.length ≤ line then mkL m xs hd else .bad) :=
  (pe_lst h).imp fun σ H Q ⟨ρ, env, hd, re, mo, k⟩ => ⟨ρ, env, hd, re, mo, k.bind.imp fun xs h1 ρ1 H1 ⟨e1, m1, k1⟩ vs rvs => by
    split at k1
    · rename_i hl
      exact ⟨by rw [← rvs.length]; exact hl, fun p hp => Fin.list (Q := Q) m1 (kt_ok (mkL_ok m xs h1) k1) rvs hp⟩
    · exact k1.elim⟩
end
end Z
/-! Z6: built-ins by values. -/
namespace Z
open PySem PySem.Spec PyProof.Rows L2

section
variable {X : Cx}
theorem CallR.imp {f : Value} {r r' : List V → Hp → VK → Prop} (h : CallR X f r) (i : ∀ xs H Q, r' xs H Q → r xs H Q) : CallR X f r' := fun pins s σ H xs us Q I rx q => h pins s σ H xs us Q I rx (i xs H Q q)
theorem tx_toList (a : List Nat) : (tx a).cps.toList = a := by simp
theorem rds1 {K : PySem.W.Frag} {mg : MG} {ρ : Rh} {H : Hp} {d : D} {xs : List V} (r : RDs K mg ρ H [d] xs) : ∃ v, xs = [v] ∧ RD K mg ρ H d v := by
  cases r with
  | cons r q => cases q; exact ⟨_, rfl, r⟩
theorem rds2 {K : PySem.W.Frag} {mg : MG} {ρ : Rh} {H : Hp} {d e : D} {xs : List V} (r : RDs K mg ρ H [d, e] xs) : ∃ v u, xs = [v, u] ∧ RD K mg ρ H d v ∧ RD K mg ρ H e u := by
  cases r with
  | cons r q => obtain ⟨u, rfl, r2⟩ := rds1 q; exact ⟨_, u, rfl, r, r2⟩
/-- of one, two arguments -/
def on1 (S : D → Hd → R D) (xs : List D) (hd : Hd) : R D := match xs with
  | [x] => S x hd
  | _ => .bad
def on2 (S : D → D → Hd → R D) (xs : List D) (hd : Hd) : R D := match xs with
  | [x, y] => S x y hd
  | _ => .bad
theorem rN1 {K : PySem.W.Frag} {mg : MG} {S : D → Hd → R D} {xs : List V} {H : Hp} {Q : VK} (h : rN K mg (on1 S) xs H Q) : ∃ v, xs = [v] ∧ r1 K mg S v H Q := by
  obtain ⟨ρ, hd, ds, mo, r, k⟩ := h
  unfold on1 at k
  split at k
  · obtain ⟨v, rfl, r1⟩ := rds1 r
    exact ⟨v, rfl, ρ, hd, _, mo, r1, k⟩
  · exact absurd k id
theorem rN2 {K : PySem.W.Frag} {mg : MG} {S : D → D → Hd → R D} {xs : List V} {H : Hp} {Q : VK} (h : rN K mg (on2 S) xs H Q) : ∃ v u, xs = [v, u] ∧ r2 K mg S v u H Q := by
  obtain ⟨ρ, hd, ds, mo, r, k⟩ := h
  unfold on2 at k
  split at k
  · obtain ⟨v, u, rfl, r1, r2⟩ := rds2 r
    exact ⟨v, u, rfl, ρ, hd, _, _, mo, r1, r2, k⟩
  · exact absurd k id

theorem c_len : CallR X (.builtin "len") (rN X.K X.mg (on1 lenS)) := by
  refine CallR.imp (CallR.or call_len_str call_len_seq) fun xs H Q h => ?_
  obtain ⟨v, rfl, ρ, hd, d, mo, r, k⟩ := rN1 h
  unfold lenS at k
  split at k
  · cases r
    split at k
    · rename_i hl
      exact .inl ⟨_, rfl, hl, Fin.same mo k (.int _)⟩
    · exact absurd k id
  · split at k
    · rename_i xs e
      obtain ⟨a, vs, rfl, q, h⟩ := seq_of mo r e
      refine .inr ⟨a, vs, rfl, ?_, ?_⟩
      · rcases h with ⟨_, h⟩ | ⟨_, h⟩
        · exact .inr (SqT.of h)
        · exact .inl h
      · rw [← q.length]
        exact Fin.same mo k (.int _)
    · exact absurd k id
theorem c_abs : CallR X (.builtin "abs") (rN X.K X.mg (on1 fun x hd => match x with | .int i => .ok (.int (if i < 0 then -i else i)) hd | _ => .bad)) := by
  refine CallR.imp call_abs fun xs H Q h => ?_
  obtain ⟨v, rfl, ρ, hd, d, mo, r, k⟩ := rN1 h
  dsimp only at k
  split at k
  · cases r
    exact ⟨_, rfl, Fin.same mo k (.int _)⟩
  · exact absurd k id
theorem c_int : CallR X (.type "int") (rN X.K X.mg (on1 fun x hd => match x with | .int i => .ok (.int i) hd | .bl b => .ok (.int (b2i b)) hd | _ => .bad)) := by
  refine CallR.imp call_int1 fun xs H Q h => ?_
  obtain ⟨v, rfl, ρ, hd, d, mo, r, k⟩ := rN1 h
  dsimp only at k
  split at k
  · cases r
    exact .inl ⟨_, rfl, Fin.same mo k (.int _)⟩
  · cases r
    exact .inr ⟨_, rfl, Fin.same mo k (.int _)⟩
  · exact absurd k id
theorem c_max (hc : X.calm = true) : CallR X (.builtin "max") (rN X.K X.mg (on2 fun x y hd => match x, y with | .int i, .int j => .ok (.int (if j > i then j else i)) hd | _, _ => .bad)) := by
  refine CallR.imp (call_max2 hc) fun xs H Q h => ?_
  obtain ⟨v, u, rfl, ρ, hd, d, e, mo, r, r2, k⟩ := rN2 h
  dsimp only at k
  split at k
  · cases r; cases r2
    exact ⟨_, _, rfl, Fin.same mo k (.int _)⟩
  · exact absurd k id
theorem c_min (hc : X.calm = true) : CallR X (.builtin "min") (rN X.K X.mg (on2 fun x y hd => match x, y with | .int i, .int j => .ok (.int (if j < i then j else i)) hd | _, _ => .bad)) := by
  refine CallR.imp (call_min2 hc) fun xs H Q h => ?_
  obtain ⟨v, u, rfl, ρ, hd, d, e, mo, r, r2, k⟩ := rN2 h
  dsimp only at k
  split at k
  · cases r; cases r2
    exact ⟨_, _, rfl, Fin.same mo k (.int _)⟩
  · exact absurd k id
theorem c_divmod : CallR X (.builtin "divmod") (rN X.K X.mg (on2 fun x y hd => match x, y with | .int i, .int j => if 0 < j ∧ j < 1073741824 then .ok (.tup [.int (i / j), .int (i % j)]) hd else .bad | _, _ => .bad)) := by
  refine CallR.imp call_divmod fun xs H Q h => ?_
  obtain ⟨v, u, rfl, ρ, hd, d, e, mo, r, r2, k⟩ := rN2 h
  dsimp only at k
  split at k
  · cases r; cases r2
    split at k
    · rename_i hc
      exact ⟨_, _, rfl, hc, fun p hp => Fin.tup mo k (.cons (.int _) (.cons (.int _) .nil)) hp⟩
    · exact absurd k id
  · exact absurd k id
theorem bls_map {K : PySem.W.Frag} {mg : MG} {ρ : Rh} {H : Hp} : ∀ {ds : List D} {bs : List Bool} {vs : List V}, bls ds = some bs → RDs K mg ρ H ds vs → vs = bs.map V.bl
  | [], _, _, e, r => by cases e; cases r; rfl
  | d :: ds, bs, vs, e, r => by
    cases r with
    | cons r q =>
      cases r with
      | bl b =>
        simp only [bls] at e
        cases q2 : bls ds with
        | none => rw [q2] at e; cases e
        | some cs =>
          rw [q2] at e
          cases e
          rw [List.map_cons, bls_map q2 q]
      | _ => cases e
theorem c_all (hc : X.calm = true) : CallR X (.builtin "all") (rN X.K X.mg (on1 fun x hd => match (items hd x).bind bls with | some bs => if isTup x = false then .ok (.bl (bs.all id)) hd else .bad | none => .bad)) := by
  refine CallR.imp (cr_all hc) fun xs H Q h => ?_
  obtain ⟨v, rfl, ρ, hd, d, mo, r, k⟩ := rN1 h
  dsimp only at k
  split at k
  · rename_i bs e
    split at k
    · rename_i ht
      cases e1 : items hd d with
      | none => rw [e1] at e; cases e
      | some ds =>
        rw [e1] at e
        obtain ⟨a, vs, rfl, q, h⟩ := seq_of mo r e1
        rcases h with ⟨h, _⟩ | ⟨_, h⟩
        · rw [ht] at h; cases h
        · rw [bls_map e q] at h
          exact ⟨a, bs, rfl, h, Fin.same mo k (.bl _)⟩
    · exact absurd k id
  · exact absurd k id
theorem c_any (hc : X.calm = true) : CallR X (.builtin "any") (rN X.K X.mg (on1 fun x hd => match (items hd x).bind bls with | some bs => if isTup x = false then .ok (.bl (bs.any id)) hd else .bad | none => .bad)) := by
  refine CallR.imp (cr_any hc) fun xs H Q h => ?_
  obtain ⟨v, rfl, ρ, hd, d, mo, r, k⟩ := rN1 h
  dsimp only at k
  split at k
  · rename_i bs e
    split at k
    · rename_i ht
      cases e1 : items hd d with
      | none => rw [e1] at e; cases e
      | some ds =>
        rw [e1] at e
        obtain ⟨a, vs, rfl, q, h⟩ := seq_of mo r e1
        rcases h with ⟨h, _⟩ | ⟨_, h⟩
        · rw [ht] at h; cases h
        · rw [bls_map e q] at h
          exact ⟨a, bs, rfl, h, Fin.same mo k (.bl _)⟩
    · exact absurd k id
  · exact absurd k id
theorem c_tuple : CallR X (.type "tuple") (rN X.K X.mg (on1 fun x hd => match items hd x with | some xs => .ok (.tup xs) hd | none => .bad)) := by
  refine CallR.imp call_tuple_of fun xs H Q h => ?_
  obtain ⟨v, rfl, ρ, hd, d, mo, r, k⟩ := rN1 h
  dsimp only at k
  split at k
  · rename_i ds e
    have e0 := e
    obtain ⟨a, vs, rfl, q, h⟩ := seq_of mo r e
    refine ⟨a, vs, rfl, ?_⟩
    rcases h with ⟨ht, h⟩ | ⟨_, h⟩
    · refine .inr ⟨SqT.of h, Fin.same mo k ?_⟩
      cases d with
      | tup ys => cases e0; exact r
      | _ => cases ht
    · exact .inl ⟨h, fun l hl => Fin.tup mo k q hl⟩
  · exact absurd k id
theorem sign_vals {z : List Nat} {acc : Array Value} (h : ItemsOf (SignAt (tx z)) acc (tx z).cps.size) : Vals (z.map fun c => V.str (tx [c])) acc.toList := by
  obtain ⟨h1, h2⟩ := h
  have hl : acc.toList.length = z.length := by simpa using h1
  have h3 : ∀ (j : Nat) v, acc.toList[j]? = some v → ∃ c u, z[j]? = some c ∧ v = .str (tx [c]) u := fun j v e => by
    obtain ⟨c, u, e1, e2⟩ := h2 j v (by rw [← Array.getElem?_toList]; exact e)
    exact ⟨c, u, by simpa using e1, e2⟩
  clear h1 h2
  generalize acc.toList = us at hl h3
  induction z generalizing us with
  | nil =>
    cases us with
    | nil => exact .nil
    | cons _ _ => simp at hl
  | cons c z ih =>
    cases us with
    | nil => simp at hl
    | cons u us =>
      obtain ⟨c', t, e1, e2⟩ := h3 0 u rfl
      simp at e1
      subst e1
      exact .cons ⟨t, e2⟩ (ih us (by simpa using hl) fun j v e => by simpa using h3 (j + 1) v (by simpa using e))
theorem call_list_sign (hc : X.calm = true) : CallR X (.type "list") (fun xs H Q => ∃ z, xs = [.str (tx z)] ∧ z.length ≤ sizeLine ∧ ∀ p, H p = none → Q (.ref p) (upd H p (.lst (z.map fun c => V.str (tx [c]))))) := by
  intro pins s σ H xs us Q I r h
  obtain ⟨z, rfl, hz, q⟩ := h
  cases r with
  | cons r rr =>
    cases rr
    obtain ⟨t, rfl⟩ := r
    refine call_list_str (I.ok.hd hc) (tx z) t (hn := hz) fun h' tk acc' c' hk hS hacc => ?_
    have hv := sign_vals hacc
    refine ⟨.ref s.heap.objs.size, _, I.laid (o := .lst (z.map fun c => V.str (tx [c]))) (t' := tk) hk (Nat.le_refl _) ⟨by simpa using hz, acc'.toList, c', hv, by simpa using hS⟩, rfl, q _ (I.hok.fresh (Nat.le_refl _))⟩
theorem c_list (hc : X.calm = true) (m : Bool) : CallR X (.type "list") (rN X.K X.mg (on1 (listS m))) := by
  refine CallR.imp (CallR.or (call_list_sign hc) call_list_of) fun xs H Q h => ?_
  obtain ⟨v, rfl, ρ, hd, d, mo, r, k⟩ := rN1 h
  unfold listS at k
  split at k
  · rename_i z
    cases r
    split at k
    · rename_i hl
      refine .inl ⟨z, rfl, hl, fun p hp => ?_⟩
      have := Fin.list mo k (vs := z.map fun c => V.str (tx [c])) (by
        have := RDs.strs_ (K := X.K) (mg := X.mg) (ρ := ρ) (H := H) (z.map fun c => [c])
        rw [List.map_map, List.map_map] at this
        exact this) hp
      exact this
    · exact absurd k id
  · split at k
    · rename_i ds e
      obtain ⟨a, vs, rfl, q, h⟩ := seq_of mo r e
      refine .inr ⟨a, vs, rfl, ?_, fun l hl => Fin.list mo k q hl⟩
      rcases h with ⟨_, h⟩ | ⟨_, h⟩
      · exact .inr (SqT.of h)
      · exact .inl h
    · exact absurd k id
theorem tx_of (z : PySem.Str) : tx z.cps.toList = z := by
  obtain ⟨a⟩ := z
  rfl
/-- str of an int -/
theorem c_strI : CallR X (.type "str") (rN X.K X.mg (on1 fun x hd => match x with | .int i => if i.natAbs.log2 < 1920 then .ok (.str (decI i)) hd else .bad | _ => .bad)) := by
  refine CallR.imp call_str_int fun xs H Q h => ?_
  obtain ⟨v, rfl, ρ, hd, d, mo, r, k⟩ := rN1 h
  dsimp only at k
  split at k
  · cases r
    split at k
    · rename_i i hl
      refine ⟨_, rfl, hl, ?_⟩
      have := Fin.same mo k (.str (decI i))
      unfold decI at this
      rw [tx_of] at this
      exact this
    · exact absurd k id
  · exact absurd k id
mutual
theorem toP_noDict : ∀ (d : D) (p : PyData), toP d = some p → p.hasDict = false
  | .non, _, e => by cases e; rfl
  | .bl _, _, e => by cases e; rfl
  | .int _, _, e => by cases e; rfl
  | .str _, _, e => by cases e; rfl
  | .tup xs, _, e => by
    simp only [toP] at e
    cases q1 : toPs xs with
    | none => rw [q1] at e; cases e
    | some ps =>
      rw [q1] at e
      cases e
      simp only [PyData.hasDict]
      exact toPs_noDict xs ps q1
  | .lst xs, _, e => by
    simp only [toP] at e
    cases q1 : toPs xs with
    | none => rw [q1] at e; cases e
    | some ps =>
      rw [q1] at e
      cases e
      simp only [PyData.hasDict]
      exact toPs_noDict xs ps q1
  | .row ns, _, e => by
    cases e
    simp only [PyData.hasDict]
    induction ns with
    | nil => rfl
    | cons n ns ih =>
      simp only [List.map_cons, PyData.hasDictAll, PyData.hasDict, Bool.false_or]
      exact ih
  | .dic _, _, e => by cases e
  | .ins _ _, _, e => by cases e
  | .exc _ _, _, e => by cases e
  | .glo _, _, e => by cases e
  | .ty _, _, e => by cases e
  | .obj _, _, e => by cases e
theorem toPs_noDict : ∀ (ds : List D) (ps : List PyData), toPs ds = some ps → PyData.hasDictAll ps = false
  | [], _, e => by
    cases e
    rfl
  | x :: xs, _, e => by
    simp only [toPs] at e
    split at e
    · rename_i d ds e1 e2
      cases e
      simp only [PyData.hasDictAll]
      rw [toP_noDict x d e1, toPs_noDict xs ds e2]
      rfl
    · cases e
end
theorem topP_noDict {hd : Hd} (d : D) (p : PyData) (e : topP hd d = some p) : p.hasDict = false := by
  unfold topP at e
  split at e
  · split at e
    · rename_i n _ xs h
      cases q2 : toPs xs with
      | none => rw [q2] at e; cases e
      | some ps =>
        rw [q2] at e
        cases e
        simp only [PyData.hasDict]
        exact toPs_noDict xs ps q2
    · cases e
  · exact toP_noDict d p e
/-- the modules' own dict is known, and no list -/
def SmOk (K : PySem.W.Frag) : Prop := ∃ o, K.lookup sysModules = some o ∧ o.cls ≠ .type "list"
theorem key_reads {P : Program} {w : World} {h : Heap} {x : Str} {u : Value} (e : (mixKind P w).is (.inr x) u = true) : Reads h u (.str x) [] := by
  rcases keyIs_shape (show keyIs (.inr x) u = true from e) with ⟨i, t, e1, _⟩ | ⟨y, t, e1, rfl⟩
  · cases e1
  · cases e1
    exact .str _ t
mutual
theorem RD.readsQ (sm : SmOk X.K) (I : Inv X pins σ H s) : ∀ (d : D) (v : V) (u : Value) (p : PyData), RD X.K X.mg ρ H d v → toQ d = some p → RelV v u → ∃ as, Reads s.heap u p as ∧ sysModules ∉ as
  | .non, _, _, _, r, e, q => by
    cases r
    cases e
    cases q
    exact ⟨_, .none, by simp⟩
  | .bl b, _, _, _, r, e, q => by
    cases r
    cases e
    cases q
    exact ⟨_, .bool b, by simp⟩
  | .int i, _, _, _, r, e, q => by
    cases r
    cases e
    obtain ⟨t, rfl⟩ := q
    exact ⟨_, .int i t, by simp⟩
  | .str x, _, _, _, r, e, q => by
    cases r
    cases e
    obtain ⟨t, rfl⟩ := q
    exact ⟨_, .str _ t, by simp⟩
  | .tup xs, _, _, _, r, e, q => by
    cases r with
    | tup n h r =>
      simp only [toQ] at e
      obtain ⟨ps, e1, rfl⟩ := Option.map_eq_some_iff.mp e
      cases q
      obtain ⟨its, rv, ⟨o, ho, hc, n, hd⟩, _⟩ := I.tuple (SqT.of h)
      obtain ⟨as, hr, hn⟩ := RDs.readsQ sm I xs _ its ps r e1 rv
      exact ⟨_, .tuple ho hc hd hr, hn⟩
  | .lst xs, _, _, _, r, e, q => by
    cases r with
    | lst n h r =>
      simp only [toQ] at e
      obtain ⟨ps, e1, rfl⟩ := Option.map_eq_some_iff.mp e
      cases q
      obtain ⟨its, rv, ⟨o, n, ho, hc, _, hd⟩, _⟩ := I.list (SqL.of h)
      obtain ⟨as, hr, hn⟩ := RDs.readsQ sm I xs _ its ps r e1 rv
      refine ⟨_, .list ho hc hd hr, fun z => (List.mem_cons.mp z).elim (fun z => ?_) hn⟩
      obtain ⟨o', k1, k2⟩ := sm
      have := I.kIn _ _ k1
      rw [z, ho] at this
      cases this
      exact k2 hc
  | .row ns, _, _, _, r, e, q => by
    cases r with
    | row h =>
      cases e
      cases q
      obtain ⟨its, rv, ⟨o, n, ho, hc, _, hd⟩, hlen⟩ := I.list h.sq
      have : ∃ as, ReadsAll s.heap its (ns.map PyData.int) as ∧ sysModules ∉ as := by
        clear h ho hd hlen
        induction ns generalizing its with
        | nil =>
          cases rv
          exact ⟨_, .nil, by simp⟩
        | cons k ns ih =>
          cases rv with
          | cons r1 r2 =>
            obtain ⟨t, rfl⟩ := r1
            obtain ⟨as, h1, h2⟩ := ih _ r2
            exact ⟨_, .cons (.int k t) h1, by simpa using h2⟩
      obtain ⟨as, hr, hn⟩ := this
      refine ⟨_, .list ho hc hd hr, fun z => (List.mem_cons.mp z).elim (fun z => ?_) hn⟩
      obtain ⟨o', k1, k2⟩ := sm
      have := I.kIn _ _ k1
      rw [z, ho] at this
      cases this
      exact k2 hc
  | .dic kvs, _, _, _, r, e, q => by
    cases r with
    | dic n h r =>
      simp only [toQ] at e
      obtain ⟨ps, e1, rfl⟩ := Option.map_eq_some_iff.mp e
      cases q
      obtain ⟨_, hne, vs, rel, o, es, ep, ho, hx, hd, _, pr, _⟩ := dk_of I.hok h
      obtain ⟨as, bs, h1, h2, h3, h4⟩ := RDk.readsQ sm I kvs _ vs es.toList ps r e1 rel pr
      exact ⟨_, .dict ho hx.1 hd h1 h3, fun z => (List.mem_cons.mp (by simpa using z)).elim (fun z => by rw [← z] at hne; simp at hne) fun z => (List.mem_append.mp z).elim h2 h4⟩
  | .ins _ _, _, _, _, _, e, _ => by cases e
  | .exc _ _, _, _, _, _, e, _ => by cases e
  | .glo _, _, _, _, _, e, _ => by cases e
  | .ty _, _, _, _, _, e, _ => by cases e
  | .obj _, _, _, _, _, e, _ => by cases e
theorem RDs.readsQ (sm : SmOk X.K) (I : Inv X pins σ H s) : ∀ (ds : List D) (vs : List V) (us : List Value) (ps : List PyData), RDs X.K X.mg ρ H ds vs → toQs ds = some ps → Vals vs us → ∃ as, ReadsAll s.heap us ps as ∧ sysModules ∉ as
  | [], _, _, _, r, e, q => by
    cases r
    cases e
    cases q
    exact ⟨_, .nil, by simp⟩
  | x :: xs, _, _, _, r, e, q => by
    cases r with
    | cons r1 r2 =>
      simp only [toQs] at e
      split at e
      · rename_i d ds e1 e2
        cases e
        cases q with
        | cons q1 q2 =>
          obtain ⟨as, h1, h2⟩ := RD.readsQ sm I x _ _ d r1 e1 q1
          obtain ⟨bs, h3, h4⟩ := RDs.readsQ sm I xs _ _ ds r2 e2 q2
          exact ⟨_, .cons h1 h3, fun z => (List.mem_append.mp z).elim h2 h4⟩
      · cases e
theorem RDk.readsQ (sm : SmOk X.K) (I : Inv X pins σ H s) : ∀ (ds : List (D × D)) (vs : List (L2.Key × V)) (ws : List (L2.Key × Value)) (es : List DictEntry) (ps : List (PyData × PyData)), RDk X.K X.mg ρ H ds vs → toQk ds = some ps → KV vs ws → Pairs (mixKind X.prog X.w) es ws →
    ∃ as bs, ReadsAll s.heap (es.map (·.key)) (ps.map (·.1)) as ∧ sysModules ∉ as ∧ ReadsAll s.heap (es.map (·.val)) (ps.map (·.2)) bs ∧ sysModules ∉ bs
  | [], _, _, _, _, r, e, q, k => by
    cases r
    cases e
    cases q
    cases k
    exact ⟨_, _, .nil, by simp, .nil, by simp⟩
  | (kx, x) :: xs, _, _, _, _, r, e, q, k => by
    cases r with
    | cons r1 r2 =>
      simp only [toQk] at e
      split at e
      · rename_i c d ds e0 e1 e2
        cases e
        cases e0
        cases q with
        | cons q1 q2 =>
          cases k with
          | cons k1 k2 k3 =>
            obtain ⟨g1, g2⟩ := q1
            obtain ⟨as, h1, h2⟩ := RD.readsQ sm I x _ _ d r1 e1 g2
            obtain ⟨as2, bs2, h3, h4, h5, h6⟩ := RDk.readsQ sm I xs _ _ _ ds r2 e2 q2 k3
            rw [← g1] at k1
            exact ⟨_, _, .cons (key_reads k1) h3, by simpa using h4, .cons (by dsimp only; rw [k2]; exact h1) h5, fun z => (List.mem_append.mp z).elim h2 h6⟩
      · cases e
end
/-- repr of data -/
theorem c_repr (sm : SmOk X.K) (hg : X.A.guards = some []) (hu : X.A.units + 66 < cLine) : CallR X (.builtin "repr") (rN X.K X.mg (on1 shwS)) := by
  intro pins s σ H xs us Q I rx h
  obtain ⟨v, rfl, ρ, hd, d, mo, r, k⟩ := rN1 h
  cases rx with
  | cons rx rr =>
    cases rr
    unfold shwS at k
    split at k
    · rename_i a e
      split at k
      · rename_i hc
        obtain ⟨as, q⟩ := r.reads I mo e rx
        have k := Fin.same mo k (.str a.shown.cps.toList)
        rw [tx_of] at k
        have hd0 := topP_noDict d a e
        have hsz : a.shown.length ≤ sizeLine := hc.2.2
        cases q with
        | none => exact PySem.P.repr_of_none ⟨.str "None", H, I.tok _, ⟨_, rfl⟩, k⟩
        | bool b => exact PySem.P.repr_of_bool ⟨.str _, H, I.tok _, ⟨_, rfl⟩, k⟩
        | int i t => exact PySem.P.repr_of_int (by simpa [PyData.showable] using hc.1) ⟨.str _, H, I.tok _, ⟨_, rfl⟩, k⟩
        | str x t => exact PySem.P.repr_of_str ⟨.str _, H, I.tok _, ⟨_, rfl⟩, k⟩ hsz
        | list h1 h2 h3 h4 => exact repr_of_reads' (.list h1 h2 h3 h4) hc.1 (PyData.noDict_hsm hd0) hg (by have := hc.2.1; omega) (fun _ _ z => z) (fun h' u tk hk => ⟨.str _, H, I.kept hk, ⟨u, rfl⟩, k⟩) hsz
        | tuple h1 h2 h3 h4 => exact repr_of_reads' (.tuple h1 h2 h3 h4) hc.1 (PyData.noDict_hsm hd0) hg (by have := hc.2.1; omega) (fun _ _ z => z) (fun h' u tk hk => ⟨.str _, H, I.kept hk, ⟨u, rfl⟩, k⟩) hsz
        | dict _ _ _ _ _ => simp only [PyData.hasDict] at hd0; cases hd0
      · exact absurd k id
    · split at k
      · rename_i a e
        split at k
        · rename_i hc
          obtain ⟨as, q, hn⟩ := RD.readsQ sm I d _ _ a r e rx
          have k := Fin.same mo k (.str a.shown.cps.toList)
          rw [tx_of] at k
          have hsz : a.shown.length ≤ sizeLine := hc.2.2
          cases q with
          | none => exact PySem.P.repr_of_none ⟨.str "None", H, I.tok _, ⟨_, rfl⟩, k⟩
          | bool b => exact PySem.P.repr_of_bool ⟨.str _, H, I.tok _, ⟨_, rfl⟩, k⟩
          | int i t => exact PySem.P.repr_of_int (by simpa [PyData.showable] using hc.1) ⟨.str _, H, I.tok _, ⟨_, rfl⟩, k⟩
          | str x t => exact PySem.P.repr_of_str ⟨.str _, H, I.tok _, ⟨_, rfl⟩, k⟩ hsz
          | list h1 h2 h3 h4 => exact repr_of_reads' (.list h1 h2 h3 h4) hc.1 (fun _ => hn) hg (by have := hc.2.1; omega) (fun _ _ z => z) (fun h' u tk hk => ⟨.str _, H, I.kept hk, ⟨u, rfl⟩, k⟩) hsz
          | tuple h1 h2 h3 h4 => exact repr_of_reads' (.tuple h1 h2 h3 h4) hc.1 (fun _ => hn) hg (by have := hc.2.1; omega) (fun _ _ z => z) (fun h' u tk hk => ⟨.str _, H, I.kept hk, ⟨u, rfl⟩, k⟩) hsz
          | dict h1 h2 h3 h4 h5 => exact repr_of_reads' (.dict h1 h2 h3 h4 h5) hc.1 (fun _ => hn) hg (by have := hc.2.1; omega) (fun _ _ z => z) (fun h' u tk hk => ⟨.str _, H, I.kept hk, ⟨u, rfl⟩, k⟩) hsz
        · exact absurd k id
      · exact absurd k id
end
end Z
/-! Z6d: tuple(d) of a dict of texts. -/
namespace ZN
open PySem
section
variable {pr : Program} {wo : World} {Ar : Around} {X : Value → Shared → Prop} {z : Shared} {src : Addr} {T : String} {W : Array Value → Prop} {Q : Value → Shared → Prop}
/-- what a walk over an object gives: the objects of z stand, the values are W's -/
abbrev Gives (pr : Program) (wo : World) (Ar : Around) (X : Value → Shared → Prop) (z : Shared) (src : Addr) (W : Array Value → Prop) : Prop :=
  ∀ G : List Value → Shared → Prop, (∀ (hp : Heap) (tk : Nat) (vs : Array Value), (∀ a o, z.heap.get? a = some o → hp.get? a = some o) → W vs → G vs.toList { z with heap := hp, toks := tk }) → wpAny (model pr wo) Ar (collect (.ref src)) G X z
/-- where tuple(..) of it ends: at a new tuple of those values -/
abbrev TupEnd (z : Shared) (W : Array Value → Prop) (Q : Value → Shared → Prop) : Prop :=
  ∀ (hp : Heap) (tk : Nat) (vs : Array Value), (∀ a o, z.heap.get? a = some o → hp.get? a = some o) → W vs → Q (.ref hp.objs.size) { z with heap := hp.push { cls := .type "tuple", data := .seq vs }, toks := tk }
theorem tup_new (ty : z.TypeIs (.ref src) T) (nt : (Value.type T == Value.type "tuple") = false) (small : ∀ vs, W vs → vs.size ≤ sizeLine) (ga : Gives pr wo Ar.in1 X z src W) (en : TupEnd z W Q) :
    wpAny (model pr wo) Ar.in1 (Builtin.«tuple.__new__» ⟨[.type "tuple", .ref src], []⟩) (GQ.FinOf pr wo Ar (wants Q X)) X z := by
  have a := sub_tuple_self
  have b := init_tuple_lookup
  have c := madeHere_tuple
  wp_walk using wpAny_typeOf ty, ga
  intro hp tk vs old is
  have made : wpAny (model pr wo) Ar.in1 (Builtin.Tuple.tupleExact vs) Q X { z with heap := hp, toks := tk } := by
    unfold Builtin.Tuple.tupleExact
    exact wpAny_newObj_type (en hp tk vs old is) (small vs is)
  rw [Array.toArray_toList]
  refine wpAny_bind (wpAny_pure ?_)
  show wpAny _ _ (do ret (← Builtin.Tuple.tupleExact vs)) _ _ _
  exact wpAny_bind (wpAny_mono made (fun _ _ q => wpAny_pure q) fun _ _ q => q)
theorem tup_of (ty : z.TypeIs (.ref src) T) (nt : (Value.type T == Value.type "tuple") = false) (small : ∀ vs, W vs → vs.size ≤ sizeLine) (ga : Gives pr wo Ar.in1.in1 X z src W) (en : TupEnd z W Q) :
    wpAny (model pr wo) Ar (call (.type "tuple") [.ref src]) Q X z := by
  have key : codeAny (model pr wo) Ar.in1 (.call (.builtin "tuple.__new__") ⟨[.type "tuple", .ref src], []⟩) (wants (fun v z' => z'.TypeIs v "tuple" ∧ Q v z') X) z := by
    apply codeAny_of_tree
    have run := tup_new (Ar := Ar.in1) (pr := pr) (wo := wo) (Q := fun v z' => z'.TypeIs v "tuple" ∧ Q v z') ty nt small ga fun hp tk vs old is => ⟨⟨_, Heap.get?_push_size _ rfl, rfl⟩, en hp tk vs old is⟩
    exact wpAny_bind (wpAny_of_eq (F.newCall_tuple_1 (.ref src)) (wpAny_pure ⟨plainId_quiet F.plain_tuple_new _, codeAny_builtin F.entry_tuple_new (by rw [Around.under_plainId F.plain_tuple_new]; exact run)⟩))
  refine callType_codes F.called_tuple (F.typeCall_tuple_1 (.ref src)) F.entry_object_init key fun v z' q => ⟨q.1, F.args_object_init_2 v _, ?_⟩
  exact object_init_meets F.called_tuple.init.lookup F.called_tuple.made (by decide) pr wo Ar.in1 _ z' ⟨q.1, rfl, q.2⟩
end
end ZN
namespace Z
open PySem L2 PySem.Spec PyProof.Rows
def keysOf : List (D × D) → List D := fun kvs => kvs.map (·.1)
/-- of a dict that does not change -/
def dicTup (x : D) (hd : Hd) : R D := match x with
  | .dic kvs => .ok (.tup (keysOf kvs)) hd
  | _ => .bad
/-- the keys of a dict, as the values of a walk over it -/
theorem walk_keys : ∀ {kvs : List (L2.Key × V)} {vs : List (L2.Key × Value)} {us : List Value}, KV kvs vs → us.length = vs.length → (∀ (i : Nat) (u : Value), us[i]? = some u → ∃ k x, vs[i]? = some (k, x) ∧ L2.keyIs k u = true) → Vals (kvs.map fun e => kV e.1) us
  | _, _, [], .nil, _, _ => .nil
  | _, _, u :: us, .cons e r, l, f => by
    obtain ⟨k, x, g, is⟩ := f 0 u rfl
    cases g
    exact .cons (show RelV (kV _) u by rw [e.1]; exact keyIs_rel is) (walk_keys r (Nat.succ.inj l) fun i w h => f (i + 1) w h)
section
variable {X : Cx}
theorem rTupD (hc : X.calm = true) : CallR X (.type "tuple") (fun xs H Q => ∃ p kvs, xs = [V.ref p] ∧ H p = some (.dK kvs) ∧ ∀ q, H q = none → Q (.ref q) (upd H q (.tup (kvs.map fun kv => kV kv.1)))) := by
  rintro pins s σ H xs us Q I r ⟨p, kvs, rfl, there, q⟩
  obtain ⟨u, rfl, ru⟩ := vals1 r
  cases (show u = Value.ref p from ru)
  have laid : ObjOk X.prog X.w H s.heap p (.dK kvs) := I.hok p _ there
  obtain ⟨most, low, vs, kv, isD⟩ := laid
  obtain ⟨n, at_⟩ := isD.dictAt
  rw [KV.length kv] at most
  have src := PySem.W.kdl_dict (knd := mixKind X.prog X.w) (kvs := vs) (ep := n) low
  refine ZN.tup_of (src.type s at_) rfl (W := fun ys => ItemsOf _ ys vs.length) (fun ys z => by rw [z.1]; exact most) (fun G z => PySem.W.kdu_collect src (I.ok.hd hc) at_ most z) fun hp tk ys old is => ?_
  have free : H hp.objs.size = none := I.hok.gone (by
    cases e : s.heap.get? hp.objs.size with
    | none => rfl
    | some o => exact absurd (Heap.lt_size (old _ _ e)) (Nat.lt_irrefl _))
  have size : (kvs.map fun kv => kV kv.1).length ≤ sizeLine := by
    rw [List.length_map, KV.length kv]
    exact most
  have new : ObjOk X.prog X.w (upd H hp.objs.size (.tup (kvs.map fun kv => kV kv.1))) (hp.push { cls := .type "tuple", data := .seq ys }) hp.objs.size (.tup (kvs.map fun kv => kV kv.1)) :=
    ⟨size, ys.toList, walk_keys kv is.1 (fun i u h => is.2 i u (by rw [← Array.getElem?_toList]; exact h)), by
      rw [Array.toArray_toList]
      exact ⟨_, Heap.get?_push_size _ rfl, rfl, ⟨_, rfl⟩⟩⟩
  exact ⟨.ref hp.objs.size, _, I.laidN (fun a o e => Heap.get?_push_of_some _ (old a o e)) (by
    cases e : s.heap.get? hp.objs.size with
    | none => rfl
    | some o => exact absurd (Heap.lt_size (old _ _ e)) (Nat.lt_irrefl _)) free new, rfl, q _ free⟩
theorem rdk_keys {K : PySem.W.Frag} {mg : MG} {ρ : Rh} {H : Hp} : ∀ {kvs : List (D × D)} {vs : List (L2.Key × V)}, RDk K mg ρ H kvs vs → RDs K mg ρ H (keysOf kvs) (vs.map fun kv => kV kv.1)
  | _, _, .nil => .nil
  | _, _, .cons _ q => .cons (.str _) (rdk_keys q)
theorem c_tupD (hc : X.calm = true) : CallR X (.type "tuple") (rN X.K X.mg (on1 dicTup)) := by
  refine CallR.imp (rTupD hc) fun xs H Q h => ?_
  obtain ⟨v, rfl, ρ, hd, d, mo, r, k⟩ := rN1 h
  unfold dicTup at k
  split at k
  · cases r with
    | dic n e q => exact ⟨_, _, rfl, e, fun l hl => Fin.tup mo k (rdk_keys q) hl⟩
  · exact absurd k id
end
end Z
/-! Z7: subscripts, slices, texts by parts. -/
namespace Z
open PySem L2 PySem.Spec PyProof.Rows

theorem at_map {α β : Type} (f : α → β) (xs : List α) (i : Int) : atI (xs.map f) i = (atI xs i).map f := by
  unfold atI
  rw [List.length_map]
  cases ixn xs.length i with
  | none => rfl
  | some j => simp
theorem at_rds {K : PySem.W.Frag} {mg : MG} {ρ : Rh} {H : Hp} {xs : List D} {vs : List V} {i : Int} {d : D} (r : RDs K mg ρ H xs vs) (e : atI xs i = some d) : ∃ v, L2.atI vs i = some v ∧ RD K mg ρ H d v := by
  unfold atI at e
  unfold L2.atI
  rw [r.length] at e
  show ∃ v, ((ixn vs.length i).bind fun j => vs[j]?) = some v ∧ _
  cases q : ixn vs.length i with
  | none => rw [q] at e; cases e
  | some j =>
    rw [q] at e
    exact r.get e
section
variable {X : Cx} {W : WX} {a b c : Expr} {ma mb mc : Env → Hd → R D} {pos : Pos}
theorem ix_dK (hu : X.A.units + 66 < cLine) : IxR X (fun x y H Q => ∃ p kvs z v, x = .ref p ∧ y = .str z ∧ H p = some (.dK kvs) ∧ valV kvs (.inr z) = some v ∧ Q v H) := by
  intro value slice pins s σ H x y v u Q I rx ry h hs
  obtain ⟨p, kvs, z, w, rfl, rfl, hp, hv, q⟩ := h
  obtain rfl : v = Value.ref p := rx
  have g : DGet H p (kV (.inr z)) (some w) := by
    have := DGet.k (k := Sum.inr z) hp
    rw [hv] at this
    exact this
  exact tail_any (dict_typeIs I g) slot_dict_getitem.lookup (d_getItem (by omega) I g ry fun w' s' I' r => ⟨w, H, I', r, q⟩) hs
theorem ixZ (hu : X.A.units + 66 < cLine) : IxR X (r2 X.K X.mg ixS) := by
  intro value slice pins s σ H x y v u Q I rx ry h hs
  obtain ⟨ρ, hd, dx, dy, mo, r1, r2, k⟩ := h
  unfold ixS at k
  split at k
  · cases r1; cases r2
    rename_i z i
    split at k
    · rename_i hl
      refine (ix_seq (X := X)) value slice pins s σ H _ _ v u Q I rx ry (.inr (.inr ?_)) hs
      cases e : atI z i with
      | none => rw [e] at k; exact absurd k id
      | some c =>
        rw [e] at k
        refine ⟨tx z, i, c, rfl, rfl, hl, ?_, Fin.same mo k (.str _)⟩
        rw [tx_toList]
        exact e
    · exact absurd k id
  · rename_i i hno
    cases r2
    split at k
    · rename_i xs e
      cases e2 : atI xs i with
      | none => rw [e2] at k; exact absurd k id
      | some d =>
        rw [e2] at k
        obtain ⟨p, vs, rfl, q, h⟩ := seq_of mo r1 e
        obtain ⟨w, hw, rw'⟩ := at_rds q e2
        refine (ix_seq (X := X)) value slice pins s σ H _ _ v u Q I rx ry ?_ hs
        rcases h with ⟨_, h⟩ | ⟨_, h⟩
        · exact .inr (.inl ⟨p, vs, i, w, rfl, rfl, SqT.of h, hw, Fin.same mo k rw'⟩)
        · exact .inl ⟨p, vs, i, w, rfl, rfl, h, hw, Fin.same mo k rw'⟩
    · exact absurd k id
  · rename_i z
    cases r2
    split at k
    · rename_i kvs e
      cases e2 : lkD z kvs with
      | none => rw [e2] at k; exact absurd k id
      | some d =>
        rw [e2] at k
        have hd' : ∃ p ws, x = .ref p ∧ H p = some (.dK ws) ∧ RDk X.K X.mg ρ H kvs ws := by
          cases r1 with
          | dic n h q => cases e; exact ⟨_, _, rfl, h, q⟩
          | @obj n p h =>
            have e : (match hd[n]? with | some (.dic kvs) => some kvs | _ => none) = some kvs := e
            split at e
            · rename_i q
              cases e
              have m := mo.at_ _ _ _ h q
              cases m with
              | dic h q => exact ⟨_, _, rfl, h, q⟩
            · cases e
          | _ => cases e
        obtain ⟨p, ws, rfl, hp, q⟩ := hd'
        obtain ⟨w, hw, rw'⟩ := (dic_get (z := z) q).1 d e2
        exact ix_dK hu value slice pins s σ H _ _ v u Q I rx ry ⟨p, ws, tx z, w, rfl, rfl, hp, hw, Fin.same mo k rw'⟩ hs
    · exact absurd k id
  · exact absurd k id
theorem pe_ixZ (hu : X.A.units + 66 < cLine) (ha : PE X a (rd X.K X.mg W ma)) (hb : PE X b (rd X.K X.mg W mb)) (hs : PlainIx b) :
    PE X (.Subscript a b pos) (rd X.K X.mg W fun env hd => (ma env hd).bind fun x hd => (mb env hd).bind fun y hd => (ixS x y hd).st) :=
  (pe_ix (ixZ hu) ha hb hs).imp fun σ H Q h => rd_2 h fun ρ env hd H1 x y v u re mo rv ru k => ⟨ρ, hd, x, y, mo, rv, ru, k.st⟩

/-! ### slices -/
theorem cut_map {α β : Type} (f : α → β) (xs : List α) (lo hi : Option Int) : cutL (xs.map f) lo hi = (cutL xs lo hi).map f := by
  unfold cutL
  rw [List.length_map, List.map_take, List.map_drop]
theorem sIx_eq (n d : Nat) (o : Option Int) : sIx n d o = HT.sIx n d o := by
  unfold sIx HT.sIx
  rfl
theorem cut_rds {K : PySem.W.Frag} {mg : MG} {ρ : Rh} {H : Hp} {xs : List D} {vs : List V} (r : RDs K mg ρ H xs vs) (lo hi : Option Int) : RDs K mg ρ H (cutL xs lo hi) (cutV vs lo hi) := by
  unfold cutL cutV
  rw [r.length]
  exact (r.drop _).take _
theorem cut_tx (z : List Nat) (lo hi : Option Int) : cutS (tx z) lo hi = tx (cutL z lo hi) := by
  unfold cutS cutL
  simp only [tx_toList]
  rfl
/-- a slice's part -/
def rdO (K : PySem.W.Frag) (mg : MG) (W : WX) (m : Env → Hd → R D) : TO := fun σ H Q => ∃ ρ env hd, REnv K mg ρ H env σ ∧ MOk K mg ρ H hd ∧ Kt K mg W σ ρ H (m env hd) (fun d h ρ' H' => ∃ o, partI d = some o ∧ Q o H')
theorem po_imp {e : Option Expr} {t t' : TO} (h : PO X e t) (i : ∀ σ H Q, t' σ H Q → t σ H Q) : PO X e t' := ⟨fun pins s σ H Q I q => h.run pins s σ H Q I (i σ H Q q)⟩
theorem po_noneZ : PO X none (rdO X.K X.mg W fun _ hd => .ok .non hd) := po_imp po_none fun σ H Q ⟨ρ, env, hd, re, mo, k⟩ => by
  obtain ⟨o, e, q⟩ := k ρ H .refl mo
  cases e
  exact q
theorem po_someZ (ha : PE X a (rd X.K X.mg W ma)) : PO X (some a) (rdO X.K X.mg W fun env hd => (ma env hd).bind intS) := po_imp (po_some ha) fun σ H Q ⟨ρ, env, hd, re, mo, k⟩ =>
  ⟨ρ, env, hd, re, mo, k.bind.imp fun x h1 ρ1 H1 ⟨e1, m1, k1⟩ v rv => by
    cases rv with
    | int i =>
      obtain ⟨o, e, q⟩ := k1 ρ1 H1 .refl m1
      cases e
      exact ⟨i, rfl, q⟩
    | _ => exact k1.elim⟩
theorem slZ (m : Bool) : SlR X (fun x lo hi H Q => ∃ ρ hd d, MOk X.K X.mg ρ H hd ∧ RD X.K X.mg ρ H d x ∧ OkR (match d with
    | .str z => if z.length ≤ line then .ok (.str (cutL z lo hi)) hd else .bad
    | .tup xs => .ok (.tup (cutL xs lo hi)) hd
    | x => match items hd x with
      | some xs => mkL m (cutL xs lo hi) hd
      | none => .bad) (Fin X.K X.mg ρ H Q)) := by
  intro pins s σ H x v vl vu lo hi sl Q I rx hs pl pu h
  obtain ⟨ρ, hd, d, mo, r, k⟩ := h
  split at k
  · cases r
    rename_i z
    split at k
    · rename_i hl
      refine (sl_str (X := X)) pins s σ H _ v vl vu lo hi sl Q I rx hs pl pu ⟨tx z, rfl, hl, ?_⟩
      rw [cut_tx]
      exact Fin.same mo k (.str _)
    · exact absurd k id
  · cases r with
    | tup n h q =>
      rename_i xs p vs
      have cr := cut_rds q lo hi
      refine (sl_tupA (X := X)) pins s σ H _ v vl vu lo hi sl Q I rx hs pl pu ⟨_, vs, rfl, SqT.of h, fun hw => ?_, fun _ p hp => Fin.tup mo k cr hp⟩
      refine Fin.same mo k ?_
      have e : cutL xs lo hi = xs := by
        unfold cutL
        rw [sIx_eq, sIx_eq, q.length, hw.1, hw.2, List.drop_zero, Nat.sub_zero, ← q.length, List.take_length]
      rw [e]
      exact .tup n h q
  · split at k
    · rename_i hno _ xs e
      obtain ⟨p, vs, rfl, q, h⟩ := seq_of mo r e
      rcases h with ⟨ht, _⟩ | ⟨_, h⟩
      · cases d with
        | tup xs => exact absurd rfl (hno xs)
        | _ => cases ht
      · exact (sl_list (X := X)) pins s σ H _ v vl vu lo hi sl Q I rx hs pl pu ⟨p, vs, rfl, h, fun l hl => Fin.list mo k (cut_rds q lo hi) hl⟩
    · exact absurd k id
def Part (m : Env → Hd → R D) : Prop := ∀ env hd d h, m env hd = .ok d h → ∃ o, partI d = some o
theorem part_non : Part fun _ hd => .ok .non hd := fun env hd d h e => by cases e; exact ⟨none, rfl⟩
theorem part_int {m : Env → Hd → R D} : Part fun env hd => (m env hd).bind intS := fun env hd d h e => by
  obtain ⟨a, h1, _, e⟩ := ok_bind e
  unfold intS at e
  split at e
  · cases e
    exact ⟨_, rfl⟩
  · cases e
theorem kt_part {K : PySem.W.Frag} {mg : MG} {σ : L2.St} {ρ : Rh} {H : Hp} {m : Env → Hd → R D} (hm : Part m) {env : Env} {hd : Hd} {P : D → Hd → Rh → Hp → Prop} (k : Kt K mg W σ ρ H (m env hd) P) :
    Kt K mg W σ ρ H (m env hd) (fun d h ρ' H' => ∃ o, partI d = some o ∧ P d h ρ' H') := by
  cases e : m env hd with
  | ok d h =>
    rw [e] at k
    obtain ⟨o, q⟩ := hm env hd d h e
    exact fun ρ' H' e m => ⟨o, q, k ρ' H' e m⟩
  | exc C fs h => rw [e] at k; exact k
  | bad => rw [e] at k; exact k
theorem pe_slZ {m : Bool} {lo hi : Option Expr} {ml mh : Env → Hd → R D} {p2 : Pos} (ha : PE X a (rd X.K X.mg W ma)) (hl : PO X lo (rdO X.K X.mg W ml)) (hh : PO X hi (rdO X.K X.mg W mh)) (pl : Part ml) (ph : Part mh) :
    PE X (.Subscript a (.Slice lo hi none p2) pos) (rd X.K X.mg W fun env hd => (ma env hd).bind fun x hd => (ml env hd).bind fun l hd => (mh env hd).bind fun u hd => (slS m x l u hd).st) :=
  (pe_slice (slZ m) ha hl hh).imp fun σ H Q ⟨ρ, env, hd, re, mo, k⟩ => ⟨ρ, env, hd, re, mo, k.bind.imp fun x h1 ρ1 H1 ⟨e1, m1, k1⟩ v rv => ⟨ρ1, env, h1, re.ext e1, m1, (kt_part pl k1.bind).imp fun l h2 ρ2 H2 ⟨o, eo, e2, m2, k2⟩ =>
    ⟨o, eo, ρ2, env, h2, (re.ext e1).ext e2, m2, (kt_part ph k2.bind).imp fun u h3 ρ3 H3 ⟨o2, eo2, e3, m3, k3⟩ => ⟨o2, eo2, ρ3, h3, x, m3, (rv.ext e2).ext e3, by
      have k4 := k3.st
      unfold slS at k4
      rw [eo, eo2] at k4
      exact k4⟩⟩⟩⟩

/-! ### texts by parts -/
theorem pe_fmtZ (ha : PE X a (rd X.K X.mg W ma)) : PE X (.FormattedValue a (-1) none pos) (rd X.K X.mg W fun env hd => (ma env hd).bind fmtS) :=
  (pe_fmt ha).imp fun σ H Q h => rd_1 (f := fun _ x hd => fmtS x hd) h fun ρ env hd H1 x v re mo rv k => by
    unfold fmtS at k
    split at k
    · cases rv
      split at k
      · rename_i hl
        exact .inl ⟨_, rfl, hl, k ρ H1 .refl mo _ (.str _)⟩
      · exact k.elim
    · cases rv
      split at k
      · rename_i i hl
        refine .inr ⟨i, rfl, hl, k ρ H1 .refl mo _ ?_⟩
        have := RD.str (K := X.K) (mg := X.mg) (ρ := ρ) (H := H1) (decI i)
        unfold decI at this
        rw [tx_of] at this
        exact this
      · exact k.elim
    · exact k.elim
/-- the parts, one behind another -/
def joinZ : List (Env → Hd → R D) → List Nat → Env → Hd → R D
  | [], acc, _, hd => .ok (.str acc) hd
  | m :: ms, acc, env, hd => (m env hd).bind fun x hd => match x with
    | .str z => if acc.length + z.length ≤ line then joinZ ms (acc ++ z) env hd else .bad
    | _ => .bad
theorem tJs_of : ∀ (ms : List (Env → Hd → R D)) (acc : List Nat) (σ : L2.St) (H : Hp) (Q : Str → Hp → Prop),
    (∃ ρ env hd, REnv X.K X.mg ρ H env σ ∧ MOk X.K X.mg ρ H hd ∧ Kt X.K X.mg W σ ρ H (joinZ ms acc env hd) (fun d h ρ' H' => ∀ v, RD X.K X.mg ρ' H' d v → ∃ z, v = .str z ∧ Q z H')) → tJs (ms.map (rd X.K X.mg W)) (tx acc) σ H Q
  | [], acc, σ, H, Q, ⟨ρ, env, hd, re, mo, k⟩ => by
    obtain ⟨z, e, q⟩ := k ρ H .refl mo _ (.str acc)
    cases e
    exact q
  | m :: ms, acc, σ, H, Q, ⟨ρ, env, hd, re, mo, k⟩ => ⟨ρ, env, hd, re, mo, k.bind.imp fun x h1 ρ1 H1 ⟨e1, m1, k1⟩ v rv => by
    cases rv with
    | str z =>
      dsimp only at k1
      split at k1
      · rename_i hl
        refine ⟨tx z, rfl, by rw [tx_append, tx_length, List.length_append]; exact hl, ?_⟩
        rw [tx_append]
        exact tJs_of ms (acc ++ z) σ H1 Q ⟨ρ1, env, h1, re.ext e1, m1, k1⟩
      · exact k1.elim
    | _ => exact k1.elim⟩
theorem pe_joinedZ {v1 v2 : Expr} {rest : List Expr} {ms : List (Env → Hd → R D)} (h : PJ X (v1 :: v2 :: rest) (ms.map (rd X.K X.mg W))) (hs : ∀ env hd d hd', joinZ ms [] env hd = .ok d hd' → ∃ z, d = .str z) :
    PE X (.JoinedStr (v1 :: v2 :: rest) pos) (rd X.K X.mg W fun env hd => joinZ ms [] env hd) :=
  (pe_joined h).imp fun σ H Q ⟨ρ, env, hd, re, mo, k⟩ => tJs_of ms [] σ H (fun z H1 => Q (.str z) H1) ⟨ρ, env, hd, re, mo, by
    have k : Kt X.K X.mg W σ ρ H (joinZ ms [] env hd) _ := k
    cases e : joinZ ms [] env hd with
    | ok d h1 =>
      rw [e] at k
      obtain ⟨z, rfl⟩ := hs env hd d h1 e
      intro ρ' H' e' m' v rv
      cases rv
      exact ⟨_, rfl, k ρ' H' e' m' _ (.str z)⟩
    | exc C fs h1 => rw [e] at k; exact k
    | bad => rw [e] at k; exact k⟩
theorem joinZ_str : ∀ (ms : List (Env → Hd → R D)) (acc : List Nat) (env : Env) (hd : Hd) (d : D) (hd' : Hd), joinZ ms acc env hd = .ok d hd' → ∃ z, d = .str z
  | [], acc, env, hd, d, hd', e => by cases e; exact ⟨_, rfl⟩
  | m :: ms, acc, env, hd, d, hd', e => by
    obtain ⟨x, h1, _, e⟩ := ok_bind (show (m env hd).bind _ = _ from e)
    split at e
    · split at e
      · exact joinZ_str ms _ env h1 d hd' e
      · cases e
    · cases e
end
end Z
/-! Z8: methods of texts and lists. -/
namespace Z
open PySem L2 PySem.Spec PyProof.Rows

section
variable {K : PySem.W.Frag} {mg : MG} {H : Hp} {Q : VK} {m : Bool} {f : MT} {x : V} {xs : List V}
theorem rM_str (hf : isLM f = false) (h : rM K mg (mtS m f) x xs H Q) : ∃ z ρ hd ds, x = .str (tx z) ∧ MOk K mg ρ H hd ∧ RDs K mg ρ H ds xs ∧ OkR (mtA m f z ds hd) (Fin K mg ρ H Q) := by
  obtain ⟨ρ, hd, d, ds, mo, r, rr, k⟩ := h
  unfold mtS at k
  split at k
  · cases r
    exact ⟨_, ρ, hd, ds, rfl, mo, rr, k⟩
  · split at k
    · cases f <;> first | exact absurd k id | cases hf
    · exact absurd k id
  · exact absurd k id
theorem rM_lst (hf : isLM f = true) (h : rM K mg (mtS m f) x xs H Q) : ∃ n p ys vs ρ hd ds, x = .ref p ∧ ρ.v[n]? = some p ∧ hd[n]? = some (.lst ys) ∧ H p = some (.lst vs) ∧ RDs K mg ρ H ys vs ∧ MOk K mg ρ H hd ∧ RDs K mg ρ H ds xs ∧ OkR (mtB f n ys ds hd) (Fin K mg ρ H Q) := by
  obtain ⟨ρ, hd, d, ds, mo, r, rr, k⟩ := h
  unfold mtS at k
  split at k
  · cases f <;> first | exact absurd k id | cases hf
  · split at k
    · rename_i n _ ys e
      cases r with
      | obj q =>
        have m := mo.at_ _ _ _ q e
        cases m with
        | lst e1 q1 => exact ⟨n, _, ys, _, ρ, hd, ds, rfl, q, e, e1, q1, mo, rr, k⟩
    · exact absurd k id
  · exact absurd k id
/-- one text -/
theorem rds_str {ρ : Rh} {z : List Nat} (r : RDs K mg ρ H [.str z] xs) : xs = [.str (tx z)] := by
  obtain ⟨v, e, r1⟩ := rds1 r
  cases r1
  exact e
theorem MtR.imp {X : Cx} {id : String} {r r' : V → List V → Hp → VK → Prop} (h : MtR X id r) (i : ∀ x xs H Q, r' x xs H Q → r x xs H Q) : MtR X id r' := fun pins s σ H x xs v us Q I rx rs q => h pins s σ H x xs v us Q I rx rs (i x xs H Q q)
end
theorem stx_map {K : PySem.W.Frag} {mg : MG} {ρ : Rh} {H : Hp} : ∀ {ds : List D} {bs : List (List Nat)} {vs : List V}, stx ds = some bs → RDs K mg ρ H ds vs → vs = (bs.map tx).map V.str
  | [], _, _, e, r => by cases e; cases r; rfl
  | d :: ds, bs, vs, e, r => by
    cases r with
    | cons r q =>
      cases r with
      | str b =>
        simp only [stx] at e
        cases q2 : stx ds with
        | none => rw [q2] at e; cases e
        | some cs =>
          rw [q2] at e
          cases e
          rw [List.map_cons, List.map_cons, stx_map q2 q]
      | _ => cases e
theorem tl_tx (z : List Nat) : TL.tl (tx z) = z := tx_toList z
theorem len_tx (z : List Nat) : (tx z).length = z.length := rfl
theorem join_tx (z : List Nat) (ys : List (List Nat)) : Txt.join (tx z) (ys.map tx) = tx (TL.joinL z ys) := by
  rw [TL.join_eq]
  refine TL.ext_tl ?_
  rw [TL.tl_join, tl_tx, tl_tx, List.map_map]
  congr 1
  rw [show (TL.tl ∘ tx) = id from funext tl_tx, List.map_id]
theorem split_tx (z : List Nat) (c : Nat) (h : c < 256) : Txt.split (tx z) (tx [c]) = (TL.spl [c] 0 [] z).map tx := by
  refine TL.map_tl_inj ?_
  rw [TL.split_spl (tx z) (tx [c]) (by simp [tl_tx]) (TL.kind_ok (by simp [h])), tl_tx, tl_tx, List.map_map, show (TL.tl ∘ tx) = id from funext tl_tx, List.map_id]
theorem at_zero (z p : List Nat) : (Builtin.Str.subAt (tx z) (tx p) 0) = TL.pre p z := by
  unfold Builtin.Str.subAt TL.pre
  rw [Bool.eq_iff_iff, beq_iff_eq, beq_iff_eq]
  show z.toArray.extract 0 (0 + p.length) = p.toArray ↔ _
  rw [Nat.zero_add, ← Array.toList_inj]
  simp
section
variable {X : Cx} {m : Bool}
theorem m_join : MtR X "str.join" (rM X.K X.mg (mtS m .join)) := by
  refine MtR.imp mt_join fun x xs H Q h => ?_
  obtain ⟨z, ρ, hd, ds, rfl, mo, r, k⟩ := rM_str rfl h
  unfold mtA at k
  dsimp only at k
  split at k
  · rename_i y
    obtain ⟨v, rfl, r1⟩ := rds1 r
    split at k
    · rename_i ys e
      split at k
      · rename_i hl
        cases e1 : items hd y with
        | none => rw [e1] at e; cases e
        | some us =>
          rw [e1] at e
          obtain ⟨p, vs, rfl, q, h⟩ := seq_of mo r1 e1
          have ev := stx_map e q
          subst ev
          refine ⟨tx z, p, ys.map tx, rfl, rfl, ?_, ?_, ?_⟩
          · rcases h with ⟨_, h⟩ | ⟨_, h⟩
            · exact .inr (SqT.of h)
            · exact .inl h
          · rw [List.map_map, List.length_map]
            exact hl
          · rw [join_tx]
            exact Fin.same mo k (.str _)
      · exact absurd k id
    · exact absurd k id
  · exact absurd k id
theorem m_split : MtR X "str.split" (rM X.K X.mg (mtS m .split)) := by
  refine MtR.imp mt_split fun x xs H Q h => ?_
  obtain ⟨z, ρ, hd, ds, rfl, mo, r, k⟩ := rM_str rfl h
  unfold mtA at k
  dsimp only at k
  split at k
  · rename_i c
    have e := rds_str r
    subst e
    split at k
    · rename_i hl
      refine ⟨tx z, tx [c], rfl, rfl, rfl, hl.2, fun p hp => ?_⟩
      rw [split_tx z c hl.1, List.map_map]
      exact Fin.list mo k (RDs.strs_ _) hp
    · exact absurd k id
  · exact absurd k id
theorem m_partition : MtR X "str.partition" (rM X.K X.mg (mtS m .partition)) := by
  refine MtR.imp mt_partition fun x xs H Q h => ?_
  obtain ⟨z, ρ, hd, ds, rfl, mo, r, k⟩ := rM_str rfl h
  unfold mtA at k
  dsimp only at k
  split at k
  · rename_i c p
    have e := rds_str r
    subst e
    split at k
    · rename_i hl
      refine ⟨tx z, tx (c :: p), rfl, rfl, rfl, hl, fun l hp => ?_⟩
      rw [TL.partition_par _ _ (by rw [tl_tx]; exact List.cons_ne_nil _ _), tl_tx, tl_tx]
      cases e : TL.par (c :: p) [] z with
      | none =>
        rw [e] at k
        exact Fin.tup mo k (.cons (.str z) (.cons (.str []) (.cons (.str []) .nil))) hp
      | some q =>
        rw [e] at k
        exact Fin.tup mo k (.cons (.str q.1) (.cons (.str (c :: p)) (.cons (.str q.2) .nil))) hp
    · exact absurd k id
  · exact absurd k id
/-- x.rpartition(sep) -/
theorem mt_rpart : MtR X "str.rpartition" (fun x xs H Q => ∃ z c p, x = .str (tx z) ∧ xs = [.str (tx (c :: p))] ∧ z.length ≤ sizeLine ∧
    ∀ l, H l = none → Q (.ref l) (upd H l (.tup (match lastL (c :: p) z with
      | some i => [.str (tx (z.take i)), .str (tx (c :: p)), .str (tx (z.drop (i + (p.length + 1))))]
      | none => [.str (tx []), .str (tx []), .str (tx z)])))) := by
  intro pins s σ H x xs v us Q I rx rs h
  obtain ⟨z, c, p, rfl, rfl, hz, h⟩ := h
  obtain ⟨t, rfl⟩ := rx
  cases rs with
  | cons r1 rs =>
    cases rs
    obtain ⟨u, rfl⟩ := r1
    refine call_meets F.slot_str_rpartition (typeIs_str _ _ _) F.entry_str_rpartition (F.args_str_rpartition_2 _ _) (meets_str_rpartition (tx z) (tx (c :: p)) t u rfl hz) ?_
    have el : Builtin.Str.lastOccurrence (tx z) (tx (c :: p)) 0 (tx z).length = lastL (c :: p) z := rfl
    rw [el]
    revert h
    cases lastL (c :: p) z with
    | none =>
      intro h
      exact laid_parts I h
    | some i =>
      intro h
      have e1 : Builtin.Str.strSub (tx z) 0 i = tx (z.take i) := TL.ext_tl (by rw [TL.tl_strSub, tl_tx, tl_tx, List.drop_zero, Nat.sub_zero])
      have e2 : Builtin.Str.strSub (tx z) (i + (tx (c :: p)).length) (tx z).length = tx (z.drop (i + (p.length + 1))) := TL.ext_tl (by rw [TL.tl_strSub_end, tl_tx, tl_tx]; rfl)
      dsimp only
      rw [e1, e2]
      exact laid_parts I h
theorem m_rpartition : MtR X "str.rpartition" (rM X.K X.mg (mtS m .rpartition)) := by
  refine MtR.imp mt_rpart fun x xs H Q h => ?_
  obtain ⟨z, ρ, hd, ds, rfl, mo, r, k⟩ := rM_str rfl h
  unfold mtA at k
  dsimp only at k
  split at k
  · rename_i c p
    have e := rds_str r
    subst e
    split at k
    · rename_i hl
      refine ⟨z, c, p, rfl, rfl, hl, fun l hp => ?_⟩
      cases e : lastL (c :: p) z with
      | none =>
        rw [e] at k
        exact Fin.tup mo k (.cons (.str []) (.cons (.str []) (.cons (.str z) .nil))) hp
      | some i =>
        rw [e] at k
        exact Fin.tup mo k (.cons (.str _) (.cons (.str (c :: p)) (.cons (.str _) .nil))) hp
    · exact absurd k id
  · exact absurd k id
theorem m_removeprefix : MtR X "str.removeprefix" (rM X.K X.mg (mtS m .removeprefix)) := by
  refine MtR.imp mt_removeprefix fun x xs H Q h => ?_
  obtain ⟨z, ρ, hd, ds, rfl, mo, r, k⟩ := rM_str rfl h
  unfold mtA at k
  dsimp only at k
  split at k
  · rename_i c p
    have e := rds_str r
    subst e
    split at k
    · rename_i hl
      refine ⟨tx z, tx (c :: p), rfl, rfl, hl, ?_⟩
      have e : Txt.removeprefix (tx z) (tx (c :: p)) = tx (if TL.pre (c :: p) z = true then z.drop (p.length + 1) else z) := by
        unfold Txt.removeprefix
        rw [at_zero]
        split
        · rename_i hp
          unfold Txt.affix
          have hne : ((tx z).length - (tx (c :: p)).length == (tx z).length) = false := by
            have h1 : p.length + 1 ≤ z.length := by
              have h2 : z.take (p.length + 1) = c :: p := by
                have := hp
                unfold TL.pre at this
                simpa using this
              have h3 := congrArg List.length h2
              rw [List.length_take, List.length_cons] at h3
              omega
            rw [beq_eq_false_iff_ne]
            show z.length - (p.length + 1) ≠ z.length
            omega
          simp only [hne]
          refine TL.ext_tl ?_
          show TL.tl (Builtin.Str.strSub (tx z) (tx (c :: p)).length (tx z).length) = _
          rw [TL.tl_strSub_end, tl_tx, tl_tx]
          rfl
        · rfl
      rw [e]
      exact Fin.same mo k (.str _)
    · exact absurd k id
  · exact absurd k id
theorem m_startswith : MtR X "str.startswith" (rM X.K X.mg (mtS m .startswith)) := by
  refine MtR.imp mt_startswith fun x xs H Q h => ?_
  obtain ⟨z, ρ, hd, ds, rfl, mo, r, k⟩ := rM_str rfl h
  unfold mtA at k
  dsimp only at k
  split at k
  · rename_i p
    have e := rds_str r
    subst e
    refine ⟨tx z, tx p, rfl, rfl, ?_⟩
    have e : Txt.startswith (tx z) (tx p) = TL.pre p z := by
      unfold Txt.startswith
      rw [at_zero]
      cases hp : TL.pre p z with
      | false => rw [Bool.and_false]
      | true =>
        rw [Bool.and_true]
        have h2 : z.take p.length = p := by
          have := hp
          unfold TL.pre at this
          simpa using this
        have h3 := congrArg List.length h2
        rw [List.length_take] at h3
        refine decide_eq_true ?_
        show 0 + p.length ≤ z.length
        omega
    rw [e]
    exact Fin.same mo k (.bl _)
  · exact absurd k id
/-- the list at n is another one -/
theorem Fin.put {K : PySem.W.Frag} {mg : MG} {ρ : Rh} {H : Hp} {hd : Hd} {Q : VK} {n : Nat} {p : Addr} {d : D} {v : V} {ys : List D} {vs : List V} (mo : MOk K mg ρ H hd) (h : ρ.v[n]? = some p) (k : Fin K mg ρ H Q d (hd.set n (.lst ys))) (r : RDs K mg ρ H ys vs) (rv : RD K mg ρ H d v) :
    Q v (upd H p (.lst vs)) := by
  have hp : p ∈ ρ.v := List.mem_of_getElem? h
  have e := Ext.put (ρ := ρ) (H := H) (p := p) (o := .lst vs) (.inl hp) (mo.seen hp)
  exact k ρ _ e (mo.put h (.lst upd_same (r.ext e))) v (rv.ext e)
theorem m_append : MtR X "list.append" (rM X.K X.mg (mtS m .append)) := by
  refine MtR.imp mt_append fun x xs H Q h => ?_
  obtain ⟨n, p, ys, vs, ρ, hd, ds, rfl, hp, hn, hH, q, mo, r, k⟩ := rM_lst rfl h
  unfold mtB at k
  dsimp only at k
  split at k
  · obtain ⟨v, rfl, r1⟩ := rds1 r
    split at k
    · rename_i hl
      exact ⟨p, vs, v, rfl, rfl, hH, by rw [← q.length]; exact hl, Fin.put mo hp k (q.append (.cons r1 .nil)) .non⟩
    · exact absurd k id
  · exact absurd k id
theorem m_pop : MtR X "list.pop" (rM X.K X.mg (mtS m .pop)) := by
  refine MtR.imp mt_popAt fun x xs H Q h => ?_
  obtain ⟨n, p, ys, vs, ρ, hd, ds, rfl, hp, hn, hH, q, mo, r, k⟩ := rM_lst rfl h
  unfold mtB at k
  dsimp only at k
  split at k
  · rename_i i
    obtain ⟨v, rfl, r1⟩ := rds1 r
    cases r1
    split at k
    · rename_i j e
      split at k
      · rename_i d e2
        split at k
        · rename_i hl
          obtain ⟨w, hw, rw'⟩ := q.get e2
          have e3 : ixN vs.length i = some j := by rw [← q.length]; exact e
          obtain ⟨h1, h2, h3, h4⟩ := ixN_seq e3
          have hl2 : vs.length ≤ 16777216 := by rw [← q.length]; exact hl
          exact ⟨p, vs, i, j, w, rfl, rfl, hH, by omega, by omega, h1, hw, Fin.put mo hp k (q.eraseIdx j) rw'⟩
        · exact absurd k id
      · exact absurd k id
    · exact absurd k id
  · exact absurd k id
theorem m_extend : MtR X "list.extend" (rM X.K X.mg (mtS m .extend)) := by
  refine MtR.imp mt_extend fun x xs H Q h => ?_
  obtain ⟨n, p, ys, vs, ρ, hd, ds, rfl, hp, hn, hH, q, mo, r, k⟩ := rM_lst rfl h
  unfold mtB at k
  dsimp only at k
  split at k
  · obtain ⟨v, rfl, r1⟩ := rds1 r
    split at k
    · rename_i zs e
      split at k
      · rename_i hl
        obtain ⟨b, ws, rfl, hb, q2⟩ := lst_of mo r1 e
        exact ⟨p, b, vs, ws, rfl, rfl, hH, hb, by rw [← q.length, ← q2.length]; exact hl, Fin.put mo hp k (q.append q2) .non⟩
      · exact absurd k id
    · exact absurd k id
  · exact absurd k id
/-- o.m(e, ..) -/
theorem pe_mtZ {W : WX} {T id : String} {name : Str} {f : MT} {o e : Expr} {es : List Expr} {mo : Env → Hd → R D} {mr : Env → Hd → R (List D)} {apos cpos : Pos} (pa : PlainAttrs T) (slot : Slot T name id) (hty : typeOf (.builtin id) = pure (.type "method_descriptor")) (hm : MtR X id (rM X.K X.mg (mtS m f)))
    (ht : ∀ (ρ : Rh) (H : Hp) (hd : Hd) d v, MOk X.K X.mg ρ H hd → RD X.K X.mg ρ H d v → tyOk f d hd = true → tyV X.K T v H)
    (ho : PE X o (rd X.K X.mg W mo)) (ha : PE X o (rd X.K X.mg W mo) → PA X (e :: es) (rdA X.K X.mg W mr)) (hbase : attributeBase o name X.env (eval o X.env) = eval o X.env)
    (hfew : ((backTo cpos (starEach (e :: es) X.env)).all (fun x => !x.1) && (backToKw cpos (keywordEach [] X.env)).all (fun x => x.1.isSome)
      && decide ((e :: es).length + ([] : List Keyword).length + (if ([] : List Keyword).isEmpty then 0 else 1) < 30)) = true)
    (hline : (apos.endLine == cpos.line) = true) (hs : starEach (e :: es) X.env = (false, eval e X.env) :: starEach es X.env) (hplain : (backTo cpos (starEach es X.env)).any (·.1) = false) :
    PE X (.Call (.Attribute o name apos) (e :: es) [] cpos) (rd X.K X.mg W fun env hd => (mo env hd).bind fun x hd => if tyOk f x hd = true then (mr env hd).bind fun xs hd => (mtS m f x xs hd).st else .bad) :=
  (pe_bm pa slot hty hm ho (ha ho) hbase hfew hline hs hplain).imp fun σ H Q ⟨ρ, env, hd, re, mo, k⟩ => ⟨ρ, env, hd, re, mo, k.bind.imp fun x h1 ρ1 H1 ⟨e1, m1, k1⟩ v rv => by
    split at k1
    · rename_i hok
      exact ⟨ht ρ1 H1 h1 x v m1 rv hok, ρ1, env, h1, re.ext e1, m1, k1.bind.imp fun xs h2 ρ2 H2 ⟨e2, m2, k2⟩ vs rvs => ⟨ρ2, h2, x, xs, m2, rv.ext e2, rvs, k2.st⟩⟩
    · exact k1.elim⟩
theorem ty_str {K : PySem.W.Frag} {mg : MG} {f : MT} (hf : isLM f = false) (ρ : Rh) (H : Hp) (hd : Hd) (d : D) (v : V) (mo : MOk K mg ρ H hd) (r : RD K mg ρ H d v) (h : tyOk f d hd = true) : tyV K "str" v H := by
  unfold tyOk at h
  rw [hf] at h
  simp only [Bool.false_eq_true, if_false] at h
  split at h
  · cases r
    rfl
  · cases h
theorem ty_lst {K : PySem.W.Frag} {mg : MG} {f : MT} (hf : isLM f = true) (ρ : Rh) (H : Hp) (hd : Hd) (d : D) (v : V) (mo : MOk K mg ρ H hd) (r : RD K mg ρ H d v) (h : tyOk f d hd = true) : tyV K "list" v H := by
  unfold tyOk at h
  rw [hf] at h
  simp only [if_true] at h
  obtain ⟨xs, e⟩ := Option.isSome_iff_exists.mp h
  obtain ⟨a, vs, rfl, h1, _⟩ := lst_of mo r e
  exact .inl ⟨rfl, vs, SqL.of h1⟩
theorem m_strip : MtR X "str.strip" (rM X.K X.mg (mtS m .strip)) := by
  refine MtR.imp mt_stripChars fun x xs H Q h => ?_
  obtain ⟨z, ρ, hd, ds, rfl, mo, r, k⟩ := rM_str rfl h
  unfold mtA at k
  dsimp only at k
  split at k
  · rename_i y
    have e := rds_str r
    subst e
    split at k
    · rename_i hl
      refine ⟨tx z, tx y, rfl, rfl, hl, ?_⟩
      have e : Txt.stripChars (tx z) (tx y) = tx (stpL y z) := by
        unfold Txt.stripChars
        rw [stripBy_eq]
        refine TL.ext_tl ?_
        rw [TL.tl_strSub, tl_tx, tl_tx]
        unfold stpL stpA stpB
        simp [stripLo, stripHi, tx_toList, stpA]
        rfl
      rw [e]
      exact Fin.same mo k (.str _)
    · exact absurd k id
  · exact absurd k id
/-- the methods' names, types, identities -/
def mtName : MT → Str
  | .join => "join" | .split => "split" | .partition => "partition" | .rpartition => "rpartition" | .removeprefix => "removeprefix" | .startswith => "startswith" | .strip => "strip"
  | .append => "append" | .extend => "extend" | .pop => "pop" | .replace => "replace" | .index => "index" | .count => "count"
def mtFine : MT → Bool
  | .join | .split | .partition | .rpartition | .removeprefix | .startswith | .strip | .append | .extend | .pop => true
  | _ => false
/-- what a method of a built-in is -/
def MtF (X : Cx) (m : Bool) (f : MT) : Prop := ∃ T id, PlainAttrs T ∧ Slot T (mtName f) id ∧ typeOf (.builtin id) = pure (.type "method_descriptor") ∧ MtR X id (rM X.K X.mg (mtS m f)) ∧
  ∀ (ρ : Rh) (H : Hp) (hd : Hd) d v, MOk X.K X.mg ρ H hd → RD X.K X.mg ρ H d v → tyOk f d hd = true → tyV X.K T v H
theorem mtF (m : Bool) (f : MT) (h : mtFine f = true) : MtF X m f := by
  cases f with
  | join => exact ⟨_, _, F.plainAttrs_str, F.slot_str_join, F.type_str_join, m_join, ty_str rfl⟩
  | split => exact ⟨_, _, F.plainAttrs_str, F.slot_str_split, F.type_str_split, m_split, ty_str rfl⟩
  | partition => exact ⟨_, _, F.plainAttrs_str, F.slot_str_partition, F.type_str_partition, m_partition, ty_str rfl⟩
  | rpartition => exact ⟨_, _, F.plainAttrs_str, F.slot_str_rpartition, F.type_str_rpartition, m_rpartition, ty_str rfl⟩
  | removeprefix => exact ⟨_, _, F.plainAttrs_str, F.slot_str_removeprefix, F.type_str_removeprefix, m_removeprefix, ty_str rfl⟩
  | startswith => exact ⟨_, _, F.plainAttrs_str, F.slot_str_startswith, F.type_str_startswith, m_startswith, ty_str rfl⟩
  | strip => exact ⟨_, _, F.plainAttrs_str, F.slot_str_strip, F.type_str_strip, m_strip, ty_str rfl⟩
  | append => exact ⟨_, _, F.plainAttrs_list, F.slot_list_append, F.type_list_append, m_append, ty_lst rfl⟩
  | extend => exact ⟨_, _, F.plainAttrs_list, F.slot_list_extend, F.type_list_extend, m_extend, ty_lst rfl⟩
  | pop => exact ⟨_, _, F.plainAttrs_list, F.slot_list_pop, F.type_list_pop, m_pop, ty_lst rfl⟩
  | _ => cases h
end
end Z
/-! Z9: built-ins by name, comparisons, isinstance. -/
namespace Z
open PySem L2 PySem.Spec PyProof.Rows

/-- of an instance -/
def onI (S : D → Hd → R D) (x : D) (hd : Hd) : R D := match x with
  | .ins C fs => S (.ins C fs) hd
  | _ => .bad
def onI2 (S : D → D → Hd → R D) (x y : D) (hd : Hd) : R D := match x with
  | .ins C fs => S (.ins C fs) y hd
  | _ => .bad
/-- of two tuples -/
def onT2 (S : List D → List D → Hd → R D) (x y : D) (hd : Hd) : R D := match x, y with
  | .tup xs, .tup ys => S xs ys hd
  | _, _ => .bad
/-- what instances do by their own methods -/
structure Own (X : Cx) (g : G) : Prop where
  str1 : CallR X (.type "str") (rN X.K X.mg (on1 (onI (strS g false))))
  repr1 : CallR X (.builtin "repr") (rN X.K X.mg (on1 (onI (strS g true))))
  bool1 : CallR X (.type "bool") (rN X.K X.mg (on1 (onI (boolS g))))
  eq1 : OpR X (compareOp .Eq) (r2 X.K X.mg (onI2 fun x y hd => (eqS g x y hd).bind fun b hd => .ok (.bl b) hd))
  eqT : OpR X (compareOp .Eq) (r2 X.K X.mg (onT2 fun xs ys hd => (eqI g xs ys hd).bind fun b hd => .ok (.bl b) hd))
  ne1 : OpR X (compareOp .NotEq) (r2 X.K X.mg (onI2 fun x y hd => (eqS g x y hd).bind fun b hd => .ok (.bl (!b)) hd))
/-- the ground: what every body may lean on -/
structure Gr (X : Cx) (g : G) : Prop where
  hc : X.calm = true
  hu : X.A.units + 66 < cLine
  hg : X.A.guards = some []
  hN : X.N.Nodup
  own : Own X g
  sm : SmOk X.K

section
variable {X : Cx} {g : G} {m : Bool}
theorem rN_mono {K : PySem.W.Frag} {mg : MG} {S S' : List D → Hd → R D} {xs : List V} {H : Hp} {Q : VK} (h : rN K mg S xs H Q) (i : ∀ ds hd P, OkR (S ds hd) P → OkR (S' ds hd) P) : rN K mg S' xs H Q := by
  obtain ⟨ρ, hd, ds, mo, r, k⟩ := h
  exact ⟨ρ, hd, ds, mo, r, i ds hd _ k⟩
/-- by the value of the one argument -/
theorem rN_or {K : PySem.W.Frag} {mg : MG} {S A B : List D → Hd → R D} {xs : List V} {H : Hp} {Q : VK} (h : rN K mg S xs H Q) (i : ∀ ds hd P, OkR (S ds hd) P → OkR (A ds hd) P ∨ OkR (B ds hd) P) : rN K mg A xs H Q ∨ rN K mg B xs H Q := by
  obtain ⟨ρ, hd, ds, mo, r, k⟩ := h
  rcases i ds hd _ k with k | k
  · exact .inl ⟨ρ, hd, ds, mo, r, k⟩
  · exact .inr ⟨ρ, hd, ds, mo, r, k⟩
theorem bi1 {f : BI} {A : List D → Hd → R D} (h : ∀ x hd, A [x] hd = biS1 g m f x hd) (h2 : ∀ x y hd, biS2 f x y hd = .bad) (ds : List D) (hd : Hd) (P : D → Hd → Prop) (k : OkR (biS g m f ds hd) P) : OkR (A ds hd) P := by
  unfold biS at k
  split at k
  · rw [h]; exact k
  · rw [h2] at k; exact absurd k id
  · exact absurd k id
theorem bi2 {f : BI} {A : List D → Hd → R D} (h : ∀ x y hd, A [x, y] hd = biS2 f x y hd) (h2 : ∀ x hd, biS1 g m f x hd = .bad) (ds : List D) (hd : Hd) (P : D → Hd → Prop) (k : OkR (biS g m f ds hd) P) : OkR (A ds hd) P := by
  unfold biS at k
  split at k
  · rw [h2] at k; exact absurd k id
  · rw [h]; exact k
  · exact absurd k id
def biVal : BI → Value
  | .len => .builtin "len" | .abs => .builtin "abs" | .int => .type "int" | .bool => .type "bool" | .str => .type "str" | .repr => .builtin "repr" | .all => .builtin "all" | .any => .builtin "any"
  | .tuple => .type "tuple" | .list => .type "list" | .max => .builtin "max" | .min => .builtin "min" | .divmod => .builtin "divmod"
def biName : BI → Str
  | .len => "len" | .abs => "abs" | .int => "int" | .bool => "bool" | .str => "str" | .repr => "repr" | .all => "all" | .any => "any"
  | .tuple => "tuple" | .list => "list" | .max => "max" | .min => "min" | .divmod => "divmod"
theorem bi_boot (f : BI) : bootBuiltins (biName f) = some (biVal f) := by
  cases f with
  | len => exact boot_len
  | abs => exact boot_abs
  | int => exact boot_int
  | bool => exact boot_bool
  | str => exact boot_str
  | repr => exact boot_repr
  | all => exact boot_all
  | any => exact boot_any
  | tuple => exact boot_tuple
  | list => exact boot_list
  | max => exact boot_max
  | min => exact boot_min
  | divmod => exact boot_divmod
theorem biF (r : Gr X g) (f : BI) : CallR X (biVal f) (rN X.K X.mg (biS g m f)) := by
  cases f with
  | len => exact CallR.imp c_len fun xs H Q h => rN_mono h (bi1 (fun _ _ => rfl) fun _ _ _ => rfl)
  | abs => exact CallR.imp c_abs fun xs H Q h => rN_mono h (bi1 (fun _ _ => rfl) fun _ _ _ => rfl)
  | int => exact CallR.imp c_int fun xs H Q h => rN_mono h (bi1 (fun _ _ => rfl) fun _ _ _ => rfl)
  | tuple =>
    refine CallR.imp (CallR.or c_tuple (c_tupD r.hc)) fun xs H Q h => rN_or h fun ds hd P k => ?_
    unfold biS at k
    split at k
    · rename_i x
      unfold biS1 at k
      dsimp only at k
      cases e : items hd x with
      | some xs =>
        rw [e] at k
        refine .inl ?_
        show OkR (match items hd x with | some xs => R.ok (D.tup xs) hd | none => .bad) P
        rw [e]
        exact k
      | none =>
        rw [e] at k
        cases x with
        | dic kvs => exact .inr k
        | _ => exact absurd k id
    · exact absurd k id
    · exact absurd k id
  | list => exact CallR.imp (c_list r.hc m) fun xs H Q h => rN_mono h (bi1 (fun _ _ => rfl) fun _ _ _ => rfl)
  | all => exact CallR.imp (c_all r.hc) fun xs H Q h => rN_mono h (bi1 (fun _ _ => rfl) fun _ _ _ => rfl)
  | any => exact CallR.imp (c_any r.hc) fun xs H Q h => rN_mono h (bi1 (fun _ _ => rfl) fun _ _ _ => rfl)
  | max => exact CallR.imp (c_max r.hc) fun xs H Q h => rN_mono h (bi2 (fun _ _ _ => rfl) fun _ _ => rfl)
  | min => exact CallR.imp (c_min r.hc) fun xs H Q h => rN_mono h (bi2 (fun _ _ _ => rfl) fun _ _ => rfl)
  | divmod => exact CallR.imp c_divmod fun xs H Q h => rN_mono h (bi2 (fun _ _ _ => rfl) fun _ _ => rfl)
  | bool =>
    refine CallR.imp r.own.bool1 fun xs H Q h => rN_mono h (bi1 (fun x hd => ?_) fun _ _ _ => rfl)
    cases x <;> rfl
  | str =>
    refine CallR.imp (CallR.or c_strI r.own.str1) fun xs H Q h => rN_or h fun ds hd P k => ?_
    unfold biS at k
    split at k
    · rename_i x
      cases x with
      | int i => exact .inl k
      | ins C fs => exact .inr k
      | _ => exact absurd k id
    · exact absurd k id
    · exact absurd k id
  | repr =>
    refine CallR.imp (CallR.or (c_repr r.sm r.hg r.hu) r.own.repr1) fun xs H Q h => rN_or h fun ds hd P k => ?_
    unfold biS at k
    split at k
    · rename_i x
      cases x with
      | ins C fs => exact .inr k
      | _ => exact .inl k
    · exact absurd k id
    · exact absurd k id
theorem pe_biZ {W : WX} {f : BI} {e : Expr} {es : List Expr} {mr : Env → Hd → R (List D)} {p pos : Pos} (r : Gr X g) (hg : Gl X (biName f)) (hm : X.mg (biName f) = none) (ha : PA X (e :: es) (rdA X.K X.mg W mr))
    (he : starEach (e :: es) X.env = (false, eval e X.env) :: starEach es X.env) (hpl : (backTo pos (starEach es X.env)).any (·.1) = false) :
    PE X (.Call (.Name (biName f) p) (e :: es) [] pos) (rd X.K X.mg W fun env hd => (mr env hd).bind fun xs hd => (biS g m f xs hd).st) := by
  have fin : ∀ σ H Q, rd X.K X.mg W (fun env hd => (mr env hd).bind fun xs hd => (biS g m f xs hd).st) σ H Q → tCB (rN X.K X.mg (biS g m f)) (rdA X.K X.mg W mr) σ H Q := fun σ H Q ⟨ρ, env, hd, re, mo, k⟩ =>
    ⟨ρ, env, hd, re, mo, k.bind.imp fun xs h1 ρ1 H1 ⟨e1, m1, k1⟩ vs rvs => ⟨ρ1, h1, xs, m1, rvs, k1.st⟩⟩
  have hn : biName f ≠ "__name__" := by cases f <;> decide
  have hdb : (biName f == ("__debug__" : Str)) = false := by cases f <;> decide
  have hv := bi_boot f
  have hF := biF (m := m) r f
  cases f <;> first
    | exact (pe_callB hF hg hm hv ha hn hdb he hpl).imp fin
    | exact (pe_callTy hF hg hm hv ha hn hdb he hpl).imp fin

/-! ### comparisons -/
theorem cmpF (r : Gr X g) (op : CmpOp) : OpR X (compareOp op) (r2 X.K X.mg (cmpS g op)) := by
  cases op with
  | Eq =>
    refine OpR.imp (OpR.or (OpR.or (op_eqZ r.hu) r.own.eq1) r.own.eqT) fun x y H Q ⟨ρ, hd, dx, dy, mo, rx, ry, k⟩ => ?_
    cases dx with
    | ins C fs => exact .inl (.inr ⟨ρ, hd, _, dy, mo, rx, ry, k⟩)
    | tup xs =>
      have k : OkR ((eqS2 g (.tup xs) dy hd).bind fun b hd => .ok (.bl b) hd) (Fin X.K X.mg ρ H Q) := k
      unfold eqS2 at k
      dsimp only at k
      cases e : eqd hd (.tup xs) dy with
      | some b =>
        rw [e] at k
        refine .inl (.inl ⟨ρ, hd, _, dy, mo, rx, ry, ?_⟩)
        show OkR ((R.of (eqd hd (.tup xs) dy) hd).bind fun b hd => R.ok (D.bl b) hd) (Fin X.K X.mg ρ H Q)
        rw [e]
        exact k
      | none =>
        rw [e] at k
        cases dy with
        | tup ys => exact .inr ⟨ρ, hd, _, _, mo, rx, ry, k⟩
        | _ => exact absurd k id
    | _ => exact .inl (.inl ⟨ρ, hd, _, dy, mo, rx, ry, k⟩)
  | NotEq =>
    refine OpR.imp (OpR.or (op_neZ r.hu) r.own.ne1) fun x y H Q ⟨ρ, hd, dx, dy, mo, rx, ry, k⟩ => ?_
    cases dx with
    | ins C fs => exact .inr ⟨ρ, hd, _, dy, mo, rx, ry, k⟩
    | _ => exact .inl ⟨ρ, hd, _, dy, mo, rx, ry, k⟩
  | Lt => exact op_ltZ
  | LtE => exact op_leZ
  | Gt => exact op_gtZ
  | GtE => exact op_geZ
  | Is => exact op_isZ
  | IsNot => exact op_isNotZ
  | In => exact op_inZ r.hu
  | NotIn => exact op_notInZ r.hu
theorem cmpB (op : CmpOp) : Bls (cmpS g op) := by
  intro x y hd d h e
  cases op with
  | Eq =>
    obtain ⟨b, h1, _, e⟩ := ok_bind (show (eqS2 g x y hd).bind _ = _ from e)
    cases e
    exact ⟨_, rfl⟩
  | NotEq =>
    obtain ⟨b, h1, _, e⟩ := ok_bind (show (eqS g x y hd).bind _ = _ from e)
    cases e
    exact ⟨_, rfl⟩
  | In =>
    obtain ⟨b, h1, _, e⟩ := ok_bind (show (R.of (inS hd x y) hd).bind _ = _ from e)
    cases e
    exact ⟨_, rfl⟩
  | NotIn =>
    obtain ⟨b, h1, _, e⟩ := ok_bind (show (R.of (inS hd x y) hd).bind _ = _ from e)
    cases e
    exact ⟨_, rfl⟩
  | Is =>
    simp only [cmpS, isS] at e
    split at e
    · split at e <;> first | (cases e; done) | exact ⟨_, (R.ok.inj e).1.symm⟩
    · cases e
  | IsNot =>
    simp only [cmpS, isS] at e
    split at e
    · split at e <;> first | (cases e; done) | exact ⟨_, (R.ok.inj e).1.symm⟩
    · cases e
  | _ =>
    simp only [cmpS] at e
    split at e <;> first | (cases e; done) | exact ⟨_, (R.ok.inj e).1.symm⟩
end

/-! ### classes -/
def tyNames : List String := ["NoneType", "bool", "int", "str", "tuple", "list", "dict"]
def isNames : List String := ["str", "bool", "tuple"]
/-- a class of the table -/
structure ClsF (K : PySem.W.Frag) (mg : MG) (C : String) (c : Cl) (a : Addr) : Prop where
  mg_ : mg (nm C) = some (.ref a)
  cls : Cls K a
  cga : PySem.W.findIn K (.ref a) "__class__" = some (some (.builtin "object.__class__"))
  cgs : PySem.W.specialIn K (.builtin "object.__class__") "__get__" = some (some (.builtin "getset_descriptor.__get__"))
  ctk : PySem.W.takesIn K (.builtin "object.__class__") = some true
  cmo : PySem.W.mroIn K a (.type "object") = some true
  isT : ∀ t ∈ tyNames, PySem.W.kitOne K (.type t) (.ref a) = some false
  tyI : ∀ n ∈ isNames, PySem.W.kitOne K (.ref a) (.type n) = some false
  noat : ∀ f ∈ c.flds, c.own.lookup f = none → NoAttr K a (nm f)
  nf : ∀ t ∈ tyNames, PySem.W.notFirst K a (.type t) = true
  nb : c.own.lookup "__bool__" = none → NoAttr K a "__bool__"
  nl : c.own.lookup "__len__" = none → NoAttr K a "__len__"
  ne : c.own.lookup "__eq__" = some .meth → PySem.W.findIn K (.ref a) "__ne__" = some (some (.builtin "object.__ne__"))
/-- the classes -/
structure TF (K : PySem.W.Frag) (mg : MG) (T : Tab) : Prop where
  cl : ∀ C c, T.cl C = some c → ∃ a, ClsF K mg C c a
  two : ∀ C c C' c' a a', T.cl C = some c → T.cl C' = some c' → mg (nm C) = some (.ref a) → mg (nm C') = some (.ref a') → PySem.W.kitOne K (.ref a) (.ref a') = some (C == C')
  nf2 : ∀ C c C' c' a a', T.cl C = some c → T.cl C' = some c' → mg (nm C) = some (.ref a) → mg (nm C') = some (.ref a') → PySem.W.notFirst K a (.ref a') = true
section
variable {X : Cx} {W : WX} {g : G} {a : Expr} {ma : Env → Hd → R D} {p p2 pos : Pos}
theorem kitB_ty (t : String) (ht : t ∈ tyNames) (n : String) (hn : n ∈ isNames) : PySem.W.kitOne X.K (.type t) (.type n) = some (t == n) := by
  refine kit_ty ?_
  have h : ∀ t ∈ tyNames, ∀ n ∈ isNames, kitB t n = some (t == n) := by decide +kernel
  exact h t ht n hn
theorem tyX_of {ρ : Rh} {H : Hp} {hd : Hd} {d : D} {v : V} {t : String} (mo : MOk X.K X.mg ρ H hd) (r : RD X.K X.mg ρ H d v) (e : tyD hd d = some t) : t ∈ tyNames ∧ TyX X.K H v (.type t) := by
  cases r with
  | non => cases e; exact ⟨by decide, .base .non⟩
  | bl b => cases e; exact ⟨by decide, .base (.bl b)⟩
  | int i => cases e; exact ⟨by decide, .base (.int i)⟩
  | str x => cases e; exact ⟨by decide, .base (.str _)⟩
  | tup n h q => cases e; exact ⟨by decide, .base (.tup h)⟩
  | lst n h q => cases e; exact ⟨by decide, .base (.lst h)⟩
  | dic n h q => cases e; exact ⟨by decide, .base (.dK h)⟩
  | row h =>
    cases e
    refine ⟨by decide, ?_⟩
    rcases h with ⟨_, h | ⟨o, h⟩⟩ | ⟨o, its, n, hk, hc, _⟩
    · exact .base (.lst h)
    · exact .base (.frz h)
    · exact .kList hk hc
  | @obj n a h =>
    simp only [tyD] at e
    split at e
    · rename_i q
      cases e
      have m := mo.at_ _ _ _ h q
      cases m with
      | lst h q => exact ⟨by decide, .base (.lst h)⟩
    · rename_i q
      cases e
      have m := mo.at_ _ _ _ h q
      cases m with
      | dic h q => exact ⟨by decide, .base (.dK h)⟩
    · cases e
  | _ => cases e
theorem ins_of {ρ : Rh} {H : Hp} {hd : Hd} {d : D} {v : V} {C : String} (mo : MOk X.K X.mg ρ H hd) (r : RD X.K X.mg ρ H d v) (e : insOf hd d = some C) : ∃ b c dx gs, v = .ref b ∧ X.mg (nm C) = some (.ref c) ∧ H b = some (.ins c dx gs) := by
  cases r with
  | ins n g h q => cases e; exact ⟨_, _, _, _, rfl, g, h⟩
  | @obj n a h =>
    simp only [insOf] at e
    split at e
    · rename_i q
      cases e
      have m := mo.at_ _ _ _ h q
      cases m with
      | ins g h q => exact ⟨_, _, _, _, rfl, g, h⟩
    · cases e
  | _ => cases e
theorem isi_of {own : Bool} {c : String} {ρ : Rh} {H : Hp} {hd : Hd} {d : D} {v : V} {b : Bool} {u : Value} (tf : TF X.K X.mg g.T) (hu : if own then X.mg (nm c) = some u else u = .type c) (mo : MOk X.K X.mg ρ H hd) (r : RD X.K X.mg ρ H d v)
    (e : isiS g own c d hd = some b) : ∃ t, TyX X.K H v t ∧ PySem.W.kitOne X.K t u = some b ∧ (own = true → ∃ a, u = .ref a) := by
  unfold isiS at e
  split at e
  · rename_i t ht
    obtain ⟨h1, h2⟩ := tyX_of mo r ht
    split at e
    · rename_i ho
      rw [if_pos ho] at hu
      split at e
      · rename_i hs
        cases e
        obtain ⟨k, hk⟩ := Option.isSome_iff_exists.mp hs
        obtain ⟨a, F⟩ := tf.cl c k hk
        have : u = .ref a := Option.some.inj (hu.symm.trans F.mg_)
        subst this
        exact ⟨_, h2, F.isT t h1, fun _ => ⟨a, rfl⟩⟩
      · cases e
    · rename_i ho
      rw [if_neg ho] at hu
      subst hu
      split at e
      · rename_i hs
        cases e
        exact ⟨_, h2, kitB_ty t h1 c hs, fun h => absurd h ho⟩
      · cases e
  · split at e
    · rename_i C hC
      obtain ⟨ba, cc, dx, gs, rfl, hm, hH⟩ := ins_of mo r hC
      split at e
      · rename_i hs0
        obtain ⟨k0, hk0⟩ := Option.isSome_iff_exists.mp hs0
        obtain ⟨a0, F0⟩ := tf.cl C k0 hk0
        have e0 : cc = a0 := by
          have := hm.symm.trans F0.mg_
          cases this
          rfl
        subst e0
        have ty : TyX X.K H (.ref ba) (.ref cc) := .base (.ins hH F0.cls F0.cga F0.cgs F0.ctk F0.cmo)
        split at e
        · rename_i ho
          rw [if_pos ho] at hu
          split at e
          · rename_i hs
            cases e
            obtain ⟨k, hk⟩ := Option.isSome_iff_exists.mp hs
            obtain ⟨a, F⟩ := tf.cl c k hk
            have : u = .ref a := Option.some.inj (hu.symm.trans F.mg_)
            subst this
            exact ⟨_, ty, tf.two C k0 c k cc a hk0 hk hm F.mg_, fun _ => ⟨a, rfl⟩⟩
          · cases e
        · rename_i ho
          rw [if_neg ho] at hu
          subst hu
          split at e
          · rename_i hs
            cases e
            exact ⟨_, ty, F0.tyI c hs, fun h => absurd h ho⟩
          · cases e
      · cases e
    · cases e
/-- isinstance(a, c) -/
theorem pe_isiZ {own : Bool} {c : String} {u : Value} {vc : V} {es : List Expr} (tf : TF X.K X.mg g.T) (hgi : Gl X "isinstance") (hmi : X.mg "isinstance" = none) (hc : PE X (.Name (nm c) p2) (tC vc)) (hv : ClsV vc u) (hu : if own then X.mg (nm c) = some u else u = .type c)
    (ha : PE X a (rd X.K X.mg W ma)) (he : starEach [a, .Name (nm c) p2] X.env = (false, eval a X.env) :: starEach [.Name (nm c) p2] X.env) (he2 : starEach [.Name (nm c) p2] X.env = (false, eval (.Name (nm c) p2) X.env) :: starEach [] X.env)
    (hpl : (backTo pos (starEach [.Name (nm c) p2] X.env)).any (·.1) = false) :
    PE X (.Call (.Name "isinstance" p) [a, .Name (nm c) p2] [] pos) (rd X.K X.mg W fun env hd => (ma env hd).bind fun x hd => (R.of (isiS g own c x hd) hd).bind fun b hd => .ok (.bl b) hd) :=
  (pe_callB call_isi hgi hmi boot_isinstance (pa_cons ha (pa_cons hc pa_nil he2) he) (by decide) (by decide) he hpl).imp fun σ H Q ⟨ρ, env, hd, re, mo, k⟩ => ⟨ρ, env, hd, re, mo, k.bind.imp fun x h1 ρ1 H1 ⟨e1, m1, k1⟩ v rv => by
    cases e : isiS g own c x h1 with
    | none => rw [e] at k1; exact k1.elim
    | some b =>
      rw [e] at k1
      obtain ⟨t, h1, h2, _⟩ := isi_of tf hu m1 rv e
      exact ⟨v, vc, t, u, b, rfl, hv, h1, h2, k1 ρ1 H1 .refl m1 _ (.bl b)⟩⟩
end
end Z
/-! Z10: targets; what is walked. -/
namespace Z
open PySem L2 PySem.Spec PyProof.Rows

theorem wipe_get : ∀ (own : List Nat) (σ : L2.St) (j : Nat), (L2.wipe σ own)[j]? = if j ∈ own then (σ[j]?).map (fun _ => none) else σ[j]?
  | [], σ, j => by
    rw [if_neg (List.not_mem_nil)]
    rfl
  | v :: vs, σ, j => by
    show ((L2.wipe σ vs).set v none)[j]? = _
    by_cases h : v = j
    · subst h
      rw [List.getElem?_set, if_pos rfl, if_pos (List.mem_cons_self ..)]
      have hl : (L2.wipe σ vs).length = σ.length := wipe_length σ vs
      by_cases hv : v < σ.length
      · rw [if_pos (by omega), List.getElem?_eq_getElem hv]
        rfl
      · rw [if_neg (by omega), List.getElem?_eq_none (by omega)]
        rfl
    · rw [List.getElem?_set_ne h, wipe_get vs σ j]
      by_cases hj : j ∈ vs
      · rw [if_pos hj, if_pos (List.mem_cons_of_mem _ hj)]
      · rw [if_neg hj, if_neg (by rw [List.mem_cons]; exact fun z => z.elim (fun e => h e.symm) hj)]
theorem wipe_put {own : List Nat} {σ : L2.St} {i : Nat} {x : Option V} (h : i ∈ own) : L2.wipe (σ.set i x) own = L2.wipe σ own := by
  apply List.ext_getElem?
  intro j
  rw [wipe_get, wipe_get]
  by_cases hj : j ∈ own
  · rw [if_pos hj, if_pos hj]
    by_cases e : i = j
    · subst e
      rw [List.getElem?_set, if_pos rfl]
      by_cases hl : i < σ.length
      · rw [if_pos hl, List.getElem?_eq_getElem hl]
        rfl
      · rw [if_neg hl, List.getElem?_eq_none (by omega)]
    · rw [List.getElem?_set_ne e]
  · rw [if_neg hj, if_neg hj, List.getElem?_set_ne (fun e => hj (by rw [← e]; exact h))]
/-- a store; own: the slots that it may touch -/
def rdG (K : PySem.W.Frag) (mg : MG) (own : List Nat) (sto : D → Env → Hd → Option Env) : TG := fun v σ H Q => ∃ ρ env hd d env', REnv K mg ρ H env σ ∧ MOk K mg ρ H hd ∧ RD K mg ρ H d v ∧ sto d env hd = some env' ∧
  ∀ σ' ρ' H', Ext ρ H ρ' H' → MOk K mg ρ' H' hd → REnv K mg ρ' H' env' σ' → L2.wipe σ' own = L2.wipe σ own → Q σ' H'
theorem pg_imp {X : Cx} {e : Expr} {t t' : TG} (h : PG X e t) (i : ∀ v σ H Q, t' v σ H Q → t v σ H Q) : PG X e t' := ⟨fun pins s σ H v u Q I r q => h.run pins s σ H v u Q I r (i v σ H Q q)⟩
theorem pg_or {X : Cx} {e : Expr} {t t' : TG} (h : PG X e t) (h' : PG X e t') : PG X e (fun v σ H Q => t v σ H Q ∨ t' v σ H Q) := ⟨fun pins s σ H v u Q I r q => q.elim (h.run pins s σ H v u Q I r) (h'.run pins s σ H v u Q I r)⟩
theorem pgs_imp {X : Cx} {e : List Expr} {t t' : TGs} (h : PGs X e t) (i : ∀ v σ H Q, t' v σ H Q → t v σ H Q) : PGs X e t' := ⟨fun pins s σ H v u Q I r q => h.run pins s σ H v u Q I r (i v σ H Q q)⟩
/-- a name that is stored -/
structure NmOk (X : Cx) (i : Nat) (x : Str) : Prop where
  at_ : X.N[i]? = some x
  loc : Loc X.env.scope x
  fn : X.fn x = true ∨ X.env.scope.names.lookup x = some .local
section
variable {X : Cx} {pos : Pos} {own : List Nat}
theorem pg_nameZ {i : Nat} {x : Str} (hN : X.N.Nodup) (h : NmOk X i x) (ho : i ∈ own) : PG X (.Name x pos) (rdG X.K X.mg own (storeS (.name i))) :=
  pg_imp (pg_name hN h.at_ h.loc h.fn) fun v σ H Q ⟨ρ, env, hd, d, env', re, mo, rv, e, q⟩ => by
    cases e
    exact q _ ρ H .refl mo (re.set i rv) (wipe_put ho)
/-- names, one after another -/
inductive NmsOk (X : Cx) : List Nat → List Expr → Prop where
  | nil : NmsOk X [] []
  | cons {i : Nat} {x : Str} {p : Pos} {is : List Nat} {es : List Expr} : NmOk X i x → NmsOk X is es → NmsOk X (i :: is) (.Name x p :: es)
theorem pgs_namesZ (hN : X.N.Nodup) : ∀ {is : List Nat} {es : List Expr}, NmsOk X is es → (∀ i ∈ is, i ∈ own) →
    PGs X es (fun vs σ H Q => ∃ ρ env hd ds, REnv X.K X.mg ρ H env σ ∧ MOk X.K X.mg ρ H hd ∧ RDs X.K X.mg ρ H ds vs ∧ ds.length = is.length ∧ ∀ σ', REnv X.K X.mg ρ H (setAll env is ds) σ' → L2.wipe σ' own = L2.wipe σ own → Q σ' H)
  | _, _, .nil, _ => pgs_imp pgs_nil fun vs σ H Q ⟨ρ, env, hd, ds, re, mo, r, l, q⟩ => by
    cases r with
    | nil => exact ⟨rfl, q σ re rfl⟩
    | cons _ _ => simp at l
  | _, _, .cons (i := i) (x := x) (is := is) h hs, ho => by
    refine pgs_imp (pgs_cons (pg_name hN h.at_ h.loc h.fn) (pgs_namesZ hN hs fun j hj => ho j (List.mem_cons_of_mem _ hj)) rfl) fun vs σ H Q ⟨ρ, env, hd, ds, re, mo, r, l, q⟩ => ?_
    cases r with
    | nil => simp at l
    | cons r rr =>
      rename_i d v ds vs _
      exact ⟨v, vs, rfl, ρ, env.set i (some d), hd, ds, re.set i r, mo, rr, by simpa using l, fun σ' re' w => q σ' re' (w.trans (wipe_put (ho i (List.mem_cons_self ..))))⟩
theorem nms_len : ∀ {is : List Nat} {es : List Expr}, NmsOk X is es → (assignEach es X.env).length = is.length
  | _, _, .nil => rfl
  | _, _, .cons (p := p) (es := es) (x := x) h hs => by
    have e : assignEach (.Name x p :: es) X.env = (false, assign (.Name x p) X.env) :: assignEach es X.env := rfl
    rw [e, List.length_cons, List.length_cons, nms_len hs]
theorem nms_star : ∀ {is : List Nat} {es : List Expr}, NmsOk X is es → (assignEach es X.env).findIdx? (·.1) = none
  | _, _, .nil => rfl
  | _, _, .cons (p := p) (es := es) (x := x) h hs => by
    have e : assignEach (.Name x p :: es) X.env = (false, assign (.Name x p) X.env) :: assignEach es X.env := rfl
    rw [e, List.findIdx?_cons, nms_star hs]
    rfl
theorem pg_namesZ {is : List Nat} {es : List Expr} {k : Nat} (hc : X.calm = true) (hN : X.N.Nodup) (h : NmsOk X is es) (ho : ∀ i ∈ is, i ∈ own) : PG X (.Tuple es k pos) (rdG X.K X.mg own (storeS (.names is))) := by
  have hs := pgs_namesZ hN h ho
  refine pg_imp (pg_or (pg_tup hc hs (nms_len h) (nms_star h)) (pg_unl hc hs (nms_len h) (nms_star h))) fun v σ H Q ⟨ρ, env, hd, d, env', re, mo, rv, e, q⟩ => ?_
  simp only [storeS] at e
  split at e
  · rename_i xs e1
    split at e
    · rename_i hl
      cases e
      obtain ⟨a, vs, rfl, r, hh⟩ := seq_of mo rv e1
      have fin : ∃ ρ env hd ds, REnv X.K X.mg ρ H env σ ∧ MOk X.K X.mg ρ H hd ∧ RDs X.K X.mg ρ H ds vs ∧ ds.length = is.length ∧ ∀ σ', REnv X.K X.mg ρ H (setAll env is ds) σ' → L2.wipe σ' own = L2.wipe σ own → Q σ' H :=
        ⟨ρ, env, hd, xs, re, mo, r, hl, fun σ' re' w => q σ' ρ H .refl mo re' w⟩
      rcases hh with ⟨_, hh⟩ | ⟨_, hh⟩
      · exact .inl ⟨a, vs, rfl, SqT.of hh, by rw [← r.length]; exact hl, fin⟩
      · exact .inr ⟨a, vs, rfl, hh, by rw [← r.length]; exact hl, fin⟩
    · cases e
  · cases e
end

/-! ### what is walked -/
/-- J gives the items vs, whatever the heap grows to -/
structure Wk (K : PySem.W.Frag) (mg : MG) (J : It) (ρ : Rh) (H0 : Hp) (vs : List D) : Prop where
  go : ∀ i ρ' H', i < vs.length → Wx ρ H0 ρ' H' → J.go i H'
  stop : ∀ ρ' H', Wx ρ H0 ρ' H' → J.stop vs.length H'
  yld : ∀ i ρ' H' x H'' hd d, Wx ρ H0 ρ' H' → MOk K mg ρ' H' hd → vs[i]? = some d → J.yld i H' x H'' → Ext ρ' H' ρ' H'' ∧ MOk K mg ρ' H'' hd ∧ RD K mg ρ' H'' d x
section
variable {K : PySem.W.Frag} {mg : MG} {ρ : Rh} {H : Hp}
theorem SqT.wx {ρ' : Rh} {H' : Hp} {a : Addr} {xs : List V} (e : Wx ρ H ρ' H') (n : a ∉ ρ) (h : H a = some (.tup xs)) : SqT K H' a xs := SqT.of (e.keep a _ h n (fun ps z => by cases z)).2
theorem wk_tup {a : Addr} {xs : List D} {vs : List V} (n : a ∉ ρ) (h : H a = some (.tup vs)) (r : RDs K mg ρ H xs vs) : Wk K mg (Itt K a) ρ H xs where
  go := fun i ρ' H' hi e => walk_tup.goes i H' (by rw [← r.length]; exact hi) (SqT.wx e n h)
  stop := fun ρ' H' e => by rw [r.length]; exact walk_tup.stops H' (SqT.wx e n h)
  yld := fun i ρ' H' x H'' hd d e mo hv y => by
    obtain ⟨w, hw, rw'⟩ := r.get hv
    have hi : i < vs.length := (List.getElem?_eq_some_iff.mp hw).1
    obtain ⟨q1, q2⟩ := walk_tup.yields i H' x H'' hi (SqT.wx (K := K) e n h) y
    subst q1
    rw [hw] at q2
    cases q2
    exact ⟨.refl, mo, rw'.wx e⟩
theorem wk_lst {a : Addr} {xs : List D} {vs : List V} (h : SqR K ρ H a vs) (r : RDs K mg ρ H xs vs) : Wk K mg (Itl K a) ρ H xs where
  go := fun i ρ' H' hi e => walk_list.goes i H' (by rw [← r.length]; exact hi) (h.wx e).sq
  stop := fun ρ' H' e => by rw [r.length]; exact walk_list.stops H' (h.wx e).sq
  yld := fun i ρ' H' x H'' hd d e mo hv y => by
    obtain ⟨w, hw, rw'⟩ := r.get hv
    have hi : i < vs.length := (List.getElem?_eq_some_iff.mp hw).1
    obtain ⟨q1, q2⟩ := walk_list.yields i H' x H'' hi (h.wx e).sq y
    subst q1
    rw [hw] at q2
    cases q2
    exact ⟨.refl, mo, rw'.wx e⟩
theorem wk_str {z : List Nat} : Wk K mg (Its (tx z)) ρ H (z.map fun c => .str [c]) where
  go := fun i ρ' H' hi e => by
    rw [List.length_map] at hi
    exact hi
  stop := fun ρ' H' e => by
    rw [List.length_map]
    exact Nat.le_refl _
  yld := fun i ρ' H' x H'' hd d e mo hv y => by
    obtain ⟨q1, c, hc, q2⟩ := y
    subst q1 q2
    rw [List.getElem?_map] at hv
    have hc' : z[i]? = some c := by simpa using hc
    rw [hc'] at hv
    cases hv
    exact ⟨.refl, mo, .str [c]⟩
theorem wk_rng {lo : Int} {n : Nat} : Wk K mg (Itr lo n) ρ H ((List.range n).map fun (i : Nat) => .int (lo + (i : Int))) where
  go := fun i ρ' H' hi e => by
    rw [List.length_map, List.length_range] at hi
    exact hi
  stop := fun ρ' H' e => by
    rw [List.length_map, List.length_range]
    exact Nat.le_refl _
  yld := fun i ρ' H' x H'' hd d e mo hv y => by
    obtain ⟨q1, q2⟩ := y
    subst q1 q2
    rw [List.getElem?_map] at hv
    have hi : i < n := by
      cases q : (List.range n)[i]? with
      | none => rw [q] at hv; cases hv
      | some k =>
        have := (List.getElem?_eq_some_iff.mp q).1
        simpa using this
    rw [List.getElem?_range hi] at hv
    cases hv
    exact ⟨.refl, mo, .int _⟩
/-- pairs in new tuples -/
theorem wk_pair {J : It} {xs ys : List D} {fx fy : Nat → Option V} {n : Nat} {G : Hp → Prop} (w : Walk J n G (YPair fx fy)) (hG : ∀ ρ' H', Wx ρ H ρ' H' → G H') (hn : n = (xs.zip ys).length)
    (hx : ∀ i d ρ' H', Wx ρ H ρ' H' → xs[i]? = some d → ∀ v, fx i = some v → RD K mg ρ' H' d v) (hy : ∀ i d ρ' H', Wx ρ H ρ' H' → ys[i]? = some d → ∀ v, fy i = some v → RD K mg ρ' H' d v) :
    Wk K mg J ρ H ((xs.zip ys).map fun p => .tup [p.1, p.2]) where
  go := fun i ρ' H' hi e => w.goes i H' (by rw [hn]; simpa using hi) (hG ρ' H' e)
  stop := fun ρ' H' e => by
    rw [List.length_map, ← hn]
    exact w.stops H' (hG ρ' H' e)
  yld := fun i ρ' H' x H'' hd d e mo hv y => by
    have hi : i < n := by
      have := (List.getElem?_eq_some_iff.mp hv).1
      rw [hn]
      simpa using this
    obtain ⟨T, u, v, rfl, hT, rfl, h1, h2⟩ := w.yields i H' x H'' hi (hG ρ' H' e) y
    rw [List.getElem?_map] at hv
    cases q : (xs.zip ys)[i]? with
    | none => rw [q] at hv; cases hv
    | some p =>
      rw [q] at hv
      cases hv
      obtain ⟨q1, q2⟩ := List.getElem?_zip_eq_some.mp q
      have np := mo.notin hT
      have ex := Ext.new (o := .tup [u, v]) hT np
      exact ⟨ex, mo.new hT, .tup np upd_same (.cons ((hx i _ ρ' H' e q1 u h1).ext ex) (.cons ((hy i _ ρ' H' e q2 v h2).ext ex) .nil))⟩
end
end Z
/-! Z10s: x, *y = a list: the first item, and a new list of the others. -/
namespace ZN
open PySem
section
variable {pr : Program} {wo : World} {Ar : Around} {X : Value → Shared → Prop} {z : Shared} {l : Addr} {its : Array Value} {v : Value} {vs : List Value}
/-- of a list of one item at least -/
theorem unpack_first {Q : List Value → Shared → Prop} (at_ : z.heap.IsList l its) (calm : Ar.handled = none) (cut : its.toList = v :: vs) (small : its.size ≤ sizeLine)
    (en : ∀ (hp : Heap) (tk : Nat), (∀ b o, z.heap.get? b = some o → hp.get? b = some o) → Q [v, .ref hp.objs.size] { z with heap := hp.push { cls := .type "list", data := .seq vs.toArray }, toks := tk }) :
    wpAny (model pr wo) Ar (unpackItems (.ref l) 2 (some 1)) Q X z := by
  have size : its.size = vs.length + 1 := by rw [← Array.length_toList, cut, List.length_cons]
  have apart : l ≠ z.heap.objs.size := by
    obtain ⟨o, h, _⟩ := at_
    exact Nat.ne_of_lt (Heap.lt_size h)
  have walkable : wpAny (model pr wo) Ar (notIterableAtAll (.ref l)) (fun b z' => b = false ∧ z' = z) X z := by
    unfold notIterableAtAll
    exact wpAny_bind (wpAny_specialOf at_.typeIs slot_list_iter.lookup (wpAny_pure ⟨rfl, rfl⟩))
  unfold unpackItems
  refine wpAny_bind (wpAny_mono walkable (fun b z' e => ?_) fun _ _ e => e)
  obtain ⟨rfl, rfl⟩ := e
  simp only [Bool.false_eq_true, if_false]
  refine wpAny_bind (wpAny_holding (wpAny_pyIter_list at_ ?_))
  -- the first one
  refine wpAny_bind (wpAny_holding (PySem.W.kun_draw apart 1 0 _ _ ⟨_, Heap.get?_push_size _ rfl, rfl, rfl⟩ (at_.push _) (by omega) fun h1 it1 same1 => ?_))
  have still := (at_.push { cls := .type "list_iterator", data := .fields #[.ref l, .int 0 0] }).extBut same1.extBut apart
  have old1 : ∀ c o, z'.heap.get? c = some o → h1.get? c = some o := fun c o g => same1.extBut c o (Nat.ne_of_lt (Heap.lt_size g)) (Heap.get?_push_of_some _ g)
  rw [Nat.zero_add] at it1
  rw [cut]
  simp only [List.drop_zero, List.take_succ_cons, List.take_zero, List.length_cons, List.length_nil, Nat.lt_irrefl, if_false]
  -- the others
  have walk := Walks.list (prog := pr) (w := wo) (A := Ar.in1) calm z'.heap.objs.size l apart its
  have inside : z'.heap.objs.size < h1.objs.size := by
    obtain ⟨o, g, _⟩ := it1
    exact Heap.lt_size g
  have below : l < h1.objs.size := by
    obtain ⟨o, g, _⟩ := still
    exact Heap.lt_size g
  refine wpAny_bind (wpAny_holding (PySem.W.kun_collect (T := "list_iterator") (.inr (.inr (.inl rfl))) walk (fun i u st => st.1.typeIs) (k := 1) (by omega) ⟨it1, still⟩ inside below (fun h2 tk keep => ?_) small))
  have rest : its.toList.drop 1 = vs := by rw [cut, List.drop_succ_cons, List.drop_zero]
  have whole : List.take (vs.length - (2 - 1 - 1)) vs = vs := List.take_of_length_le (by omega)
  have none_ : List.drop (vs.length - (2 - 1 - 1)) vs = [] := List.drop_eq_nil_of_le (by omega)
  rw [rest, whole, none_, if_neg (by omega)]
  refine wpAny_bind (wpAny_newObj_type (wpAny_pure (en h2 tk fun c o g => keep c o (Nat.ne_of_lt (Heap.lt_size g)) (old1 c o g))) ?_)
  show vs.toArray.size ≤ sizeLine
  rw [List.size_toArray]
  omega
end
end ZN
namespace Z
open PySem L2 PySem.Spec PyProof.Rows
section
variable {X : Cx} {pos : Pos} {own : List Nat}
theorem pg_starZ {i j k : Nat} {x y : Str} {p1 p2 p3 : Pos} (hc : X.calm = true) (hN : X.N.Nodup) (hi : NmOk X i x) (hj : NmOk X j y) (oi : i ∈ own) (oj : j ∈ own) : PG X (.Tuple [.Name x p1, .Starred (.Name y p2) p3] k pos) (rdG X.K X.mg own (storeS (.star [i] j))) := by
  refine ⟨fun pins s σ H v u Q I r ⟨ρ, env, hd, d, env', re, mo, rv, e, q⟩ => ?_⟩
  cases d <;> first
    | (cases e; done)
    | skip
  rename_i xs
  cases xs with
  | nil => cases e
  | cons x0 xs =>
    have e : some ((env.set i (some x0)).set j (some (.lst xs))) = some env' := e
    cases e
    cases rv with
    | @lst a _ vs nin hH rds =>
      cases (show u = Value.ref a from r)
      cases rds with
      | cons r0 rds =>
        rename_i v0 vs
        have list : SqL X.K H a (v0 :: vs) := .inl (.inl hH)
        obtain ⟨its, vals, pl, small⟩ := I.list list
        cases vals with
        | cons ru vals =>
          rename_i u0 us
          have at_ : s.heap.IsList a (u0 :: us).toArray := by
            obtain ⟨o, m, e1, c, dd, qq⟩ := pl
            exact ⟨o, e1, c, m, qq⟩
          have most : us.length + 1 ≤ sizeLine := by rw [← Paired.length vals]; exact small
          have few : (u0 :: us).toArray.size ≤ sizeLine := by rw [List.size_toArray]; exact most
          rw [PyProof.Rows.assign_Tuple]
          refine wpAny_bind (wpAny_standAt ?_)
          unfold unpack
          show wpAny _ _ (holding [.ref a] (unpackItems (.ref a) 2 (some 1)) >>= _) _ _ _
          refine wpAny_bind (wpAny_holding (ZN.unpack_first at_ (I.ok.hd hc) rfl few fun hp tk old => ?_))
          have gone : s.heap.get? hp.objs.size = none := by
            cases e : s.heap.get? hp.objs.size with
            | none => rfl
            | some o => exact absurd (Heap.lt_size (old _ _ e)) (Nat.lt_irrefl _)
          have free : H hp.objs.size = none := I.hok.gone gone
          have ex : Ext ρ H ρ (upd H hp.objs.size (.lst vs)) := .new free (mo.notin free)
          have I1 : Inv X pins σ (upd H hp.objs.size (.lst vs)) { s with heap := hp.push { cls := .type "list", data := .seq us.toArray }, toks := tk } :=
            I.laidN (fun b o g => Heap.get?_push_of_some _ (old b o g)) gone free (show ObjOk X.prog X.w _ _ _ (.lst vs) from ⟨by rw [Paired.length vals]; omega, us, 0, vals, Heap.get?_push_size _ rfl⟩)
          exact (pgs_namesZ (own := own) hN (.cons hi (.cons (p := p2) hj .nil)) (by simp [oi, oj])).run pins _ σ _ [v0, .ref hp.objs.size] [u0, .ref hp.objs.size] Q I1 (.cons ru (.cons rfl .nil))
            ⟨ρ, env, hd, [x0, .lst xs], re.ext ex, mo.new free, .cons (r0.ext ex) (.cons (.lst (mo.notin free) upd_same (rds.ext ex)) .nil), rfl, fun σ' re' w => q σ' ρ _ ex (mo.new free) re' w⟩
end
end Z
/-! Z11: iterators. -/
namespace Z
open PySem L2 PySem.Spec PyProof.Rows

/-! ### enumerate over a tuple -/
set_option maxHeartbeats 1000000 in
theorem meets_enumB1 {v : Value} {o : Obj} {H : Heap → Prop} (B : Begins v o H) :
    Meets (Builtin.«enumerate.__new__» ⟨[.type "enumerate", v], []⟩) (fun _ R s => H s.heap ∧
      R (.ok (.ret (.ref (s.heap.push o).objs.size))) { s with heap := (s.heap.push o).push { cls := .type "enumerate", data := .fields #[.none, .bool false, .ref s.heap.objs.size, rawInt 0, .none, .none] } }) :=
  .of_wp fun prog w A R s h => by
    obtain ⟨hp, g, d, tk, os⟩ := s
    obtain ⟨h1, h⟩ := h
    have hsub := sub_enumerate
    have q1 : ∀ {A' : Around} {E : Value → Shared → Prop} {Q : Value → Shared → Prop}, Q (.ref hp.objs.size) ⟨hp.push o, g, d, tk, os⟩ → wpAny (model prog w) A' (pyIter v) Q E ⟨hp, g, d, tk, os⟩ :=
      fun q => B.iter prog w _ _ ⟨hp, g, d, tk, os⟩ _ h1 q
    wp_walk using q1
    refine wpAny_stack_any fun st => wpAny_pure ?_
    split
    · rename_i c _ _ _ _ _
      cases (c == Value.type "enumerate") <;> (wp_walk using q1; exact ⟨_, rfl, h⟩)
    · wp_walk using q1
      exact ⟨_, rfl, h⟩
theorem enum_one {prog : Program} {w : World} {A : Around} {E : Value → Shared → Prop} {s : Shared} {v : Value} {o : Obj} {H : Heap → Prop} {Q : Value → Shared → Prop} (B : Begins v o H) (h1 : H s.heap)
    (h : ∀ h', IsEnum h' (s.heap.objs.size + 1) s.heap.objs.size 0 .none → h'.get? s.heap.objs.size = some o → h'.objs.size = s.heap.objs.size + 2 →
      (∀ b o, s.heap.get? b = some o → h'.get? b = some o) → Q (.ref (s.heap.objs.size + 1)) { s with heap := h' }) :
    wpAny (model prog w) A (call (.type "enumerate") [v]) Q E s := by
  refine callType_new F.called_enumerate (by decide) (F.typeCall_enumerate_1 _) (F.newCall_enumerate_1 _) (fun obj => F.args_object_init_2 obj _) F.entry_enumerate_new (meets_enumB1 B) ⟨h1, ?_⟩
  have hz : (s.heap.push o).objs.size = s.heap.objs.size + 1 := Heap.size_push ..
  show _ ∧ _
  rw [hz]
  have he : IsEnum ((s.heap.push o).push { cls := .type "enumerate", data := .fields #[.none, .bool false, .ref s.heap.objs.size, rawInt 0, .none, .none] }) (s.heap.objs.size + 1) s.heap.objs.size 0 .none := by
    have q := Heap.get?_push_size (s.heap.push o) (o := { cls := .type "enumerate", data := .fields #[.none, .bool false, .ref s.heap.objs.size, rawInt 0, .none, .none] }) rfl
    rw [hz] at q
    exact q
  exact ⟨⟨_, he, rfl⟩, h _ he (Heap.get?_push_of_some _ (Heap.get?_push_size _ B.free)) (by rw [Heap.size_push, hz]) fun b o x => Heap.get?_push_of_some _ (Heap.get?_push_of_some _ x)⟩
/-- enumerate(tuple), at each turn -/
def IteT (K : PySem.W.Frag) (a : Addr) : It :=
  ⟨fun i H => ∃ (xs : List V) (x : V), SqT K H a xs ∧ xs[i]? = some x, fun i H v H' => ∃ T x, v = .ref T ∧ H T = none ∧ H' = upd H T (.tup [.int (i : Nat), x]) ∧ ∀ xs, SqT K H a xs → xs[i]? = some x, fun i H => ∃ xs : List V, SqT K H a xs ∧ xs.length = i⟩
theorem walk_enumT {K : PySem.W.Frag} {a : Addr} {xs : List V} : Walk (IteT K a) xs.length (fun H => SqT K H a xs) (YPair (fun i => some (.int (i : Nat))) (fun i => xs[i]?)) := by
  refine ⟨fun i _ hi q => ⟨xs, xs[i], q, by simp [hi]⟩, fun _ q => ⟨xs, q, rfl⟩, fun i H v H' _ q y => ?_⟩
  obtain ⟨T, x, h1, h2, h3, h4⟩ := y
  exact ⟨T, .int (i : Nat), x, h1, h2, h3, rfl, h4 xs q⟩
theorem turn_enumT {P : Program} {w : World} {K : PySem.W.Frag} {elts : List Expr} {kk : Nat} {tpos : Pos} (a e it : Addr) (hai : a ≠ it) :
    Turn P w K (.Tuple elts kk tpos) (IteT K a) [e, it] e (fun i h => (∃ old, IsEnum h e it ((i : Nat) : Int) old) ∧ h.IsTupleIter it a i ∧ e ≠ it ∧ e ≠ a) where
  mem := by simp
  obj := fun i h st b hb => by
    obtain ⟨⟨old, he⟩, ⟨o, ho, hc, hd⟩, _⟩ := st
    have e' : b = e ∨ b = it := by simpa using hb
    rcases e' with z | z
    · rw [z]
      exact ⟨_, he, fun v q => nomatch q⟩
    · rw [z]
      exact ⟨o, ho, fun v q => by rw [hd] at q; cases q⟩
  keep := fun i h h' st k => let ⟨⟨old, he⟩, hi, hne⟩ := st; ⟨⟨old, k e (by simp) _ he⟩, hi.at fun o q => k it (by simp) o q, hne⟩
  item := by
    intro X hP hw hK hc i pins s σ H E I hf st hg
    subst hP hw hK
    obtain ⟨⟨old, he⟩, hit, hne, hea⟩ := st
    obtain ⟨xs, x, hq, hx⟩ := hg
    obtain ⟨its, rv, p, hz⟩ := I.tuple hq
    obtain ⟨u, hu, ru⟩ := rv.get hx
    have hel : e < s.heap.objs.size := Heap.lt_size he
    have hil : it < s.heap.objs.size := by obtain ⟨_, q, _⟩ := hit; exact Heap.lt_size q
    have hlt : i < its.toArray.size := by
      have := (List.getElem?_eq_some_iff.mp hu).1
      simpa using this
    have pt : s.heap.IsTuple a its.toArray := p
    refine wpAny_pyNext_enum_itemD (Draws.tuple (prog := X.prog) (w := X.w) (A := X.A.in1) (I.ok.hd hc) it a hai its.toArray) he ⟨hit, pt⟩ hlt hne (by simp [hne, hea]) fun u' h' tk hP ho hit' hT hsz hk => ?_
    have hu' : its.toArray[i]? = some u := by simpa using hu
    have e1 : u' = u := Option.some.inj (hP.symm.trans hu')
    subst e1
    refine ⟨_, rfl, wpAny_letOwnedTupleGo_enum (s := { s with heap := h', toks := tk + 1 }) ho fun h'' he' sb => ?_⟩
    have hT2 : h''.get? s.heap.objs.size = some { cls := .type "tuple", data := .seq #[.int i tk, u'] } := (sb.2 _ (Nat.ne_of_gt hel)).trans hT
    have new : ObjOk X.prog X.w (upd H s.heap.objs.size (.tup [.int (i : Nat), x])) h'' s.heap.objs.size (.tup [.int (i : Nat), x]) :=
      ⟨by show 2 ≤ sizeLine; decide, [.int i tk, u'], .cons ⟨_, rfl⟩ (.cons ru .nil), ⟨_, hT2, rfl, _, rfl⟩⟩
    have I1 : Inv X pins σ (upd H s.heap.objs.size (.tup [.int (i : Nat), x])) { s with heap := h'', toks := tk + 1 } :=
      I.turnedNew (ch := [e, it]) (fun b ob hb q => (sb.2 b (fun z => hb (by simp [z]))).trans (hk b ob (fun z => hb (by simp [z])) (fun z => hb (by simp [z])) q)) hf (Nat.le_refl _) new
    refine ⟨.ref s.heap.objs.size, _, I1, rfl, ⟨_, x, rfl, I.hok.fresh (Nat.le_refl _), rfl, fun ys hy => by rw [I.tuple_inj hy hq]; exact hx⟩, ⟨⟨u', ?_⟩, hit'.1.at fun o q => (sb.2 it (Ne.symm hne)).trans q, hne, hea⟩, fun b hb => ?_⟩
    · have e2 : ((i + 1 : Nat) : Int) = (i : Int) + 1 := by omega
      rw [e2]
      exact he'
    · have hb' : b < s.heap.objs.size := by
        have e' : b = e ∨ b = it := by simpa using hb
        rcases e' with z | z <;> (rw [z]; assumption)
      rw [upd_ne (Nat.ne_of_lt hb')]
      exact (hf b hb).1
  done := by
    intro X hP hw hK hc i pins s σ H E I hf st hg
    subst hP hw hK
    obtain ⟨⟨old, he⟩, hit, hne, hea⟩ := st
    obtain ⟨xs, hq, hx⟩ := hg
    obtain ⟨its, rv, p, hz⟩ := I.tuple hq
    obtain ⟨f0, f1, f2, f3, f4, f5⟩ := hf it (by simp)
    have hl := rv.length
    have pt : s.heap.IsTuple a its.toArray := p
    have D := Draws.tuple (prog := X.prog) (w := X.w) (A := X.A.in1) (I.ok.hd hc) it a hai its.toArray
    have hi : i = its.toArray.size := by rw [List.size_toArray, ← hl]; exact hx.symm
    subst hi
    exact wpAny_pyNext_enum_endD D he ⟨hit, pt⟩ fun h' eb => ⟨rfl, I.turned (t' := s.toks) (fun b o hb q => eb b o hb q) f0 f1 f3 f4 f5⟩
  self := fun A i s Q E st h => let ⟨⟨_, he⟩, _⟩ := st; wpAny_pyIter_enum he h

/-! ### what is walked, by kind -/
theorem pi_imp {X : Cx} {tg e : Expr} {t t' : TI} (h : PI X tg e t) (i : ∀ σ H R, t' σ H R → t σ H R) : PI X tg e t' := ⟨fun pins s σ H R I q => h.run pins s σ H R I (i σ H R q)⟩
def rdI (K : PySem.W.Frag) (mg : MG) (W : WX) (k : IK) (m : Env → Hd → R (List D)) : TI := fun σ H R => ∃ ρ env hd, REnv K mg ρ H env σ ∧ MOk K mg ρ H hd ∧ Kt K mg W σ ρ H (m env hd) (fun xs h ρ' H' => Ext ρ H ρ' H' ∧ MOk K mg ρ' H' h ∧ match iterS k xs h with
  | some (.inl vs) => ∀ J, Wk K mg J ρ' H' vs → R J H'
  | some (.inr a) => ∀ p, ρ'.v[a]? = some p → R (Itl K p) H'
  | none => False)
section
variable {X : Cx} {W : WX} {e a b : Expr} {m : Env → Hd → R D} {mr : Env → Hd → R (List D)} {tg : Expr} {pos p : Pos}
theorem pi_plainZ (he : PE X e (rd X.K X.mg W m)) : PI X tg e (rdI X.K X.mg W .plain fun env hd => (m env hd).bind fun x hd => .ok [x] hd) := ⟨fun pins s σ H R I ⟨ρ, env, hd, re, mo, k⟩ => by
  refine thn (he.run pins s σ H (fun x H1 => (∃ a xs, x = .ref a ∧ SqL X.K H1 a xs ∧ R (Itl X.K a) H1) ∨ (∃ a xs, x = .ref a ∧ SqT X.K H1 a xs ∧ R (Itt X.K a) H1) ∨ ∃ z, x = .str z ∧ R (Its z) H1) I ⟨ρ, env, hd, re, mo, k.bind.imp fun x h1 ρ1 H1 ⟨e1, m1, k1⟩ v rv => ?_⟩) fun v s1 ⟨x, H1, I1, r1, q1⟩ => ?_
  · obtain ⟨_, _, k1⟩ := k1 ρ1 H1 .refl m1
    cases x with
    | str z =>
      cases rv
      simp only [iterS] at k1
      split at k1
      · rename_i vs q
        split at q
        · cases q
          exact .inr (.inr ⟨_, rfl, k1 _ wk_str⟩)
        · cases q
      · rename_i q
        split at q <;> cases q
      · exact k1.elim
    | tup us =>
      cases rv with
      | tup n h q => exact .inr (.inl ⟨_, _, rfl, SqT.of h, k1 _ (wk_tup n h q)⟩)
    | lst us =>
      cases rv with
      | lst n h q => exact .inl ⟨_, _, rfl, SqL.of h, k1 _ (wk_lst (.inl ⟨n, .inl h⟩) q)⟩
    | row us =>
      cases rv with
      | row h => exact .inl ⟨_, _, rfl, h.sq, k1 _ (wk_lst h (RDs.ints _))⟩
    | obj n =>
      cases rv with
      | obj h =>
        simp only [iterS] at k1
        split at k1
        · rename_i q
          split at q <;> cases q
        · rename_i q
          split at q
          · rename_i us hq
            cases q
            have mm := m1.at_ _ _ _ h hq
            cases mm with
            | lst h2 q2 => exact .inl ⟨_, _, rfl, SqL.of h2, k1 _ h⟩
          · cases q
        · exact k1.elim
    | _ => exact k1.elim
  · rcases q1 with ⟨a, xs, rfl, hq, q⟩ | ⟨a, xs, rfl, hq, q⟩ | ⟨z, rfl, q⟩
    · cases r1
      obtain ⟨its, rv, pl, hz⟩ := I1.list hq
      exact wpAny_pyIter_list pl.isList (pi_one (tk := s1.toks) I1 _ (turn_list a _) ⟨_, Heap.get?_push_size _ rfl, rfl, rfl⟩ q)
    · cases r1
      obtain ⟨its, rv, pt, hz⟩ := I1.tuple hq
      exact wpAny_pyIter_tuple (show s1.heap.IsTuple a its.toArray from pt) (pi_one (tk := s1.toks) I1 _ (turn_tuple a _) ⟨_, Heap.get?_push_size _ rfl, rfl, rfl⟩ q)
    · obtain ⟨t, rfl⟩ := r1
      cases ha : z.cps.all (· < 128)
      · exact wpAny_pyIter_wide ha (pi_one (tk := s1.toks) I1 _ (turn_str _ z t "str_iterator" (.inr rfl)) ⟨_, Heap.get?_push_size _ rfl, rfl, rfl⟩ q)
      · exact wpAny_pyIter_ascii ha (pi_one (tk := s1.toks) I1 _ (turn_str _ z t "str_ascii_iterator" (.inl rfl)) ⟨_, Heap.get?_push_size _ rfl, rfl, rfl⟩ q)⟩
theorem pi_rng1Z (hg : Gl X "range") (hm : X.mg "range" = none) (ha : PA X [a] (rdA X.K X.mg W mr)) (hs : starEach [a] X.env = [(false, eval a X.env)]) :
    PI X tg (.Call (.Name "range" p) [a] [] pos) (rdI X.K X.mg W .range fun env hd => (mr env hd).bind fun xs hd => match xs with | [x] => .ok [x] hd | _ => .bad) :=
  pi_imp (pi_range1 hg hm ha hs) fun σ H R ⟨ρ, env, hd, re, mo, k⟩ => ⟨ρ, env, hd, re, mo, k.bind.imp fun xs h1 ρ1 H1 ⟨e1, m1, k1⟩ vs rvs => by
    split at k1
    · obtain ⟨v, rfl, rv⟩ := rds1 rvs
      obtain ⟨_, _, k1⟩ := k1 ρ1 H1 .refl m1
      cases rv with
      | int n =>
        simp only [iterS] at k1
        split at k1
        · rename_i q
          split at q
          · rename_i hn
            cases q
            exact ⟨n, rfl, by omega, by omega, k1 _ wk_rng⟩
          · cases q
        · rename_i q
          split at q <;> cases q
        · exact k1.elim
      | _ => exact k1.elim
    · exact k1.elim⟩
theorem pi_rng2Z (hg : Gl X "range") (hm : X.mg "range" = none) (ha : PA X [a, b] (rdA X.K X.mg W mr)) (hs : starEach [a, b] X.env = [(false, eval a X.env), (false, eval b X.env)]) (hs2 : starEach [b] X.env = [(false, eval b X.env)]) :
    PI X tg (.Call (.Name "range" p) [a, b] [] pos) (rdI X.K X.mg W .range fun env hd => (mr env hd).bind fun xs hd => match xs with | [x, y] => .ok [x, y] hd | _ => .bad) :=
  pi_imp (pi_range2 hg hm ha hs hs2) fun σ H R ⟨ρ, env, hd, re, mo, k⟩ => ⟨ρ, env, hd, re, mo, k.bind.imp fun xs h1 ρ1 H1 ⟨e1, m1, k1⟩ vs rvs => by
    split at k1
    · rename_i x y
      obtain ⟨v, u, rfl, rv, ru⟩ := rds2 rvs
      obtain ⟨_, _, k1⟩ := k1 ρ1 H1 .refl m1
      cases rv with
      | int i =>
        cases ru with
        | int j =>
          simp only [iterS] at k1
          split at k1
          · rename_i q
            split at q
            · rename_i hn
              cases q
              exact ⟨i, j, rfl, by omega, k1 _ wk_rng⟩
            · cases q
          · rename_i q
            split at q <;> cases q
          · exact k1.elim
        | _ => exact k1.elim
      | _ => cases ru <;> exact k1.elim
    · exact k1.elim⟩
theorem pi_enumZ {elts : List Expr} {kk : Nat} {tpos : Pos} (hg : Gl X "enumerate") (hm : X.mg "enumerate" = none) (ha : PA X [a] (rdA X.K X.mg W mr)) (hs : starEach [a] X.env = [(false, eval a X.env)]) :
    PI X (.Tuple elts kk tpos) (.Call (.Name "enumerate" p) [a] [] pos) (rdI X.K X.mg W .enum fun env hd => (mr env hd).bind fun xs hd => match xs with | [x] => .ok [x] hd | _ => .bad) := ⟨fun pins s σ H R I ⟨ρ, env, hd, re, mo, k⟩ => by
  refine Call_ (ld_blt I hg hm boot_enumerate (PyProof.Rows.callWith_type1 (thn (ha.run pos pins s σ H (fun vs H1 => (∃ a xs, vs = [.ref a] ∧ SqL X.K H1 a xs ∧ R (Ite X.K a) H1) ∨ ∃ a xs, vs = [.ref a] ∧ SqT X.K H1 a xs ∧ R (IteT X.K a) H1) I
    ⟨ρ, env, hd, re, mo, k.bind.imp fun xs h1 ρ1 H1 ⟨e1, m1, k1⟩ vs rvs => ?_⟩) fun us s1 ⟨vs, H1, I1, r1, q1⟩ => ?_) hs rfl))
  · split at k1
    · rename_i x _
      obtain ⟨v, rfl, rv⟩ := rds1 rvs
      obtain ⟨_, _, k1⟩ := k1 ρ1 H1 .refl m1
      have hi : ∀ (us : List D) (vs : List V), RDs X.K X.mg ρ1 H1 us vs → vs.length = ((List.range us.length).map (fun (i : Nat) => D.int (i : Int)) |>.zip us).length := fun us vs q => by
        rw [List.length_zip, List.length_map, List.length_range, Nat.min_self, q.length]
      have hx : ∀ (us : List D) (i : Nat) (d : D) (ρ' : Rh) (H' : Hp), Wx ρ1 H1 ρ' H' → ((List.range us.length).map (fun (i : Nat) => D.int (i : Int)))[i]? = some d → ∀ v, (fun (i : Nat) => some (V.int (i : Nat))) i = some v → RD X.K X.mg ρ' H' d v := fun us i d ρ' H' e h v hv => by
        cases hv
        rw [List.getElem?_map] at h
        cases q : (List.range us.length)[i]? with
        | none => rw [q] at h; cases h
        | some j =>
          have hj : i < us.length := by
            have := (List.getElem?_eq_some_iff.mp q).1
            simpa using this
          rw [List.getElem?_range hj] at q
          cases q
          rw [List.getElem?_range hj] at h
          cases h
          exact .int _
      cases x with
      | tup us =>
        cases rv with
        | tup n h q =>
          refine .inr ⟨_, _, rfl, SqT.of h, k1 _ (wk_pair walk_enumT (fun ρ' H' e => SqT.wx e n h) (hi _ _ q) (hx us) fun i d ρ' H' e hd v hv => ?_)⟩
          obtain ⟨w, hw, rw'⟩ := q.get hd
          rw [hw] at hv
          cases hv
          exact rw'.wx e
      | lst us =>
        cases rv with
        | lst n h q =>
          have sr : SqR X.K ρ1 H1 _ _ := .inl ⟨n, .inl h⟩
          refine .inl ⟨_, _, rfl, SqL.of h, k1 _ (wk_pair walk_enum (fun ρ' H' e => (sr.wx e).sq) (hi _ _ q) (hx us) fun i d ρ' H' e hd v hv => ?_)⟩
          obtain ⟨w, hw, rw'⟩ := q.get hd
          rw [hw] at hv
          cases hv
          exact rw'.wx e
      | _ => exact k1.elim
    · exact k1.elim
  · rcases q1 with ⟨b, xs, rfl, hq, q⟩ | ⟨b, xs, rfl, hq, q⟩
    · cases r1 with
      | cons r rr =>
        cases rr
        cases r
        obtain ⟨its, rv, p', hz⟩ := I1.list hq
        refine call_enumerate_list p'.isList fun h' he hit hsz hk => wpAny_pyIter_enum he ?_
        have I2 : Inv X pins σ H1 { s1 with heap := h' } := I1.kept (t' := s1.toks) hk
        refine ⟨s1.heap.objs.size + 1, [s1.heap.objs.size + 1, s1.heap.objs.size], _, _, H1, rfl, I2, turn_enum b (s1.heap.objs.size + 1) s1.heap.objs.size, ⟨⟨.none, he⟩, hit, Nat.succ_ne_self _⟩, fun c hc => ?_, q⟩
        have hle : s1.heap.objs.size ≤ c := by
          have e' : c = s1.heap.objs.size + 1 ∨ c = s1.heap.objs.size := by simpa using hc
          rcases e' with z | z
          · rw [z]; exact Nat.le_add_right _ _
          · rw [z]; exact Nat.le_refl _
        exact I1.fpOk hle (I1.hok.fresh hle)
    · cases r1 with
      | cons r rr =>
        cases rr
        cases r
        obtain ⟨its, rv, p', hz⟩ := I1.tuple hq
        have hb : b < s1.heap.objs.size := p'.lt
        refine enum_one (begins_tuple b its.toArray) (show s1.heap.IsTuple b its.toArray from p') fun h' he ho hsz hk => wpAny_pyIter_enum he ?_
        have I2 : Inv X pins σ H1 { s1 with heap := h' } := I1.kept (t' := s1.toks) hk
        refine ⟨s1.heap.objs.size + 1, [s1.heap.objs.size + 1, s1.heap.objs.size], _, _, H1, rfl, I2, turn_enumT b (s1.heap.objs.size + 1) s1.heap.objs.size (Nat.ne_of_lt hb), ⟨⟨.none, he⟩, ⟨_, ho, rfl, rfl⟩, Nat.succ_ne_self _, Nat.ne_of_gt (Nat.lt_succ_of_lt hb)⟩, fun c hc => ?_, q⟩
        have hle : s1.heap.objs.size ≤ c := by
          have e' : c = s1.heap.objs.size + 1 ∨ c = s1.heap.objs.size := by simpa using hc
          rcases e' with z | z
          · rw [z]; exact Nat.le_add_right _ _
          · rw [z]; exact Nat.le_refl _
        exact I1.fpOk hle (I1.hok.fresh hle)⟩
end
end Z
/-! Z12: comprehensions. -/
namespace Z
open PySem L2 PySem.Spec PyProof.Rows

theorem wipe_idem (σ : L2.St) (own : List Nat) : L2.wipe (L2.wipe σ own) own = L2.wipe σ own := by
  apply List.ext_getElem?
  intro j
  rw [wipe_get, wipe_get]
  by_cases h : j ∈ own
  · rw [if_pos h, if_pos h]
    cases σ[j]? <;> rfl
  · rw [if_neg h, if_neg h]
section
variable {K : PySem.W.Frag} {mg : MG} {ρ ρ' : Rh} {H H' : Hp}
/-- a thing that was hidden is seen -/
theorem Wx.shown {p : Addr} : Wx (ρ.hide p) H (ρ.add p) H := by
  refine ⟨fun n a h => ?_, fun a o q n _ => ⟨fun z => n ?_, q⟩⟩
  · show (ρ.v ++ [p])[n]? = some a
    have h : ρ.v[n]? = some a := h
    rw [List.getElem?_append_left (List.getElem?_eq_some_iff.mp h).1]
    exact h
  · rcases Rh.mem_add.mp z with z | z
    · exact Rh.mem_hide.mpr (.inl z)
    · exact Rh.mem_hide.mpr (.inr z)
theorem MOk.shown {hd : Hd} {p : Addr} {mo : MO} (m : MOk K mg (ρ.hide p) H hd) (nh : p ∉ ρ.h) (r : RM K mg (ρ.hide p) H mo p) : MOk K mg (ρ.add p) H (hd ++ [mo]) := by
  have np := m.hidden
  refine ⟨?_, ?_, fun n a mo' e1 e2 => ?_, fun a q => ⟨fun z => ?_, (m.hid a (List.mem_cons_of_mem _ q)).2⟩, m.nm, fun P q e => (m.tabs P q e).keep rfl fun a u e na => ⟨fun z => na ((Rh.mem_add.mp z).elim (fun z => Rh.mem_hide.mpr (.inl z)) fun z => Rh.mem_hide.mpr (.inr z)), e⟩⟩
  · show (ρ.v ++ [p]).length = (hd ++ [mo]).length
    rw [List.length_append, List.length_append]
    exact congrArg (· + 1) m.len
  · show (ρ.v ++ [p]).Nodup
    rw [List.nodup_append]
    refine ⟨m.nd, by simp, fun a ha b hb e => ?_⟩
    rw [List.mem_singleton] at hb
    exact np (by rw [← hb, ← e]; exact ha)
  · have e1 : (ρ.v ++ [p])[n]? = some a := e1
    have hl : ρ.v.length = hd.length := m.len
    by_cases hn : n < ρ.v.length
    · rw [List.getElem?_append_left hn] at e1
      rw [List.getElem?_append_left (by omega)] at e2
      exact (m.at_ n a mo' e1 e2).wx Wx.shown rfl
    · have hx : n = ρ.v.length := by
        have := (List.getElem?_eq_some_iff.mp e1).1
        simp at this
        omega
      subst hx
      rw [List.getElem?_append_right (Nat.le_refl _)] at e1
      rw [hl, List.getElem?_append_right (Nat.le_refl _)] at e2
      simp at e1 e2
      subst e1 e2
      exact r.wx Wx.shown rfl
  · rcases List.mem_append.mp (show a ∈ ρ.v ++ [p] from z) with z | z
    · exact (m.hid a (List.mem_cons_of_mem _ q)).1 z
    · rw [List.mem_singleton] at z
      exact nh (by rw [← z]; exact q)
theorem Ext.shown {p : Addr} (e : Ext ρ H ρ' H') (h : H p = none) (nt : NoTb H' p) : Ext ρ H (ρ'.add p) H' := by
  refine ⟨?_, e.keep, e.there, fun a q n => ?_, e.hid, fun P t => (e.tab P t).other rfl fun a na => by
    by_cases ea : a = p
    · exact .inr (by rw [ea]; exact nt)
    · exact .inl fun z => (Rh.mem_add.mp z).elim na ea⟩
  · obtain ⟨τ, rfl⟩ := e.pre
    exact ⟨τ ++ [p], by show (⟨ρ.v ++ τ ++ [p], ρ.h, ρ.n⟩ : Rh) = _; rw [List.append_assoc]⟩
  · rcases Rh.mem_add.mp q with q | q
    · exact e.fresh a q n
    · rw [q]; exact h
end
/-- no exception, of a block -/
abbrev WF : WX := fun _ _ _ _ => False
section
variable {X : Cx} {W : WX} {m : Bool} {sto : D → Env → Hd → Option Env} {tst : Env → Hd → R Bool} {elte : Env → Hd → R D} {wenv : Env}
/-- a comprehension's turns. L: what is left at turn i; it: the item -/
structure Trn (m : Bool) (sto : D → Env → Hd → Option Env) (tst : Env → Hd → R Bool) (elte : Env → Hd → R D) (wenv : Env) (n : Nat) (it : Nat → Hd → Option D) (L : Nat → List D → Hd → R (List D)) : Prop where
  go : ∀ i acc hd P, i < n → OkR ((L i acc hd).bind (mkL m)) P → ∃ d env1 b h1, it i hd = some d ∧ sto d wenv hd = some env1 ∧ tst env1 hd = .ok b h1 ∧
    (b = true → ∃ y h2, elte env1 h1 = .ok y h2 ∧ acc.length < line ∧ OkR ((L (i + 1) (acc ++ [y]) h2).bind (mkL m)) P) ∧ (b = false → OkR ((L (i + 1) acc h1).bind (mkL m)) P)
  end_ : ∀ acc hd P, OkR ((L n acc hd).bind (mkL m)) P → OkR (mkL m acc hd) P
theorem lc_turns {J : It} {n : Nat} {it : Nat → Hd → Option D} {L : Nat → List D → Hd → R (List D)} {G : Hp → Prop} {ρ1 : Rh} {H1 : Hp} {h1 : Hd} {σ : L2.St} {own : List Nat} {Q : VK} {Dn : Addr}
    (t : Trn m sto tst elte wenv n it L) (w : Walk J n G (fun i H x H' => J.yld i H x H')) (hD : H1 Dn = none) (m1 : MOk X.K X.mg ρ1 H1 h1) (re : REnv X.K X.mg ρ1 H1 wenv (L2.wipe σ own))
    (hG : ∀ i (ρ' : Rh) H' hd acc P, i ≤ n → Wx ρ1 H1 (ρ'.hide Dn) H' → MOk X.K X.mg (ρ'.hide Dn) H' hd → OkR ((L i acc hd).bind (mkL m)) P → G H')
    (hY : ∀ i (ρ' : Rh) H' hd x H'' d, Wx ρ1 H1 (ρ'.hide Dn) H' → MOk X.K X.mg (ρ'.hide Dn) H' hd → it i hd = some d → J.yld i H' x H'' → Ext (ρ'.hide Dn) H' (ρ'.hide Dn) H'' ∧ MOk X.K X.mg (ρ'.hide Dn) H'' hd ∧ RD X.K X.mg (ρ'.hide Dn) H'' d x)
    (k : OkR ((L 0 [] h1).bind (mkL m)) (Fin X.K X.mg ρ1 H1 Q)) :
    ∃ Wm : Nat → Nat → Hp → Prop, (∃ q, Wm 0 q (upd H1 Dn (.lst []))) ∧ ∀ i q H, Wm i q H →
      (J.stop i H ∧ Q (.ref Dn) H) ∨ (J.go i H ∧ ∃ Nx : Hp → Prop, (∀ H', Nx H' → ∃ m', m' < q ∧ Wm (i + 1) m' H') ∧ ∀ x H', J.yld i H x H' → rdG X.K X.mg own sto x (L2.wipe σ own) H' fun σ2 H2 => L2.wipe σ2 own = L2.wipe σ own ∧ rdT X.K X.mg WF tst σ2 H2 fun b H3 =>
        if b = true then rd X.K X.mg WF elte σ2 H3 fun y H4 => ∃ acc, H4 Dn = some (.lst acc) ∧ acc.length < sizeLine ∧ Nx (upd H4 Dn (.lst (acc ++ [y]))) else Nx H3) := by
  have nD1 : Dn ∉ ρ1 := m1.notin hD
  refine lc_it w (fun i H' => ∃ ρ' hd' acc accV, Ext ρ1 H1 ρ' H' ∧ MOk X.K X.mg (ρ'.hide Dn) H' hd' ∧ REnv X.K X.mg (ρ'.hide Dn) H' wenv (L2.wipe σ own) ∧ RDs X.K X.mg (ρ'.hide Dn) H' acc accV ∧ H' Dn = some (.lst accV) ∧ Dn ∉ ρ' ∧ Wx ρ1 H1 (ρ'.hide Dn) H' ∧
    OkR ((L i acc hd').bind (mkL m)) (Fin X.K X.mg ρ1 H1 Q)) ?_ ?_ ?_ ?_
  · have wx : Wx ρ1 H1 (ρ1.hide Dn) (upd H1 Dn (.lst [])) := (Wx.hide hD).trans Wx.at_
    exact ⟨ρ1, h1, [], [], Ext.new hD nD1, m1.hide hD, re.wx wx, .nil, upd_same, nD1, wx, k⟩
  · rintro i H' hi ⟨ρ', hd', acc, accV, e, mo, re', ra, hDn, nD, wx, k'⟩
    exact hG i ρ' H' hd' acc _ hi wx mo k'
  · rintro i x H' H'' hi ⟨ρ', hd', acc, accV, e, mo, re', ra, hDn, nD, wx, k'⟩ y
    obtain ⟨d, env1, b, h2, e1, e2, e3, kt, kf⟩ := t.go i acc hd' _ hi k'
    obtain ⟨x1, m2, rx⟩ := hY i ρ' H' hd' x H'' d wx mo e1 y
    refine ⟨ρ'.hide Dn, wenv, hd', d, env1, re'.ext x1, m2, rx, e2, fun σ' ρ2 H2 x2 m3 re2 w2 => ⟨w2.trans (wipe_idem σ own), ρ2, env1, hd', re2, m3, ?_⟩⟩
    rw [e3]
    intro ρ3 H3 x3 m4
    have E3 : Ext (ρ'.hide Dn) H' ρ3 H3 := x1.trans (x2.trans x3)
    -- behind the turn
    have fin : ∀ {ρ4 : Rh} {H4 : Hp} {hd4 : Hd}, Ext (ρ'.hide Dn) H' ρ4 H4 → MOk X.K X.mg ρ4 H4 hd4 → ∃ ρ5 : Rh, ρ4 = ρ5.hide Dn ∧ Ext ρ1 H1 ρ5 H4 ∧ Dn ∉ ρ5 ∧ H4 Dn = some (.lst accV) := fun {ρ4 H4 hd4} E m5 => by
      obtain ⟨ρ5, rfl⟩ := E.hidden
      have q := E.heq
      have hq : ρ5.h = ρ'.h := by
        have q : Dn :: ρ5.h = Dn :: ρ'.h := q
        injection q
      refine ⟨ρ5, rfl, e.trans (Ext.show_ m5 nD E (.lst hDn)), fun z => ?_, ?_⟩
      · rcases z with z | z
        · exact m5.hidden z
        · exact nD (.inr (by rw [← hq]; exact z))
      · rw [E.hid Dn (List.mem_cons_self ..)]
        exact hDn
    cases b with
    | false =>
      dsimp only
      rw [if_neg Bool.false_ne_true]
      obtain ⟨ρ5, rfl, E5, n5, q5⟩ := fin E3 m4
      exact ⟨ρ5, h2, acc, accV, E5, m4, re'.ext E3, ra.ext E3, q5, n5, wx.trans E3.w, kf rfl⟩
    | true =>
      dsimp only
      rw [if_pos rfl]
      obtain ⟨yd, h3, e4, hl, k5⟩ := kt rfl
      refine ⟨ρ3, env1, h2, re2.ext x3, m4, ?_⟩
      rw [e4]
      intro ρ4 H4 x4 m5 v rv
      have E4 := E3.trans x4
      obtain ⟨ρ5, rfl, E5, n5, q5⟩ := fin E4 m5
      have wa : Wx (ρ'.hide Dn) H' (ρ5.hide Dn) (upd H4 Dn (.lst (accV ++ [v]))) := E4.w.trans Wx.at_
      refine ⟨accV, q5, ?_, ρ5, h3, acc ++ [yd], accV ++ [v], E5.at_new hD (fun z => nD1 (.inr z)) (.lst q5), m5.at_hidden, re'.wx wa, (ra.wx wa).append (.cons (rv.wx Wx.at_) .nil), upd_same, n5, wx.trans wa, k5⟩
      rw [← ra.length]
      exact hl
  · rintro H' ⟨ρ', hd', acc, accV, e, mo, re', ra, hDn, nD, wx, k'⟩
    have k2 := t.end_ acc hd' _ k'
    unfold mkL at k2
    cases m with
    | false =>
      have k2 : Fin X.K X.mg ρ1 H1 Q (.lst acc) hd' := k2
      exact k2 ρ' H' e mo.show_ _ (.lst nD hDn (ra.wx Wx.show_))
    | true =>
      have k2 : Fin X.K X.mg ρ1 H1 Q (.obj hd'.length) (hd' ++ [.lst acc]) := k2
      refine k2 (ρ'.add Dn) H' (e.shown hD (.lst hDn)) (mo.shown (fun z => nD (.inr z)) (.lst hDn ra)) _ (.obj ?_)
      show (ρ'.v ++ [Dn])[hd'.length]? = some Dn
      have hl : ρ'.v.length = hd'.length := mo.len
      rw [← hl, List.getElem?_append_right (Nat.le_refl _)]
      simp
theorem okR_bind {α β : Type} {r : R α} {f : α → Hd → R β} {P : β → Hd → Prop} (k : OkR (r.bind f) P) : ∃ a h, r = .ok a h ∧ OkR (f a h) P := by
  cases r with
  | ok a h => exact ⟨a, h, rfl, k⟩
  | exc C fs h => exact k.elim
  | bad => exact k.elim
theorem trnV (vs : List D) : Trn m sto tst elte wenv vs.length (fun i _ => vs[i]?) (fun i acc hd => lcV sto tst elte wenv (vs.drop i) acc hd) where
  go := fun i acc hd P hi k => by
    rw [List.drop_eq_getElem_cons hi] at k
    obtain ⟨ys, h, e, k2⟩ := okR_bind k
    simp only [lcV] at e
    split at e
    · cases e
    · rename_i env1 e1
      split at e
      · rename_i h1 e2
        split at e
        · rename_i y h2 e3
          split at e
          · rename_i hl
            exact ⟨vs[i], env1, true, h1, by simp [hi], e1, e2, fun _ => ⟨y, h2, e3, hl, by rw [e]; exact k2⟩, fun z => nomatch z⟩
          · cases e
        · cases e
      · rename_i h1 e2
        exact ⟨vs[i], env1, false, h1, by simp [hi], e1, e2, (fun z => nomatch z), fun _ => by rw [e]; exact k2⟩
      · cases e
  end_ := fun acc hd P k => by
    rw [List.drop_length] at k
    exact k
theorem trnO (a n : Nat) : Trn m sto tst elte wenv n (fun i hd => match hd[a]? with | some (.lst xs) => xs[i]? | _ => none) (fun i acc hd => lcO sto tst elte wenv a n (n - i) acc hd) where
  go := fun i acc hd P hi k => by
    have en : n - i = (n - (i + 1)) + 1 := by omega
    have ei : n - (n - (i + 1) + 1) = i := by omega
    rw [en] at k
    obtain ⟨ys, h, e, k2⟩ := okR_bind k
    simp only [lcO] at e
    split at e
    · rename_i xs q
      split at e
      · rw [ei] at e
        split at e
        · cases e
        · rename_i v ev
          split at e
          · cases e
          · rename_i env1 e1
            split at e
            · rename_i h1 e2
              split at e
              · rename_i y h2 e3
                split at e
                · rename_i hl
                  exact ⟨v, env1, true, h1, by first | exact ev | (rw [q]; exact ev), e1, e2, fun _ => ⟨y, h2, e3, hl, by rw [e]; exact k2⟩, fun z => nomatch z⟩
                · cases e
              · cases e
            · rename_i h1 e2
              exact ⟨v, env1, false, h1, by first | exact ev | (rw [q]; exact ev), e1, e2, (fun z => nomatch z), fun _ => by rw [e]; exact k2⟩
            · cases e
      · cases e
    · cases e
  end_ := fun acc hd P k => by
    rw [Nat.sub_self] at k
    obtain ⟨ys, h, e, k2⟩ := okR_bind k
    simp only [lcO] at e
    split at e
    · split at e
      · cases e
        exact k2
      · cases e
    · cases e
theorem lcO_at {a n k : Nat} {acc : List D} {hd : Hd} {P : D → Hd → Prop} (h : OkR ((lcO sto tst elte wenv a n k acc hd).bind (mkL m)) P) : ∃ xs, hd[a]? = some (.lst xs) ∧ xs.length = n := by
  obtain ⟨ys, h2, e, _⟩ := okR_bind h
  cases k with
  | zero =>
    simp only [lcO] at e
    split at e
    · rename_i xs q
      split at e
      · rename_i hl
        exact ⟨xs, q, hl⟩
      · cases e
    · cases e
  | succ k =>
    simp only [lcO] at e
    split at e
    · rename_i xs q
      split at e
      · rename_i hl
        exact ⟨xs, q, hl⟩
      · cases e
    · cases e
theorem lcV_ok : ∀ (vs acc : List D) (hd : Hd) C fs h, lcV sto tst elte wenv vs acc hd ≠ .exc C fs h
  | [], acc, hd, C, fs, h => fun e => nomatch e
  | v :: vs, acc, hd, C, fs, h => fun e => by
    simp only [lcV] at e
    split at e
    · cases e
    · split at e
      · split at e
        · split at e
          · exact lcV_ok vs _ _ C fs h e
          · cases e
        · cases e
      · exact lcV_ok vs _ _ C fs h e
      · cases e
theorem lcO_ok (a n : Nat) : ∀ (k : Nat) (acc : List D) (hd : Hd) C fs h, lcO sto tst elte wenv a n k acc hd ≠ .exc C fs h
  | 0, acc, hd, C, fs, h => fun e => by
    simp only [lcO] at e
    split at e
    · split at e <;> cases e
    · cases e
  | k + 1, acc, hd, C, fs, h => fun e => by
    simp only [lcO] at e
    split at e
    · split at e
      · split at e
        · cases e
        · split at e
          · cases e
          · split at e
            · split at e
              · split at e
                · exact lcO_ok a n k _ _ C fs h e
                · cases e
              · cases e
            · exact lcO_ok a n k _ _ C fs h e
            · cases e
      · cases e
    · cases e
theorem bind_ok_ne {α β : Type} {r : R α} {f : α → Hd → R β} (h1 : ∀ C fs h, r ≠ .exc C fs h) (h2 : ∀ a h C fs h', f a h ≠ .exc C fs h') (C : String) (fs : List (String × D)) (h : Hd) : r.bind f ≠ .exc C fs h := by
  cases r with
  | ok a h' => exact h2 a h' C fs h
  | exc C' fs' h' => exact fun _ => h1 C' fs' h' rfl
  | bad => exact fun e => nomatch e
/-- what a comprehension does -/
def lcM (m : Bool) (k : IK) (own : List Nat) (sto : D → Env → Hd → Option Env) (tst : Env → Hd → R Bool) (elte : Env → Hd → R D) (mi : Env → Hd → R (List D)) (env : Env) (hd : Hd) : R D := (mi env hd).bind fun xs hd => match iterS k xs hd with
  | some (.inl vs) => (lcV sto tst elte (Z.wipe env own) vs [] hd).bind fun ys hd => mkL m ys hd
  | some (.inr a) => (match hd[a]? with
    | some (.lst us) => (lcO sto tst elte (Z.wipe env own) a us.length us.length [] hd).bind fun ys hd => mkL m ys hd
    | _ => .bad)
  | none => .bad
theorem lc_read {k : IK} {own : List Nat} {mi : Env → Hd → R (List D)} {σ : L2.St} {H : Hp} {Q : VK} (h : rd X.K X.mg W (lcM m k own sto tst elte mi) σ H Q) :
    tLc (rdI X.K X.mg W k mi) (rdG X.K X.mg own sto) (rdT X.K X.mg WF tst) (rd X.K X.mg WF elte) own σ H Q := by
  obtain ⟨ρ, env, hd, re, mo, k0⟩ := h
  have k : Kt X.K X.mg W σ ρ H ((mi env hd).bind fun xs hd => match iterS k xs hd with
    | some (.inl vs) => (lcV sto tst elte (Z.wipe env own) vs [] hd).bind fun ys hd => mkL m ys hd
    | some (.inr a) => (match hd[a]? with
      | some (.lst us) => (lcO sto tst elte (Z.wipe env own) a us.length us.length [] hd).bind fun ys hd => mkL m ys hd
      | _ => .bad)
    | none => .bad) _ := k0
  exact ⟨ρ, env, hd, re, mo, k.bind.imp fun xs h1 ρ1 H1 ⟨e1, m1, k1⟩ => ⟨e1, m1, by
    have re1 := (re.ext e1).wipe own
    cases q : iterS _ xs h1 with
    | none => rw [q] at k1; exact k1.elim
    | some r =>
      rw [q] at k1
      cases r with
      | inl vs =>
        intro J wk Dn hD
        have k2 := kt_ok (bind_ok_ne (lcV_ok vs [] h1) (fun a h => mkL_ok m a h)) k1
        exact lc_turns (X := X) (G := fun H' => ∃ ρ', Wx ρ1 H1 ρ' H') (trnV vs) ⟨fun i H' hi ⟨ρ', e⟩ => wk.go i ρ' H' hi e, fun H' ⟨ρ', e⟩ => wk.stop ρ' H' e, fun _ _ _ _ _ _ y => y⟩ hD m1 re1
          (fun i ρ' H' hd acc P _ wx _ _ => ⟨_, wx⟩) (fun i ρ' H' hd x H'' d wx mo' e y => wk.yld i _ H' x H'' hd d wx mo' e y) k2
      | inr a =>
        intro p hp Dn hD
        dsimp only at k1
        split at k1
        · rename_i us ha
          have k2 := kt_ok (bind_ok_ne (lcO_ok a us.length us.length [] h1) (fun a h => mkL_ok m a h)) k1
          have seen : ∀ {ρ' : Rh} {H' : Hp} {hd : Hd} {ys : List D}, Wx ρ1 H1 (ρ'.hide Dn) H' → MOk X.K X.mg (ρ'.hide Dn) H' hd → hd[a]? = some (.lst ys) → ∃ vs, H' p = some (.lst vs) ∧ RDs X.K X.mg (ρ'.hide Dn) H' ys vs := fun {ρ' H' hd ys} wx mo' hy => by
            have r := mo'.at_ a p _ (wx.get a p hp) hy
            cases r with
            | lst h q => exact ⟨_, h, q⟩
          refine lc_turns (X := X) (G := fun H' => ∃ xs, SqL X.K H' p xs ∧ xs.length = us.length) (trnO a us.length) ⟨fun i H' hi ⟨xs, h, l⟩ => ⟨xs, xs[i]'(by omega), h, by simp [l, hi]⟩, fun H' ⟨xs, h, l⟩ => ⟨xs, h, by omega⟩, fun _ _ _ _ _ _ y => y⟩ hD m1 re1
            (fun i ρ' H' hd acc P _ wx mo' ke => ?_) (fun i ρ' H' hd x H'' d wx mo' e y => ?_) k2
          · obtain ⟨ys, hy, hl⟩ := lcO_at ke
            obtain ⟨vs, h, r⟩ := seen wx mo' hy
            exact ⟨vs, SqL.of h, by rw [← r.length]; exact hl⟩
          · split at e
            · rename_i ys hy
              obtain ⟨vs, h, r⟩ := seen wx mo' hy
              obtain ⟨q1, q2⟩ := y
              subst q1
              obtain ⟨w, hw, rw'⟩ := r.get e
              have q3 := q2 vs (SqL.of h)
              rw [hw] at q3
              cases q3
              exact ⟨.refl, mo', rw'⟩
            · cases e
        · exact k1.elim⟩⟩
/-- [elt for target in iter if ..] -/
theorem pe_lcZ {elt tg iter : Expr} {ifs : List Expr} {scope : Scope} {own : List (Str × Nat)} {pos : Pos} {k : IK} {mi : Env → Hd → R (List D)} (hc : X.calm = true) (hN : X.N.Nodup) (hi : PI X tg iter (rdI X.K X.mg W k mi)) (ok : BlkOk X.N X.env.scope scope own)
    (hg : ∀ (s : Shared) (H : Hp) (C : Addr) (cl : List (Str × Addr)) (fp : List Addr), PG (X.blk s H scope (compEnvC scope cl C X.env) fp) tg (rdG X.K X.mg (own.map (·.2)) sto))
    (ht : ∀ (s : Shared) (H : Hp) (C : Addr) (cl : List (Str × Addr)) (fp : List Addr), PTs (X.blk s H scope (compEnvC scope cl C X.env) fp) ifs (rdT X.K X.mg WF tst))
    (he : ∀ (s : Shared) (H : Hp) (C : Addr) (cl : List (Str × Addr)) (fp : List Addr), PE (X.blk s H scope (compEnvC scope cl C X.env) fp) elt (rd X.K X.mg WF elte))
    (hs : ∀ x, foldedSetIterable iter X.env x = pure x) : PE X (.ListComp elt [⟨tg, iter, ifs, 0⟩] scope pos) (rd X.K X.mg W (lcM m k (own.map (·.2)) sto tst elte mi)) :=
  (pe_lc hc hN hi ok hg ht he hs).imp fun σ H Q h => lc_read h
/-- name = [..] on one line -/
theorem ps_setLcZ {i : Nat} {y : Str} {py : Pos} {elt tg iter : Expr} {ifs : List Expr} {scope : Scope} {own : List (Str × Nat)} {pos spos : Pos} {k : IK} {mi : Env → Hd → R (List D)} (hc : X.calm = true) (hN : X.N.Nodup) (hy : X.N[i]? = some y) (hyl : X.env.scope.names.lookup y = some .local)
    (hsw : swapsWith (.ListComp elt [⟨tg, iter, ifs, 0⟩] scope pos) (some (.Name y py)) spos.line X.env = pure true) (hi : PI X tg iter (rdI X.K X.mg W k mi)) (ok : BlkOk X.N X.env.scope scope own)
    (hg : ∀ (s : Shared) (H : Hp) (C : Addr) (cl : List (Str × Addr)) (fp : List Addr), PG (X.blk s H scope (compEnvC scope cl C X.env) fp) tg (rdG X.K X.mg (own.map (·.2)) sto))
    (ht : ∀ (s : Shared) (H : Hp) (C : Addr) (cl : List (Str × Addr)) (fp : List Addr), PTs (X.blk s H scope (compEnvC scope cl C X.env) fp) ifs (rdT X.K X.mg WF tst))
    (he : ∀ (s : Shared) (H : Hp) (C : Addr) (cl : List (Str × Addr)) (fp : List Addr), PE (X.blk s H scope (compEnvC scope cl C X.env) fp) elt (rd X.K X.mg WF elte))
    (hs : ∀ x, foldedSetIterable iter X.env x = pure x) : PS X (.Assign [.Name y py] (.ListComp elt [⟨tg, iter, ifs, 0⟩] scope pos) spos) (tAsg (rd X.K X.mg W (lcM m k (own.map (·.2)) sto tst elte mi)) (gName i)) :=
  (ps_setLc hc hN hy hyl hsw hi ok hg ht he hs).imp fun D σ H h => lc_read h
end
end Z
/-! Z12d: dict comprehensions, keys texts, over what stays. -/
namespace Z
open PySem L2 PySem.Spec PyProof.Rows
section
variable {K : PySem.W.Frag} {mg : MG} {ρ : Rh} {H : Hp}
theorem RDk.length : ∀ {xs : List (D × D)} {vs : List (L2.Key × V)}, RDk K mg ρ H xs vs → xs.length = vs.length
  | _, _, .nil => rfl
  | _, _, .cons _ q => congrArg (· + 1) q.length
theorem RDk.snoc {k : List Nat} {x : D} {v : V} (r : RD K mg ρ H x v) : ∀ {xs : List (D × D)} {vs : List (L2.Key × V)}, RDk K mg ρ H xs vs → RDk K mg ρ H (xs ++ [(.str k, x)]) (vs ++ [(.inr (tx k), v)])
  | _, _, .nil => .cons r .nil
  | _, _, .cons p q => .cons p (q.snoc r)
theorem RDk.any (k : List Nat) : ∀ {xs : List (D × D)} {vs : List (L2.Key × V)}, RDk K mg ρ H xs vs → (xs.any fun kv => isK k kv.1) = (vs.any fun kv => decide (kv.1 = Sum.inr (tx k)))
  | _, _, .nil => rfl
  | _, _, .cons (k := z) p q => by
    have e : isK k (.str z) = decide ((Sum.inr (tx z) : L2.Key) = Sum.inr (tx k)) := by
      show decide (z = k) = _
      by_cases h : z = k
      · subst h; simp
      · rw [decide_eq_false h, decide_eq_false fun h2 => h (tx_inj (Sum.inr.inj h2))]
    rw [List.any_cons, List.any_cons, q.any k]
    show (isK k (.str z) || _) = _
    rw [e]
theorem RDk.map {k : List Nat} {x : D} {v : V} (r : RD K mg ρ H x v) : ∀ {xs : List (D × D)} {vs : List (L2.Key × V)}, RDk K mg ρ H xs vs →
    RDk K mg ρ H (xs.map fun kv => if isK k kv.1 = true then (kv.1, x) else kv) (vs.map fun kv => if kv.1 = Sum.inr (tx k) then (kv.1, v) else kv)
  | _, _, .nil => .nil
  | _, _, .cons (k := z) p q => by
    rw [List.map_cons, List.map_cons]
    by_cases h : z = k
    · subst h
      rw [if_pos (show isK z (.str z) = true from decide_eq_true rfl), if_pos rfl]
      exact .cons r (q.map r)
    · rw [if_neg (show ¬ isK k (.str z) = true from fun e => h (of_decide_eq_true e)), if_neg (show ¬ (Sum.inr (tx z) : L2.Key) = Sum.inr (tx k) from fun h2 => h (tx_inj (Sum.inr.inj h2)))]
      exact .cons p (q.map r)
theorem RDk.put {k : List Nat} {x : D} {v : V} {xs : List (D × D)} {vs : List (L2.Key × V)} (q : RDk K mg ρ H xs vs) (r : RD K mg ρ H x v) : RDk K mg ρ H (putD xs k x) (putK vs (Sum.inr (tx k)) v) := by
  unfold putD putK
  rw [q.any k]
  split
  · exact q.map r
  · exact q.snoc r
end
section
variable {X : Cx} {W : WX} {sto : D → Env → Hd → Option Env} {tst : Env → Hd → R Bool} {key elt : Env → Hd → R D} {wenv : Env}
theorem dcV_ok : ∀ (vs : List D) (acc : List (D × D)) (hd : Hd) C fs h, dcV sto tst key elt wenv vs acc hd ≠ .exc C fs h
  | [], acc, hd, C, fs, h => fun e => nomatch e
  | v :: vs, acc, hd, C, fs, h => fun e => by
    unfold dcV at e
    split at e
    · cases e
    · split at e
      · split at e
        · split at e
          · split at e
            · exact dcV_ok vs _ _ C fs h e
            · cases e
          · cases e
        · cases e
      · exact dcV_ok vs _ _ C fs h e
      · cases e
abbrev dcK : List (D × D) → Hd → R D := fun kvs hd => .ok (.dic kvs) hd
theorem dc_go {v : D} {vs : List D} {acc : List (D × D)} {hd : Hd} {P : D → Hd → Prop} (k : OkR ((dcV sto tst key elt wenv (v :: vs) acc hd).bind dcK) P) :
    ∃ env1 b h1, sto v wenv hd = some env1 ∧ tst env1 hd = .ok b h1 ∧
      (b = true → ∃ z h2 y h3, key env1 h1 = .ok (.str z) h2 ∧ elt env1 h2 = .ok y h3 ∧ acc.length < line ∧ OkR ((dcV sto tst key elt wenv vs (putD acc z y) h3).bind dcK) P) ∧ (b = false → OkR ((dcV sto tst key elt wenv vs acc h1).bind dcK) P) := by
  obtain ⟨ys, h, e, k2⟩ := okR_bind k
  unfold dcV at e
  split at e
  · cases e
  · rename_i env1 e1
    split at e
    · rename_i h1 e2
      split at e
      · rename_i z h2 e3
        split at e
        · rename_i y h3 e4
          split at e
          · rename_i hl
            exact ⟨env1, true, h1, e1, e2, fun _ => ⟨z, h2, y, h3, e3, e4, hl, by rw [e]; exact k2⟩, fun q => nomatch q⟩
          · cases e
        · cases e
      · cases e
    · rename_i h1 e2
      exact ⟨env1, false, h1, e1, e2, (fun q => nomatch q), fun _ => by rw [e]; exact k2⟩
    · cases e
theorem dc_turns {J : It} {vs : List D} {G : Hp → Prop} {ρ1 : Rh} {H1 : Hp} {h1 : Hd} {σ : L2.St} {own : List Nat} {Q : VK} {Dn : Addr}
    (w : Walk J vs.length G (fun i H x H' => J.yld i H x H')) (hD : H1 Dn = none) (m1 : MOk X.K X.mg ρ1 H1 h1) (re : REnv X.K X.mg ρ1 H1 wenv (L2.wipe σ own))
    (hG : ∀ (ρ' : Rh) H', Wx ρ1 H1 ρ' H' → G H')
    (hY : ∀ i (ρ' : Rh) H' hd x H'' d, Wx ρ1 H1 (ρ'.hide Dn) H' → MOk X.K X.mg (ρ'.hide Dn) H' hd → vs[i]? = some d → J.yld i H' x H'' → Ext (ρ'.hide Dn) H' (ρ'.hide Dn) H'' ∧ MOk X.K X.mg (ρ'.hide Dn) H'' hd ∧ RD X.K X.mg (ρ'.hide Dn) H'' d x)
    (k : OkR ((dcV sto tst key elt wenv vs [] h1).bind dcK) (Fin X.K X.mg ρ1 H1 Q)) :
    ∃ Wm : Nat → Nat → Hp → Prop, (∃ q, Wm 0 q (upd H1 Dn (.dK []))) ∧ ∀ i q H, Wm i q H →
      (J.stop i H ∧ Q (.ref Dn) H) ∨ (J.go i H ∧ ∃ Nx : Hp → Prop, (∀ H', Nx H' → ∃ m', m' < q ∧ Wm (i + 1) m' H') ∧ ∀ x H', J.yld i H x H' → rdG X.K X.mg own sto x (L2.wipe σ own) H' fun σ2 H2 => L2.wipe σ2 own = L2.wipe σ own ∧ rdT X.K X.mg WF tst σ2 H2 fun b H3 =>
        if b = true then rd X.K X.mg WF key σ2 H3 fun y H4 => rd X.K X.mg WF elt σ2 H4 fun z H5 => ∃ kvs k, y = kV k ∧ H5 Dn = some (.dK kvs) ∧ kvs.length < sizeLine ∧ Nx (upd H5 Dn (.dK (putK kvs k z))) else Nx H3) := by
  have nD1 : Dn ∉ ρ1 := m1.notin hD
  -- by the turn
  let Pv : Nat → Hp → Prop := fun i H' => ∃ ρ' hd' acc accV, Ext ρ1 H1 ρ' H' ∧ MOk X.K X.mg (ρ'.hide Dn) H' hd' ∧ REnv X.K X.mg (ρ'.hide Dn) H' wenv (L2.wipe σ own) ∧ RDk X.K X.mg (ρ'.hide Dn) H' acc accV ∧ H' Dn = some (.dK accV) ∧ Dn ∉ ρ' ∧ Wx ρ1 H1 (ρ'.hide Dn) H' ∧
    OkR ((dcV sto tst key elt wenv (vs.drop i) acc hd').bind dcK) (Fin X.K X.mg ρ1 H1 Q)
  refine ⟨fun i m H => m = vs.length - i ∧ i ≤ vs.length ∧ Pv i H, ⟨vs.length, by simp, Nat.zero_le _, ?_⟩, ?_⟩
  · have wx : Wx ρ1 H1 (ρ1.hide Dn) (upd H1 Dn (.dK [])) := (Wx.hide hD).trans Wx.at_
    exact ⟨ρ1, h1, [], [], Ext.new hD nD1, m1.hide hD, re.wx wx, .nil, upd_same, nD1, wx, k⟩
  rintro i q H' ⟨rfl, hi, ρ', hd', acc, accV, e, mo, re', ra, hDn, nD, wx, k'⟩
  have hq : G H' := hG _ H' wx
  by_cases hlt : i < vs.length
  · refine .inr ⟨w.goes i H' hlt hq, Pv (i + 1), fun H2 p' => ⟨vs.length - (i + 1), by omega, rfl, hlt, p'⟩, fun x H'' y => ?_⟩
    have y := w.yields i H' x H'' hlt hq y
    rw [List.drop_eq_getElem_cons hlt] at k'
    obtain ⟨env1, b, h2, e2, e3, kt, kf⟩ := dc_go k'
    obtain ⟨x1, m2, rx⟩ := hY i ρ' H' hd' x H'' vs[i] wx mo (by simp [hlt]) y
    refine ⟨ρ'.hide Dn, wenv, hd', vs[i], env1, re'.ext x1, m2, rx, e2, fun σ' ρ2 H2 x2 m3 re2 w2 => ⟨w2.trans (wipe_idem σ own), ρ2, env1, hd', re2, m3, ?_⟩⟩
    rw [e3]
    intro ρ3 H3 x3 m4
    have E3 : Ext (ρ'.hide Dn) H' ρ3 H3 := x1.trans (x2.trans x3)
    have fin : ∀ {ρ4 : Rh} {H4 : Hp} {hd4 : Hd}, Ext (ρ'.hide Dn) H' ρ4 H4 → MOk X.K X.mg ρ4 H4 hd4 → ∃ ρ5 : Rh, ρ4 = ρ5.hide Dn ∧ Ext ρ1 H1 ρ5 H4 ∧ Dn ∉ ρ5 ∧ H4 Dn = some (.dK accV) := fun {ρ4 H4 hd4} E m5 => by
      obtain ⟨ρ5, rfl⟩ := E.hidden
      have q := E.heq
      have hq : ρ5.h = ρ'.h := by
        have q : Dn :: ρ5.h = Dn :: ρ'.h := q
        injection q
      refine ⟨ρ5, rfl, e.trans (Ext.show_ m5 nD E (.dK hDn)), fun z => ?_, ?_⟩
      · rcases z with z | z
        · exact m5.hidden z
        · exact nD (.inr (by rw [← hq]; exact z))
      · rw [E.hid Dn (List.mem_cons_self ..)]
        exact hDn
    cases b with
    | false =>
      dsimp only
      rw [if_neg Bool.false_ne_true]
      obtain ⟨ρ5, rfl, E5, n5, q5⟩ := fin E3 m4
      exact ⟨ρ5, h2, acc, accV, E5, m4, re'.ext E3, ra.ext E3, q5, n5, wx.trans E3.w, kf rfl⟩
    | true =>
      dsimp only
      rw [if_pos rfl]
      obtain ⟨z, h3, yd, h4, e4, e5, hl, k5⟩ := kt rfl
      refine ⟨ρ3, env1, h2, re2.ext x3, m4, ?_⟩
      rw [e4]
      intro ρ4 H4 x4 m5 v rv
      cases rv
      refine ⟨ρ4, env1, h3, re2.ext (x3.trans x4), m5, ?_⟩
      rw [e5]
      intro ρ6 H6 x6 m6 u ru
      have E6 := E3.trans (x4.trans x6)
      obtain ⟨ρ5, rfl, E5, n5, q5⟩ := fin E6 m6
      have wa : Wx (ρ'.hide Dn) H' (ρ5.hide Dn) (upd H6 Dn (.dK (putK accV (Sum.inr (tx z)) u))) := E6.w.trans Wx.at_
      refine ⟨accV, Sum.inr (tx z), rfl, q5, ?_, ρ5, h4, putD acc z yd, putK accV (Sum.inr (tx z)) u, E5.at_new hD (fun z => nD1 (.inr z)) (.dK q5), m6.at_hidden, re'.wx wa, (ra.wx wa).put (ru.wx Wx.at_), upd_same, n5, wx.trans wa, k5⟩
      rw [← ra.length]
      exact hl
  · have ei : i = vs.length := by omega
    subst ei
    rw [List.drop_length] at k'
    have k2 : Fin X.K X.mg ρ1 H1 Q (.dic acc) hd' := k'
    exact .inl ⟨w.stops H' hq, k2 ρ' H' e mo.show_ _ (.dic nD hDn (ra.wx Wx.show_))⟩
/-- what a dict comprehension does -/
def dcM (k : IK) (own : List Nat) (sto : D → Env → Hd → Option Env) (tst : Env → Hd → R Bool) (key elt : Env → Hd → R D) (mi : Env → Hd → R (List D)) (env : Env) (hd : Hd) : R D := (mi env hd).bind fun xs hd => match iterS k xs hd with
  | some (.inl vs) => (dcV sto tst key elt (Z.wipe env own) vs [] hd).bind fun kvs hd => R.ok (D.dic kvs) hd
  | _ => .bad
theorem dc_read {k : IK} {own : List Nat} {mi : Env → Hd → R (List D)} {σ : L2.St} {H : Hp} {Q : VK} (h : rd X.K X.mg W (dcM k own sto tst key elt mi) σ H Q) :
    tDc (rdI X.K X.mg W k mi) (rdG X.K X.mg own sto) (rdT X.K X.mg WF tst) (rd X.K X.mg WF key) (rd X.K X.mg WF elt) own σ H Q := by
  obtain ⟨ρ, env, hd, re, mo, k0⟩ := h
  have k : Kt X.K X.mg W σ ρ H ((mi env hd).bind fun xs hd => match iterS k xs hd with
    | some (.inl vs) => (dcV sto tst key elt (Z.wipe env own) vs [] hd).bind fun kvs hd => R.ok (D.dic kvs) hd
    | _ => .bad) _ := k0
  exact ⟨ρ, env, hd, re, mo, k.bind.imp fun xs h1 ρ1 H1 ⟨e1, m1, k1⟩ => ⟨e1, m1, by
    have re1 := (re.ext e1).wipe own
    cases q : iterS _ xs h1 with
    | none => rw [q] at k1; exact k1.elim
    | some r =>
      rw [q] at k1
      cases r with
      | inl vs =>
        intro J wk Dn hD
        have k2 := kt_ok (bind_ok_ne (dcV_ok vs [] h1) (fun a h C fs h' z => by cases z)) k1
        exact dc_turns (X := X) (G := fun H' => ∃ ρ', Wx ρ1 H1 ρ' H') ⟨fun i H' hi ⟨ρ', e⟩ => wk.go i ρ' H' hi e, fun H' ⟨ρ', e⟩ => wk.stop ρ' H' e, fun _ _ _ _ _ _ y => y⟩ hD m1 re1
          (fun ρ' H' wx => ⟨_, wx⟩) (fun i ρ' H' hd x H'' d wx mo' e y => wk.yld i _ H' x H'' hd d wx mo' e y) k2
      | inr a => exact k1.elim⟩⟩
theorem pe_dcZ {kx vx tg iter : Expr} {ifs : List Expr} {scope : Scope} {own : List (Str × Nat)} {pos : Pos} {k : IK} {mi : Env → Hd → R (List D)} (hc : X.calm = true) (hN : X.N.Nodup) (hi : PI X tg iter (rdI X.K X.mg W k mi)) (ok : BlkOk X.N X.env.scope scope own)
    (hg : ∀ (s : Shared) (H : Hp) (C : Addr) (cl : List (Str × Addr)) (fp : List Addr), PG (X.blk s H scope (compEnvC scope cl C X.env) fp) tg (rdG X.K X.mg (own.map (·.2)) sto))
    (ht : ∀ (s : Shared) (H : Hp) (C : Addr) (cl : List (Str × Addr)) (fp : List Addr), PTs (X.blk s H scope (compEnvC scope cl C X.env) fp) ifs (rdT X.K X.mg WF tst))
    (hk : ∀ (s : Shared) (H : Hp) (C : Addr) (cl : List (Str × Addr)) (fp : List Addr), PE (X.blk s H scope (compEnvC scope cl C X.env) fp) kx (rd X.K X.mg WF key))
    (he : ∀ (s : Shared) (H : Hp) (C : Addr) (cl : List (Str × Addr)) (fp : List Addr), PE (X.blk s H scope (compEnvC scope cl C X.env) fp) vx (rd X.K X.mg WF elt))
    (hs : ∀ x, foldedSetIterable iter X.env x = pure x) : PE X (.DictComp kx vx [⟨tg, iter, ifs, 0⟩] scope pos) (rd X.K X.mg W (dcM k (own.map (·.2)) sto tst key elt mi)) :=
  (pe_dc hc hN hi ok hg ht hk he hs).imp fun σ H Q h => dc_read h
/-- name = {..} on one line, the name a local -/
theorem ps_setDc {i : Nat} {y : Str} {py : Pos} {kx vx tg iter : Expr} {ifs : List Expr} {scope : Scope} {own : List (Str × Nat)} {pos spos : Pos} {wi : TI} {g : TG} {tt : TT} {tk te : TE} (hc : X.calm = true) (hN : X.N.Nodup) (hy : X.N[i]? = some y) (hyl : X.env.scope.names.lookup y = some .local)
    (hsw : swapsWith (.DictComp kx vx [⟨tg, iter, ifs, 0⟩] scope pos) (some (.Name y py)) spos.line X.env = pure true) (hi : PI X tg iter wi) (ok : BlkOk X.N X.env.scope scope own)
    (hg : ∀ (s : Shared) (H : Hp) (C : Addr) (cl : List (Str × Addr)) (fp : List Addr), PG (X.blk s H scope (compEnvC scope cl C X.env) fp) tg g) (ht : ∀ (s : Shared) (H : Hp) (C : Addr) (cl : List (Str × Addr)) (fp : List Addr), PTs (X.blk s H scope (compEnvC scope cl C X.env) fp) ifs tt)
    (hk : ∀ (s : Shared) (H : Hp) (C : Addr) (cl : List (Str × Addr)) (fp : List Addr), PE (X.blk s H scope (compEnvC scope cl C X.env) fp) kx tk)
    (he : ∀ (s : Shared) (H : Hp) (C : Addr) (cl : List (Str × Addr)) (fp : List Addr), PE (X.blk s H scope (compEnvC scope cl C X.env) fp) vx te) (hs : ∀ x, foldedSetIterable iter X.env x = pure x) :
    PS X (.Assign [.Name y py] (.DictComp kx vx [⟨tg, iter, ifs, 0⟩] scope pos) spos) (tAsg (tDc wi g tt tk te (own.map (·.2))) (gName i)) := by
  refine ⟨fun pins s σ H D I h => ?_⟩
  rw [exec_Assign_Name_used _ _ _ _ hsw]
  refine wpAny_bind (wpAny_standAt (wpAny_bind ?_))
  show wpAny _ X.A (do let _ ← comprehension (.DictComp kx vx [⟨tg, iter, ifs, 0⟩] scope pos) scope X.env (firstIterPos [⟨tg, iter, ifs, 0⟩] pos) newDict false (eval iter X.env) (some (assign (.Name y py) X.env))) _ _ s
  have h : tDc wi g tt tk te (own.map (·.2)) σ H (fun x H1 => gName i x σ H1 D.nx) := h
  refine wpAny_bind (thn (dc_core (Qf := fun _ s' => SP X pins D .next s') hc hN I hi ok hg ht hk he hs h fun L C s' m H' I' q hn f => ?_) fun _ s' hq => wpAny_pure (wpAny_pure hq))
  show wpAny _ _ (assign (.Name y py) X.env (.ref L)) _ _ _
  refine wpAny_assign_Name (store_ok2 (v := V.ref L) I' hN hy (.inl hyl) rfl (fun s2 I2 ⟨a, sb, ha⟩ => ?_) (.inr hyl))
  obtain ⟨f0, f1, f2, f3, f4, f5⟩ := f
  have haC : C ≠ a := by
    rcases ha with z | z
    · rw [z]; exact f1
    · exact fun e => f4 y a z e.symm
  refine ⟨m, hn.sameBut sb haC, fun h3 sb3 => ?_⟩
  exact ⟨_, H', I2.turned (t' := s2.toks) (fun b o hb e => (sb3.2 b hb).trans e) f0 f1 f3 f4 f5, q⟩
theorem ps_setDcZ {i : Nat} {y : Str} {py : Pos} {kx vx tg iter : Expr} {ifs : List Expr} {scope : Scope} {own : List (Str × Nat)} {pos spos : Pos} {k : IK} {mi : Env → Hd → R (List D)} (hc : X.calm = true) (hN : X.N.Nodup) (hy : X.N[i]? = some y) (hyl : X.env.scope.names.lookup y = some .local)
    (hsw : swapsWith (.DictComp kx vx [⟨tg, iter, ifs, 0⟩] scope pos) (some (.Name y py)) spos.line X.env = pure true) (hi : PI X tg iter (rdI X.K X.mg W k mi)) (ok : BlkOk X.N X.env.scope scope own)
    (hg : ∀ (s : Shared) (H : Hp) (C : Addr) (cl : List (Str × Addr)) (fp : List Addr), PG (X.blk s H scope (compEnvC scope cl C X.env) fp) tg (rdG X.K X.mg (own.map (·.2)) sto))
    (ht : ∀ (s : Shared) (H : Hp) (C : Addr) (cl : List (Str × Addr)) (fp : List Addr), PTs (X.blk s H scope (compEnvC scope cl C X.env) fp) ifs (rdT X.K X.mg WF tst))
    (hk : ∀ (s : Shared) (H : Hp) (C : Addr) (cl : List (Str × Addr)) (fp : List Addr), PE (X.blk s H scope (compEnvC scope cl C X.env) fp) kx (rd X.K X.mg WF key))
    (he : ∀ (s : Shared) (H : Hp) (C : Addr) (cl : List (Str × Addr)) (fp : List Addr), PE (X.blk s H scope (compEnvC scope cl C X.env) fp) vx (rd X.K X.mg WF elt))
    (hs : ∀ x, foldedSetIterable iter X.env x = pure x) : PS X (.Assign [.Name y py] (.DictComp kx vx [⟨tg, iter, ifs, 0⟩] scope pos) spos) (tAsg (rd X.K X.mg W (dcM k (own.map (·.2)) sto tst key elt mi)) (gName i)) :=
  (ps_setDc hc hN hy hyl hsw hi ok hg ht hk he hs).imp fun D σ H h => dc_read h
end
end Z
/-! Z13: statements. -/
namespace Z
open PySem L2 PySem.Spec PyProof.Rows

section
variable (K : PySem.W.Frag) (mg : MG)
/-- a statement's end -/
def KO (W : WX) (D : Ends) (ρ : Rh) (H : Hp) (o : O) : Prop := match o with
  | .nx env h => ∀ σ' ρ' H', Ext ρ H ρ' H' → MOk K mg ρ' H' h → REnv K mg ρ' H' env σ' → D.nx σ' H'
  | .bk env h => ∀ σ' ρ' H', Ext ρ H ρ' H' → MOk K mg ρ' H' h → REnv K mg ρ' H' env σ' → D.bk σ' H'
  | .ct env h => ∀ σ' ρ' H', Ext ρ H ρ' H' → MOk K mg ρ' H' h → REnv K mg ρ' H' env σ' → D.ct σ' H'
  | .rt d h => ∀ ρ' H' v, Ext ρ H ρ' H' → MOk K mg ρ' H' h → RD K mg ρ' H' d v → D.rt v H'
  | .exc C fs env h => ∀ σ' ρ' H' cls dd, Ext ρ H ρ' H' → MOk K mg ρ' H' h → REnv K mg ρ' H' env σ' → RX K mg ρ' H' C fs cls dd → W cls dd σ' H'
  | .bad => False
def rdS (W : WX) (m : Env → Hd → O) : TS := fun D σ H => ∃ ρ env hd, REnv K mg ρ H env σ ∧ MOk K mg ρ H hd ∧ KO K mg W D ρ H (m env hd)
end
section
variable {K : PySem.W.Frag} {mg : MG} {W : WX} {D : Ends} {σ : L2.St} {ρ ρ1 : Rh} {H H1 : Hp}
theorem KO.ext {o : O} (e : Ext ρ H ρ1 H1) (k : KO K mg W D ρ H o) : KO K mg W D ρ1 H1 o := by
  cases o with
  | nx env h => exact fun σ' ρ' H' e' => k σ' ρ' H' (e.trans e')
  | bk env h => exact fun σ' ρ' H' e' => k σ' ρ' H' (e.trans e')
  | ct env h => exact fun σ' ρ' H' e' => k σ' ρ' H' (e.trans e')
  | rt d h => exact fun ρ' H' v e' => k ρ' H' v (e.trans e')
  | exc C fs env h => exact fun σ' ρ' H' cls dd e' => k σ' ρ' H' cls dd (e.trans e')
  | bad => exact k
/-- behind an expression -/
theorem KO.to {α : Type} {r : R α} {env : Env} {f : α → Hd → O} (re : REnv K mg ρ H env σ) (k : KO K mg W D ρ H (r.to env f)) : Kt K mg W σ ρ H r (fun a h ρ' H' => Ext ρ H ρ' H' ∧ MOk K mg ρ' H' h ∧ KO K mg W D ρ' H' (f a h)) := by
  cases r with
  | ok a h => exact fun ρ' H' e m => ⟨e, m, KO.ext (o := f a h) e k⟩
  | exc C fs h => exact fun ρ' H' cls dd e m x => k σ ρ' H' cls dd e m (re.ext e) x
  | bad => exact k
theorem KO.then_ {o : O} {f : Env → Hd → O} (k : KO K mg W D ρ H (o.then_ f)) : KO K mg W { D with nx := fun σ' H' => ∃ ρ' env h, REnv K mg ρ' H' env σ' ∧ MOk K mg ρ' H' h ∧ KO K mg W D ρ' H' (f env h) } ρ H o := by
  cases o with
  | nx env h => exact fun σ' ρ' H' e m re => ⟨ρ', env, h, re, m, KO.ext (o := f env h) e k⟩
  | bk env h => exact k
  | ct env h => exact k
  | rt d h => exact k
  | exc C fs env h => exact k
  | bad => exact k
theorem KO.mono {D' : Ends} {o : O} (k : KO K mg W D ρ H o) (h1 : ∀ σ H, D.nx σ H → D'.nx σ H) (h2 : ∀ σ H, D.bk σ H → D'.bk σ H) (h3 : ∀ σ H, D.ct σ H → D'.ct σ H) (h4 : ∀ v H, D.rt v H → D'.rt v H) : KO K mg W D' ρ H o := by
  cases o with
  | nx env h => exact fun σ' ρ' H' e m re => h1 _ _ (k σ' ρ' H' e m re)
  | bk env h => exact fun σ' ρ' H' e m re => h2 _ _ (k σ' ρ' H' e m re)
  | ct env h => exact fun σ' ρ' H' e m re => h3 _ _ (k σ' ρ' H' e m re)
  | rt d h => exact fun ρ' H' v e m re => h4 _ _ (k ρ' H' v e m re)
  | exc C fs env h => exact k
  | bad => exact k
end
section
variable {X : Cx} {W : WX} {e o i : Expr} {me mo' mi : Env → Hd → R D} {ms mt : Env → Hd → O} {mt' : Env → Hd → R Bool} {pos : Pos} {st : Stmt} {rest body orelse : List Stmt}
theorem ps_nope : PS X st (rdS X.K X.mg W fun _ _ => .bad) := ps_never.imp fun D σ H ⟨ρ, env, hd, re, mo, k⟩ => k
theorem pss_nope {sts : List Stmt} : PSs X sts (rdS X.K X.mg W fun _ _ => .bad) := pss_never.imp fun D σ H ⟨ρ, env, hd, re, mo, k⟩ => k
theorem next_of {D : Ends} {σ : L2.St} {H : Hp} (h : rdS X.K X.mg W (fun env hd => .nx env hd) D σ H) : tNext D σ H := by
  obtain ⟨ρ, env, hd, re, mo, k⟩ := h
  exact k σ ρ H .refl mo re
theorem ps_passZ : PS X (.Pass pos) (rdS X.K X.mg W fun env hd => .nx env hd) := ps_pass.imp fun D σ H h => next_of h
theorem pss_nilZ : PSs X [] (rdS X.K X.mg W fun env hd => .nx env hd) := pss_nil.imp fun D σ H h => next_of h
theorem ps_brkZ : PS X (.Break pos) (rdS X.K X.mg W fun env hd => .bk env hd) := ps_break.imp fun D σ H ⟨ρ, env, hd, re, mo, k⟩ => k σ ρ H .refl mo re
theorem ps_contZ : PS X (.Continue pos) (rdS X.K X.mg W fun env hd => .ct env hd) := ps_continue.imp fun D σ H ⟨ρ, env, hd, re, mo, k⟩ => k σ ρ H .refl mo re
theorem pss_consZ (h1 : PS X st (rdS X.K X.mg W ms)) (h2 : PSs X rest (rdS X.K X.mg W mt)) : PSs X (st :: rest) (rdS X.K X.mg W fun env hd => (ms env hd).then_ mt) :=
  (pss_cons h1 h2).imp fun D σ H ⟨ρ, env, hd, re, mo, k⟩ => ⟨ρ, env, hd, re, mo, k.then_⟩
theorem ps_retZ (he : PE X e (rd X.K X.mg W me)) : PS X (.Return (some e) pos) (rdS X.K X.mg W fun env hd => (me env hd).to env fun v hd => .rt v hd) :=
  (ps_ret he).imp fun D σ H ⟨ρ, env, hd, re, mo, k⟩ => ⟨ρ, env, hd, re, mo, (KO.to re k).imp fun d h ρ' H' ⟨e, m, k⟩ v rv => k ρ' H' v .refl m rv⟩
theorem ps_retNZ : PS X (.Return none pos) (rdS X.K X.mg W fun _ hd => .rt .non hd) := ps_retN.imp fun D σ H ⟨ρ, env, hd, re, mo, k⟩ => k ρ H .non .refl mo .non
theorem ps_exZ (he : PE X e (rd X.K X.mg W me)) (hs : swapsWith e none pos.line X.env = pure false) : PS X (.Expr e pos) (rdS X.K X.mg W fun env hd => (me env hd).to env fun _ hd => .nx env hd) :=
  (ps_expr he hs).imp fun D σ H ⟨ρ, env, hd, re, mo, k⟩ => ⟨ρ, env, hd, re, mo, (KO.to re k).imp fun d h ρ' H' ⟨e, m, k⟩ v rv => k σ ρ' H' .refl m (re.ext e)⟩
theorem ps_ifZ {c : Expr} (hc : PT X c (rdT X.K X.mg W mt')) (ha : PSs X body (rdS X.K X.mg W ms)) (hb : PSs X orelse (rdS X.K X.mg W mt)) :
    PS X (.If c body orelse pos) (rdS X.K X.mg W fun env hd => (mt' env hd).to env fun k hd => if k then ms env hd else mt env hd) :=
  (ps_if hc ha hb).imp fun D σ H ⟨ρ, env, hd, re, mo, k⟩ => ⟨ρ, env, hd, re, mo, (KO.to re k).imp fun b h ρ' H' ⟨e, m, k⟩ => by
    cases b with
    | true => exact ⟨ρ', env, h, re.ext e, m, k⟩
    | false => exact ⟨ρ', env, h, re.ext e, m, k⟩⟩

/-! ### stores -/
theorem asg_read {own : List Nat} {t : Tg} {D : Ends} {σ : L2.St} {H : Hp} (h : rdS X.K X.mg W (fun env hd => (me env hd).to env fun v hd => match storeS t v env hd with | some env => .nx env hd | none => .bad) D σ H) :
    tAsg (rd X.K X.mg W me) (rdG X.K X.mg own (storeS t)) D σ H := by
  obtain ⟨ρ, env, hd, re, mo, k⟩ := h
  refine ⟨ρ, env, hd, re, mo, (KO.to re k).imp fun d h ρ' H' ⟨e, m, k⟩ v rv => ?_⟩
  cases q : storeS t d env h with
  | none => rw [q] at k; exact k.elim
  | some env' =>
    rw [q] at k
    exact ⟨ρ', env, h, d, env', re.ext e, m, rv, q, fun σ' ρ2 H2 e2 m2 re2 _ => k σ' ρ2 H2 e2 m2 re2⟩
theorem ps_setZ {own : List Nat} {t : Tg} {tg : Expr} (he : PE X e (rd X.K X.mg W me)) (hg : PG X tg (rdG X.K X.mg own (storeS t))) (hs : swapsWithSole [tg] e pos.line X.env = pure false) (hw : swappedStores [tg] e X.env = pure none)
    (h1 : (assignEach [tg] X.env).map (·.2) = [assign tg X.env]) : PS X (.Assign [tg] e pos) (rdS X.K X.mg W fun env hd => (me env hd).to env fun v hd => match storeS t v env hd with | some env => .nx env hd | none => .bad) :=
  (ps_asg he hg hs hw h1).imp fun D σ H h => asg_read h
theorem name_read {i : Nat} {D : Ends} {σ : L2.St} {H : Hp} (h : rdS X.K X.mg W (fun env hd => (me env hd).to env fun v hd => match storeS (.name i) v env hd with | some env => .nx env hd | none => .bad) D σ H) :
    tAsg (rd X.K X.mg W me) (gName i) D σ H := by
  obtain ⟨ρ, env, hd, re, mo, k⟩ := h
  exact ⟨ρ, env, hd, re, mo, (KO.to re k).imp fun d h ρ' H' ⟨e, m, k⟩ v rv => k _ ρ' H' .refl m ((re.ext e).set i rv)⟩
/-- from the right -/
theorem ps_swap2Z {i j : Nat} {x y : Str} {tg : Expr} (hN : X.N.Nodup) (hc : X.calm = true) (hi : NmOk X i x) (hj : NmOk X j y) (hij : i ≠ j) (he : PE X e (rd X.K X.mg W me)) (hs : swapsWithSole [tg] e pos.line X.env = pure false) (hw : swappedStores [tg] e X.env = pure (some [x, y])) :
    PS X (.Assign [tg] e pos) (rdS X.K X.mg W fun env hd => (me env hd).to env fun v hd => if isTup v = true then match storeS (.names [i, j]) v env hd with | some env => .nx env hd | none => .bad else .bad) := ⟨fun pins s σ H D I ⟨ρ, env, hd, re, mo, k⟩ => by
  rw [exec_Assign_arm]
  refine wpAny_bind (wpAny_standAt ?_)
  rw [hs]
  refine wpAny_bind (wpAny_pure ?_)
  rw [if_neg (by decide)]
  refine wpAny_bind (thn (he.run pins s σ H (fun v H1 => ∃ a x y, v = V.ref a ∧ SqT X.K H1 a [x, y] ∧ D.nx ((σ.set j (some y)).set i (some x)) H1) I ⟨ρ, env, hd, re, mo, (KO.to re k).imp fun d h ρ' H' ⟨e, m, k⟩ v rv => ?_⟩) fun u s1 ⟨v, H1, I1, r1, a, u1, u2, ev, hq, q⟩ => ?_)
  · split at k
    · rename_i ht
      cases d with
      | tup xs =>
        cases rv with
        | tup n hH r =>
          cases r with
          | nil => exact k.elim
          | cons r1 r =>
            cases r with
            | nil => exact k.elim
            | cons r2 r =>
              cases r with
              | cons _ _ => exact k.elim
              | nil =>
                refine ⟨_, _, _, rfl, SqT.of hH, ?_⟩
                rw [List.set_comm _ _ (Ne.symm hij)]
                exact k _ ρ' H' .refl m (((re.ext e).set i r1).set j r2)
      | _ => cases ht
    · exact k.elim
  · subst ev
    cases r1
    obtain ⟨its, rv, p, _⟩ := I1.tuple hq
    obtain ⟨w1, w2, rfl, p1, p2⟩ := Vals.two rv
    rw [hw]
    refine wpAny_bind (wpAny_pure ?_)
    show wpAny (model X.prog X.w) X.A (do rule "assign.swapped-stores"; let items ← unpackItems (.ref a) 2 none; assignInOrder [fun v => bindName X.env y v, fun v => bindName X.env x v] items.reverse; pure Flow.next) _ _ _
    refine wpAny_bind (wpAny_rule (wpAny_bind (unpackItems_tuple (items := #[w1, w2]) (I1.ok.hd hc) p fun h' hx' => ?_)))
    have I3 := I1.kept (h' := h') (t' := s1.toks) fun b o e => hx' b o (Nat.ne_of_lt (Heap.lt_size e)) e
    show wpAny _ _ (assignInOrder [fun v => bindName X.env y v, fun v => bindName X.env x v] [w2, w1] >>= fun _ => pure Flow.next) _ _ _
    refine wpAny_bind (assignInOrder_cons (wpAny_bindName (store_ok I3 hN hj.at_ hj.loc p2 (fun s2 I4 => ?_) hj.fn)))
    exact assignInOrder_cons (wpAny_bindName (store_ok I4 hN hi.at_ hi.loc p1 (fun s3 I5 => assignInOrder_nil (wpAny_pure ⟨_, H1, I5, q⟩)) hi.fn))⟩
theorem ps_swap3Z {i j l : Nat} {x y z : Str} {tg : Expr} (hN : X.N.Nodup) (hc : X.calm = true) (hi : NmOk X i x) (hj : NmOk X j y) (hl : NmOk X l z) (hij : i ≠ j) (hil : i ≠ l) (hjl : j ≠ l) (he : PE X e (rd X.K X.mg W me)) (hs : swapsWithSole [tg] e pos.line X.env = pure false)
    (hw : swappedStores [tg] e X.env = pure (some [x, y, z])) :
    PS X (.Assign [tg] e pos) (rdS X.K X.mg W fun env hd => (me env hd).to env fun v hd => if isTup v = true then match storeS (.names [i, j, l]) v env hd with | some env => .nx env hd | none => .bad else .bad) := ⟨fun pins s σ H D I ⟨ρ, env, hd, re, mo, k⟩ => by
  rw [exec_Assign_arm]
  refine wpAny_bind (wpAny_standAt ?_)
  rw [hs]
  refine wpAny_bind (wpAny_pure ?_)
  rw [if_neg (by decide)]
  refine wpAny_bind (thn (he.run pins s σ H (fun v H1 => ∃ a x y z, v = V.ref a ∧ SqT X.K H1 a [x, y, z] ∧ D.nx (((σ.set l (some z)).set j (some y)).set i (some x)) H1) I ⟨ρ, env, hd, re, mo, (KO.to re k).imp fun d h ρ' H' ⟨e, m, k⟩ v rv => ?_⟩) fun u s1 ⟨v, H1, I1, r1, a, u1, u2, u3, ev, hq, q⟩ => ?_)
  · split at k
    · rename_i ht
      cases d with
      | tup xs =>
        cases rv with
        | tup n hH r =>
          cases r with
          | nil => exact k.elim
          | cons r1 r =>
            cases r with
            | nil => exact k.elim
            | cons r2 r =>
              cases r with
              | nil => exact k.elim
              | cons r3 r =>
                cases r with
                | cons _ _ => exact k.elim
                | nil =>
                  refine ⟨_, _, _, _, rfl, SqT.of hH, ?_⟩
                  rw [List.set_comm _ _ (Ne.symm hjl), List.set_comm _ _ (Ne.symm hil), List.set_comm _ _ (Ne.symm hij)]
                  exact k _ ρ' H' .refl m ((((re.ext e).set i r1).set j r2).set l r3)
      | _ => cases ht
    · exact k.elim
  · subst ev
    cases r1
    obtain ⟨its, rv, p, _⟩ := I1.tuple hq
    cases rv with
    | cons p1 rv =>
      obtain ⟨w2, w3, rfl, p2, p3⟩ := Vals.two rv
      rename_i w1
      rw [hw]
      refine wpAny_bind (wpAny_pure ?_)
      show wpAny (model X.prog X.w) X.A (do rule "assign.swapped-stores"; let items ← unpackItems (.ref a) 3 none; assignInOrder [fun v => bindName X.env z v, fun v => bindName X.env y v, fun v => bindName X.env x v] items.reverse; pure Flow.next) _ _ _
      refine wpAny_bind (wpAny_rule (wpAny_bind (unpackItems_tuple (items := #[w1, w2, w3]) (I1.ok.hd hc) p fun h' hx' => ?_)))
      have I3 := I1.kept (h' := h') (t' := s1.toks) fun b o e => hx' b o (Nat.ne_of_lt (Heap.lt_size e)) e
      show wpAny _ _ (assignInOrder [fun v => bindName X.env z v, fun v => bindName X.env y v, fun v => bindName X.env x v] [w3, w2, w1] >>= fun _ => pure Flow.next) _ _ _
      refine wpAny_bind (assignInOrder_cons (wpAny_bindName (store_ok I3 hN hl.at_ hl.loc p3 (fun s2 I4 => ?_) hl.fn)))
      refine assignInOrder_cons (wpAny_bindName (store_ok I4 hN hj.at_ hj.loc p2 (fun s3 I5 => ?_) hj.fn))
      exact assignInOrder_cons (wpAny_bindName (store_ok I5 hN hi.at_ hi.loc p1 (fun s4 I6 => assignInOrder_nil (wpAny_pure ⟨_, H1, I6, q⟩)) hi.fn))⟩
end
end Z
/-! Z14: loops, fields, items. -/
namespace Z
open PySem L2 PySem.Spec PyProof.Rows

section
variable {X : Cx} {W : WX} {sto : D → Env → Hd → Option Env} {bd : Env → Hd → O}
/-- a loop's turns -/
structure Lps (sto : D → Env → Hd → Option Env) (bd : Env → Hd → O) (n : Nat) (it : Nat → Hd → Option D) (L : Nat → Env → Hd → O) : Prop where
  go : ∀ i env hd, i < n → L i env hd = .bad ∨ ∃ d env1, it i hd = some d ∧ sto d env hd = some env1 ∧ L i env hd = (match bd env1 hd with
    | .nx env2 h2 => L (i + 1) env2 h2
    | .ct env2 h2 => L (i + 1) env2 h2
    | .bk env2 h2 => .nx env2 h2
    | o => o)
  end_ : ∀ env hd, L n env hd = .bad ∨ L n env hd = .nx env hd
theorem lpsV (vs : List D) : Lps sto bd vs.length (fun i _ => vs[i]?) (fun i env hd => forV sto bd (vs.drop i) env hd) where
  go := fun i env hd hi => by
    rw [List.drop_eq_getElem_cons hi]
    simp only [forV]
    cases e : sto vs[i] env hd with
    | none => exact .inl rfl
    | some env1 => exact .inr ⟨vs[i], env1, by simp [hi], e, rfl⟩
  end_ := fun env hd => by
    rw [List.drop_length]
    exact .inr rfl
theorem lpsO (a n : Nat) : Lps sto bd n (fun i hd => match hd[a]? with | some (.lst xs) => xs[i]? | _ => none) (fun i env hd => forO sto bd a n (n - i) env hd) where
  go := fun i env hd hi => by
    have en : n - i = (n - (i + 1)) + 1 := by omega
    have ei : n - (n - (i + 1) + 1) = i := by omega
    rw [en]
    simp only [forO]
    split
    · rename_i xs q
      split
      · rw [ei]
        split
        · exact .inl rfl
        · rename_i v ev
          cases e : sto v env hd with
          | none => exact .inl rfl
          | some env1 => exact .inr ⟨v, env1, by first | exact ev | (rw [q]; exact ev), e, rfl⟩
      · exact .inl rfl
    · exact .inl rfl
  end_ := fun env hd => by
    rw [Nat.sub_self]
    simp only [forO]
    split
    · split
      · exact .inr rfl
      · exact .inl rfl
    · exact .inl rfl
theorem forO_at {a n k : Nat} {env : Env} {hd : Hd} (h : forO sto bd a n k env hd ≠ .bad) : ∃ xs, hd[a]? = some (.lst xs) ∧ xs.length = n := by
  cases k with
  | zero =>
    simp only [forO] at h
    split at h
    · rename_i xs q
      split at h
      · rename_i hl
        exact ⟨xs, q, hl⟩
      · exact absurd rfl h
    · exact absurd rfl h
  | succ k =>
    simp only [forO] at h
    split at h
    · rename_i xs q
      split at h
      · rename_i hl
        exact ⟨xs, q, hl⟩
      · exact absurd rfl h
    · exact absurd rfl h
theorem KO.ne {K : PySem.W.Frag} {mg : MG} {D : Ends} {ρ : Rh} {H : Hp} {o : O} (k : KO K mg W D ρ H o) : o ≠ .bad := fun e => by rw [e] at k; exact k
theorem for_turns {J : It} {n : Nat} {it : Nat → Hd → Option D} {L : Nat → Env → Hd → O} {G : Hp → Prop} {ρ1 : Rh} {H1 : Hp} {h1 : Hd} {σ : L2.St} {own : List Nat} {D : Ends} {env1 : Env}
    (t : Lps sto bd n it L) (w : Walk J n G (fun i H x H' => J.yld i H x H')) (m1 : MOk X.K X.mg ρ1 H1 h1) (re : REnv X.K X.mg ρ1 H1 env1 σ)
    (hG : ∀ i (ρ' : Rh) H' hd env, i ≤ n → Wx ρ1 H1 ρ' H' → MOk X.K X.mg ρ' H' hd → L i env hd ≠ .bad → G H')
    (hY : ∀ i (ρ' : Rh) H' hd x H'' d, Wx ρ1 H1 ρ' H' → MOk X.K X.mg ρ' H' hd → it i hd = some d → J.yld i H' x H'' → Ext ρ' H' ρ' H'' ∧ MOk X.K X.mg ρ' H'' hd ∧ RD X.K X.mg ρ' H'' d x)
    (k : KO X.K X.mg W D ρ1 H1 (L 0 env1 h1)) :
    ∃ Wm : Nat → Nat → L2.St → Hp → Prop, (∃ q, Wm 0 q σ H1) ∧ ∀ i q σ H, Wm i q σ H →
      (J.stop i H ∧ D.nx σ H) ∨ (J.go i H ∧ ∃ N : L2.St → Hp → Prop, (∀ σ' H', N σ' H' → ∃ m', m' < q ∧ Wm (i + 1) m' σ' H') ∧ ∀ x H', J.yld i H x H' → rdG X.K X.mg own sto x σ H' fun σ2 H2 => rdS X.K X.mg W bd { D with nx := N, ct := N, bk := D.nx } σ2 H2) := by
  refine for_it w (fun i σ H' => ∃ ρ' hd' env, Wx ρ1 H1 ρ' H' ∧ MOk X.K X.mg ρ' H' hd' ∧ REnv X.K X.mg ρ' H' env σ ∧ KO X.K X.mg W D ρ' H' (L i env hd')) ?_ ?_ ?_ ?_
  · exact ⟨ρ1, h1, env1, .refl, m1, re, k⟩
  · rintro i σ H' hi ⟨ρ', hd', env, wx, mo, re', k'⟩
    exact hG i ρ' H' hd' env hi wx mo k'.ne
  · rintro i x σ H' H'' hi ⟨ρ', hd', env, wx, mo, re', k'⟩ y
    rcases t.go i env hd' hi with q | ⟨d, env2, q1, q2, q3⟩
    · exact absurd q k'.ne
    · obtain ⟨x1, m2, rx⟩ := hY i ρ' H' hd' x H'' d wx mo q1 y
      refine ⟨ρ', env, hd', d, env2, re'.ext x1, m2, rx, q2, fun σ' ρ2 H2 x2 m3 re2 _ => ⟨ρ2, env2, hd', re2, m3, ?_⟩⟩
      rw [q3] at k'
      have E := x1.trans x2
      cases e : bd env2 hd' with
      | nx env3 h3 =>
        rw [e] at k'
        exact fun σ3 ρ3 H3 e3 m3 re3 => ⟨ρ3, h3, env3, wx.trans (E.trans e3).w, m3, re3, KO.ext (E.trans e3) k'⟩
      | ct env3 h3 =>
        rw [e] at k'
        exact fun σ3 ρ3 H3 e3 m3 re3 => ⟨ρ3, h3, env3, wx.trans (E.trans e3).w, m3, re3, KO.ext (E.trans e3) k'⟩
      | bk env3 h3 =>
        rw [e] at k'
        exact fun σ3 ρ3 H3 e3 m3 re3 => k' σ3 ρ3 H3 (E.trans e3) m3 re3
      | rt d3 h3 =>
        rw [e] at k'
        exact fun ρ3 H3 v e3 m3 rv => k' ρ3 H3 v (E.trans e3) m3 rv
      | exc C fs env3 h3 =>
        rw [e] at k'
        exact fun σ3 ρ3 H3 cls dd e3 m3 re3 rx => k' σ3 ρ3 H3 cls dd (E.trans e3) m3 re3 rx
      | bad => rw [e] at k'; exact k'.elim
  · rintro σ H' ⟨ρ', hd', env, wx, mo, re', k'⟩
    rcases t.end_ env hd' with q | q
    · exact absurd q k'.ne
    · rw [q] at k'
      exact k' σ ρ' H' .refl mo re'
/-- for target in iter: .. -/
theorem ps_forZ {iter tg : Expr} {body : List Stmt} {own : List Nat} {k : IK} {mi : Env → Hd → R (List D)} {pos : Pos} (hp : PassesOwn (model X.prog X.w) X.A X.env X.xe) (hc : X.calm = true) (hi : PI X tg iter (rdI X.K X.mg W k mi)) (hg : PG X tg (rdG X.K X.mg own sto))
    (hb : PSs X body (rdS X.K X.mg W bd)) (hs : ∀ x, foldedSetIterable iter X.env x = pure x) : PS X (.For tg iter body [] pos) (rdS X.K X.mg W fun env hd => (mi env hd).to env fun xs hd => match iterS k xs hd with
      | some (.inl vs) => forV sto bd vs env hd
      | some (.inr a) => (match hd[a]? with
        | some (.lst us) => forO sto bd a us.length us.length env hd
        | _ => .bad)
      | none => .bad) :=
  (ps_for hp hc hi hg hb hs).imp fun D σ H ⟨ρ, env, hd, re, mo, k0⟩ => ⟨ρ, env, hd, re, mo, (KO.to re k0).imp fun xs h1 ρ1 H1 ⟨e1, m1, k1⟩ => ⟨e1, m1, by
    have re1 := re.ext e1
    cases q : iterS k xs h1 with
    | none => rw [q] at k1; exact k1.elim
    | some r =>
      rw [q] at k1
      cases r with
      | inl vs =>
        intro J wk
        exact for_turns (X := X) (G := fun H' => ∃ ρ', Wx ρ1 H1 ρ' H') (lpsV vs) ⟨fun i H' hi ⟨ρ', e⟩ => wk.go i ρ' H' hi e, fun H' ⟨ρ', e⟩ => wk.stop ρ' H' e, fun _ _ _ _ _ _ y => y⟩ m1 re1
          (fun i ρ' H' hd env _ wx _ _ => ⟨_, wx⟩) (fun i ρ' H' hd x H'' d wx mo' e y => wk.yld i _ H' x H'' hd d wx mo' e y) k1
      | inr a =>
        intro p hp'
        dsimp only at k1
        split at k1
        · rename_i us ha
          have seen : ∀ {ρ' : Rh} {H' : Hp} {hd : Hd} {ys : List Z.D}, Wx ρ1 H1 ρ' H' → MOk X.K X.mg ρ' H' hd → hd[a]? = some (.lst ys) → ∃ vs, H' p = some (.lst vs) ∧ RDs X.K X.mg ρ' H' ys vs := fun {ρ' H' hd ys} wx mo' hy => by
            have r := mo'.at_ a p _ (wx.get a p hp') hy
            cases r with
            | lst h q => exact ⟨_, h, q⟩
          have k2 : KO X.K X.mg W D ρ1 H1 (forO sto bd a us.length (us.length - 0) env h1) := k1
          refine for_turns (X := X) (G := fun H' => ∃ xs, SqL X.K H' p xs ∧ xs.length = us.length) (lpsO a us.length) ⟨fun i H' hi ⟨xs, h, l⟩ => ⟨xs, xs[i]'(by omega), h, by simp [l, hi]⟩, fun H' ⟨xs, h, l⟩ => ⟨xs, h, by omega⟩, fun _ _ _ _ _ _ y => y⟩ m1 re1
            (fun i ρ' H' hd env _ wx mo' ke => ?_) (fun i ρ' H' hd x H'' d wx mo' e y => ?_) k2
          · obtain ⟨ys, hy, hl⟩ := forO_at ke
            obtain ⟨vs, h, r⟩ := seen wx mo' hy
            exact ⟨vs, SqL.of h, by rw [← r.length]; exact hl⟩
          · split at e
            · rename_i ys hy
              obtain ⟨vs, h, r⟩ := seen wx mo' hy
              obtain ⟨q1, q2⟩ := y
              subst q1
              obtain ⟨w, hw, rw'⟩ := r.get e
              have q3 := q2 vs (SqL.of h)
              rw [hw] at q3
              cases q3
              exact ⟨.refl, mo', rw'⟩
            · cases e
        · exact k1.elim⟩⟩
end

/-! ### fields -/
theorem nm_inj {a b : String} (h : nm a = nm b) : a = b := by
  have h1 : (nm a).cps.toList = (nm b).cps.toList := by rw [h]
  have e1 : (nm a).cps.toList = a.toList.map Char.toNat := PyProof.Rows.signs_ofString a
  have e2 : (nm b).cps.toList = b.toList.map Char.toNat := PyProof.Rows.signs_ofString b
  rw [e1, e2] at h1
  have h2 : a.toList = b.toList := (List.map_inj_right (fun x y e => Char.toNat_inj.mp e)).mp h1
  exact String.toList_inj.mp h2
section
variable {K : PySem.W.Frag} {mg : MG} {ρ : Rh} {H : Hp}
theorem RDf.len : ∀ {fs : List (String × D)} {gs : List (PySem.Str × V)}, RDf K mg ρ H fs gs → fs.length = gs.length
  | _, _, .nil => rfl
  | _, _, .cons _ r => congrArg Nat.succ r.len
theorem RDf.look {f : String} {d : D} : ∀ {fs : List (String × D)} {gs : List (PySem.Str × V)}, RDf K mg ρ H fs gs → fs.lookup f = some d → ∃ v, gs.lookup (nm f) = some v ∧ RD K mg ρ H d v
  | _, _, .nil, e => by cases e
  | _, _, .cons (f := g) (x := x) (v := v) (xs := xs) (vs := vs) r q, e => by
    rw [List.lookup_cons] at e ⊢
    by_cases h : f = g
    · subst h
      simp only [beq_self_eq_true] at e ⊢
      cases e
      exact ⟨v, rfl, r⟩
    · have h1 : (f == g) = false := beq_eq_false_iff_ne.mpr h
      have h2 : (nm f == nm g) = false := beq_eq_false_iff_ne.mpr fun z => h (nm_inj z)
      rw [h1] at e
      rw [h2]
      exact q.look e
theorem RDf.no {f : String} : ∀ {fs : List (String × D)} {gs : List (PySem.Str × V)}, RDf K mg ρ H fs gs → fs.lookup f = none → gs.lookup (nm f) = none
  | _, _, .nil, e => rfl
  | _, _, .cons (f := g) (x := x) (v := v) (xs := xs) (vs := vs) r q, e => by
    rw [List.lookup_cons] at e ⊢
    by_cases h : f = g
    · subst h
      simp only [beq_self_eq_true] at e
      cases e
    · have h1 : (f == g) = false := beq_eq_false_iff_ne.mpr h
      have h2 : (nm f == nm g) = false := beq_eq_false_iff_ne.mpr fun z => h (nm_inj z)
      rw [h1] at e
      rw [h2]
      exact q.no e
theorem RDf.put {f : String} {d : D} {v : V} (rd : RD K mg ρ H d v) : ∀ {fs : List (String × D)} {gs : List (PySem.Str × V)}, RDf K mg ρ H fs gs → RDf K mg ρ H (putFd f d fs) (putF (nm f) v gs)
  | _, _, .nil => .cons rd .nil
  | _, _, .cons (f := g) (x := x) (v := v') (xs := xs) (vs := vs) r q => by
    unfold putFd putF
    by_cases h : g = f
    · subst h
      rw [if_pos rfl, if_pos rfl]
      exact .cons rd q
    · rw [if_neg h, if_neg (fun z => h (nm_inj z))]
      exact .cons r (q.put rd)
end
section
variable {X : Cx} {W : WX} {g : G} {e o i : Expr} {me mo' mi : Env → Hd → R D} {pos apos : Pos}
/-- o.f = e -/
theorem ps_setaZ {f : String} (tf : TF X.K X.mg g.T) (he : PE X e (rd X.K X.mg W me)) (ho : PE X o (rd X.K X.mg W mo')) (hs : swapsWith e (some (.Attribute o (nm f) apos)) pos.line X.env = pure false) :
    PS X (.Assign [.Attribute o (nm f) apos] e pos) (rdS X.K X.mg W fun env hd => (me env hd).to env fun v hd => (mo' env hd).to env fun x hd => match setaS g x f v hd with
      | some hd => .nx env hd
      | none => .bad) :=
  (ps_fld ho he hs).imp fun D σ H ⟨ρ, env, hd, re, mo, k⟩ => ⟨ρ, env, hd, re, mo, (KO.to re k).imp fun v h1 ρ1 H1 ⟨e1, m1, k1⟩ y ry => ⟨ρ1, env, h1, re.ext e1, m1, (KO.to (re.ext e1) k1).imp fun x h2 ρ2 H2 ⟨e2, m2, k2⟩ w rw' => by
    cases q : setaS g x f v h2 with
    | none => rw [q] at k2; exact k2.elim
    | some h3 =>
      rw [q] at k2
      unfold setaS at q
      split at q
      · rename_i n _
        split at q
        · rename_i C fs hn
          split at q
          · rename_i c hc
            split at q
            · rename_i hf
              cases q
              cases rw' with
              | obj hp =>
                rename_i p
                have mm := m2.at_ n p _ hp hn
                cases mm with
                | ins hg hH r =>
                  rename_i cc dx gs
                  obtain ⟨a, F⟩ := tf.cl C c hc
                  have ea : a = cc := by
                    have := F.mg_.symm.trans hg
                    cases this
                    rfl
                  subst ea
                  refine ⟨p, a, dx, gs, rfl, hH, F.cls, F.noat f hf.1 hf.2.1, by rw [← r.len]; exact hf.2.2, ?_⟩
                  have pv : p ∈ ρ2.v := List.mem_of_getElem? hp
                  have ex := Ext.put (ρ := ρ2) (H := H2) (p := p) (o := .ins a dx (putF (nm f) y gs)) (.inl pv) (m2.seen pv)
                  exact k2 σ ρ2 _ ex (m2.put hp (.ins F.mg_ upd_same ((r.put (ry.ext e2)).ext ex))) (((re.ext e1).ext e2).ext ex)
            · cases q
          · cases q
        · cases q
      · cases q⟩⟩
/-- o[i] = e -/
theorem ps_setiZ (he : PE X e (rd X.K X.mg W me)) (ho : PE X o (rd X.K X.mg W mo')) (hi : PE X i (rd X.K X.mg W mi)) (ha : ∀ v, assign (.Subscript o i apos) X.env v = (do
      let ov ← holding [v] (eval o X.env)
      let iv ← holding [v, ov] (eval i X.env)
      standAt apos
      holding [v, ov, iv] (setItem ov iv v)
      release [v, ov, iv] [])) (hs : swapsWithSole [.Subscript o i apos] e pos.line X.env = pure false) (hw : swappedStores [.Subscript o i apos] e X.env = pure none) (h1 : (assignEach [.Subscript o i apos] X.env).map (·.2) = [assign (.Subscript o i apos) X.env]) :
    PS X (.Assign [.Subscript o i apos] e pos) (rdS X.K X.mg W fun env hd => (me env hd).to env fun v hd => (mo' env hd).to env fun x hd => (mi env hd).to env fun j hd => match setiS x j v hd with
      | some hd => .nx env hd
      | none => .bad) :=
  (ps_asg he (pg_sub ho hi set_list ha) hs hw h1).imp fun D σ H ⟨ρ, env, hd, re, mo, k⟩ => ⟨ρ, env, hd, re, mo, (KO.to re k).imp fun v h1 ρ1 H1 ⟨e1, m1, k1⟩ y ry => ⟨ρ1, env, h1, re.ext e1, m1, (KO.to (re.ext e1) k1).imp fun x h2 ρ2 H2 ⟨e2, m2, k2⟩ w rw' =>
    ⟨ρ2, env, h2, (re.ext e1).ext e2, m2, (KO.to ((re.ext e1).ext e2) k2).imp fun j h3 ρ3 H3 ⟨e3, m3, k3⟩ u ru => by
    have rw3 := rw'.ext e3
    cases q : setiS x j v h3 with
    | none => rw [q] at k3; exact k3.elim
    | some h4 =>
      rw [q] at k3
      unfold setiS at q
      split at q
      · rename_i n z _ _
        split at q
        · rename_i xs hn
          split at q
          · rename_i l hl
            cases q
            cases ru
            cases rw3 with
            | obj hp =>
              rename_i p
              have mm := m3.at_ n p _ hp hn
              cases mm with
              | lst hH r =>
                rename_i vs
                have pv : p ∈ ρ3.v := List.mem_of_getElem? hp
                have ex := Ext.put (ρ := ρ3) (H := H3) (p := p) (o := .lst (vs.set l y)) (.inl pv) (m3.seen pv)
                refine ⟨p, vs, z, l, rfl, rfl, hH, by rw [← r.length]; exact hl, ?_⟩
                exact k3 σ ρ3 _ ex (m3.put hp (.lst upd_same ((RDs.set ((ry.ext e2).ext e3) l r).ext ex))) ((((re.ext e1).ext e2).ext e3).ext ex)
          · cases q
        · cases q
      · cases q⟩⟩⟩
/-- name += e -/
theorem ps_augAdd {j : Nat} {x : Str} {xpos : Pos} (hN : X.N.Nodup) (h : NmOk X j x) (he : PE X e (rd X.K X.mg W me)) :
    PS X (.AugAssign (.Name x xpos) .Add e pos) (rdS X.K X.mg W fun env hd => match env[j]? with
    | some (some x) => (me env hd).to env fun y hd => augS .Add j x y env hd
    | _ => .bad) := (ps_aug (pos := pos) (pos' := xpos) hN h.at_ h.loc he ip_add h.fn).imp fun D σ H ⟨ρ, env, hd, re, mo, k⟩ => by
  dsimp only at k
  split at k
  · rename_i x e0
    obtain ⟨v, hv, rv⟩ := re.at_ j x e0
    refine ⟨v, hv, ρ, env, hd, re, mo, (KO.to re k).imp fun y h1 ρ1 H1 ⟨e1, m1, k1⟩ w rw' => ?_⟩
    have rv1 := rv.ext e1
    cases rv1 with
    | int a =>
      cases rw' with
      | int b => exact ⟨a, b, rfl, rfl, k1 _ ρ1 H1 .refl m1 ((re.ext e1).set j (.int _))⟩
      | _ => exact k1.elim
    | _ => exact k1.elim
  · exact k.elim
end
end Z
/-! Z15: the end of a call: what is let go; binding. -/
namespace Z
open PySem L2 PySem.Spec PyProof.Rows

section
variable {K : PySem.W.Frag} {mg : MG} {ρ ρ' : Rh} {H H' : Hp} {hd : Hd} {n : Nat}
/-- fewer things are seen -/
structure Les (ρ ρ' : Rh) (n : Nat) : Prop where
  len : ρ.v.length = n
  v : ∃ τ, ρ'.v = ρ.v ++ τ
  h : ρ'.h = ρ.h
  n : ρ'.n = ρ.n
theorem Les.sub (l : Les ρ ρ' n) {a : Addr} (h : a ∈ ρ) : a ∈ ρ' := by
  obtain ⟨τ, e⟩ := l.v
  rcases h with h | h
  · exact .inl (by rw [e]; exact List.mem_append_left _ h)
  · exact .inr (by rw [l.h]; exact h)
theorem Les.at_ (l : Les ρ ρ' n) {m : Nat} {a : Addr} (hm : m < n) (h : ρ'.v[m]? = some a) : ρ.v[m]? = some a := by
  obtain ⟨τ, e⟩ := l.v
  rw [e, List.getElem?_append_left (by rw [l.len]; exact hm)] at h
  exact h
theorem SqR.les {a : Addr} {xs : List V} (l : Les ρ ρ' n) (h : SqR K ρ' H a xs) : SqR K ρ H a xs := h.imp (fun q => ⟨fun z => q.1 (l.sub z), q.2⟩) fun q => q
mutual
theorem RD.les (l : Les ρ ρ' n) : ∀ (d : D) (v : V), RD K mg ρ' H d v → low n d = true → RD K mg ρ H d v
  | .non, _, r, _ => by cases r; exact .non
  | .bl b, _, r, _ => by cases r; exact .bl b
  | .int i, _, r, _ => by cases r; exact .int i
  | .str x, _, r, _ => by cases r; exact .str x
  | .ty x, _, r, _ => by cases r; exact .ty x
  | .glo x, _, r, _ => by
    cases r with
    | glo h => exact .glo h
  | .row x, _, r, _ => by
    cases r with
    | row h => exact .row (h.les l)
  | .obj m, _, r, e => by
    cases r with
    | obj h =>
      simp only [low, decide_eq_true_eq] at e
      exact .obj (l.at_ e h)
  | .tup xs, _, r, e => by
    cases r with
    | tup n h q =>
      simp only [low] at e
      exact .tup (fun z => n (l.sub z)) h (RDs.les l xs _ q e)
  | .lst xs, _, r, e => by
    cases r with
    | lst n h q =>
      simp only [low] at e
      exact .lst (fun z => n (l.sub z)) h (RDs.les l xs _ q e)
  | .dic xs, _, r, e => by
    cases r with
    | dic n h q =>
      simp only [low] at e
      exact .dic (fun z => n (l.sub z)) h (RDk.les l xs _ q e)
  | .ins C fs, _, r, e => by
    cases r with
    | ins n g h q =>
      simp only [low] at e
      exact .ins (fun z => n (l.sub z)) g h (RDf.les l fs _ q e)
  | .exc _ _, _, r, _ => nomatch r
theorem RDs.les (l : Les ρ ρ' n) : ∀ (ds : List D) (vs : List V), RDs K mg ρ' H ds vs → low.lows n ds = true → RDs K mg ρ H ds vs
  | [], _, r, _ => by cases r; exact .nil
  | x :: xs, _, r, e => by
    cases r with
    | cons r q =>
      simp only [low.lows, Bool.and_eq_true] at e
      exact .cons (RD.les l x _ r e.1) (RDs.les l xs _ q e.2)
theorem RDf.les (l : Les ρ ρ' n) : ∀ (ds : List (String × D)) (vs : List (PySem.Str × V)), RDf K mg ρ' H ds vs → low.lowf n ds = true → RDf K mg ρ H ds vs
  | [], _, r, _ => by cases r; exact .nil
  | (f, x) :: xs, _, r, e => by
    cases r with
    | cons r q =>
      simp only [low.lowf, Bool.and_eq_true] at e
      exact .cons (RD.les l x _ r e.1) (RDf.les l xs _ q e.2)
theorem RDk.les (l : Les ρ ρ' n) : ∀ (ds : List (D × D)) (vs : List (L2.Key × V)), RDk K mg ρ' H ds vs → low.lowk n ds = true → RDk K mg ρ H ds vs
  | [], _, r, _ => by cases r; exact .nil
  | (.str k, x) :: xs, _, r, e => by
    cases r with
    | cons r q =>
      simp only [low.lowk, Bool.and_eq_true] at e
      exact .cons (RD.les l x _ r e.2.1) (RDk.les l xs _ q e.2.2)
  | (.non, _) :: _, _, r, _ => nomatch r
  | (.bl _, _) :: _, _, r, _ => nomatch r
  | (.int _, _) :: _, _, r, _ => nomatch r
  | (.tup _, _) :: _, _, r, _ => nomatch r
  | (.lst _, _) :: _, _, r, _ => nomatch r
  | (.dic _, _) :: _, _, r, _ => nomatch r
  | (.ins _ _, _) :: _, _, r, _ => nomatch r
  | (.exc _ _, _) :: _, _, r, _ => nomatch r
  | (.glo _, _) :: _, _, r, _ => nomatch r
  | (.ty _, _) :: _, _, r, _ => nomatch r
  | (.obj _, _) :: _, _, r, _ => nomatch r
  | (.row _, _) :: _, _, r, _ => nomatch r
end
theorem RM.les {mo : MO} {a : Addr} (l : Les ρ ρ' n) (r : RM K mg ρ' H mo a) (e : lowO n mo = true) : RM K mg ρ H mo a := by
  cases r with
  | lst h r => exact .lst h (RDs.les l _ _ r e)
  | dic h r => exact .dic h (RDk.les l _ _ r e)
  | ins g h r => exact .ins g h (RDf.les l _ _ r e)
theorem MOk.les (l : Les ρ ρ' n) (m : MOk K mg ρ' H hd) (e : (hd.take n).all (lowO n) = true) : MOk K mg ρ H (hd.take n) := by
  obtain ⟨τ, ev⟩ := l.v
  have hl : ρ'.v.length = hd.length := m.len
  have hn : n ≤ hd.length := by
    rw [← hl, ev, List.length_append, l.len]
    omega
  refine ⟨by rw [List.length_take, l.len]; omega, ?_, fun k a mo e1 e2 => ?_, fun a h => ?_, l.n.symm.trans m.nm, fun P q e => (m.tabs P q e).keep l.n.symm fun a u x na => ⟨fun z => na (z.elim (fun z => .inl (by rw [ev]; exact List.mem_append_left _ z)) fun z => .inr (by rw [l.h]; exact z)), x⟩⟩
  · have q := m.nd
    rw [ev] at q
    exact (List.nodup_append.mp q).1
  · have hk : k < n := by
      have := (List.getElem?_eq_some_iff.mp e1).1
      rw [l.len] at this
      exact this
    have e3 : hd[k]? = some mo := by
      rw [List.getElem?_take_of_lt hk] at e2
      exact e2
    have e4 : ρ'.v[k]? = some a := by
      rw [ev, List.getElem?_append_left (by rw [l.len]; exact hk)]
      exact e1
    exact (m.at_ k a mo e4 e3).les l (List.all_eq_true.mp e mo (List.mem_of_getElem? e2))
  · obtain ⟨h1, h2⟩ := m.hid a (by rw [l.h]; exact h)
    exact ⟨fun z => h1 (by rw [ev]; exact List.mem_append_left _ z), h2⟩
theorem Ext.les {n : Nat} (hl : ρ.v.length = n) (e : Ext ρ H ρ' H') : Ext ρ H ρ H' ∧ Les ρ ρ' n := by
  obtain ⟨τ, rfl⟩ := e.pre
  exact ⟨⟨⟨[], by simp⟩, e.keep, e.there, fun a h n' => absurd h n', e.hid, fun P t => (e.tab P t).keep rfl fun a u x na => ⟨fun z => na (z.elim (fun z => .inl (List.mem_append_left _ z)) .inr), x⟩⟩, ⟨hl, ⟨τ, rfl⟩, rfl, rfl⟩⟩
/-- a place from n on -/
theorem Les.new (l : Les ρ ρ' n) (m : MOk K mg ρ' H hd) {k : Nat} {a : Addr} (hk : ¬ k < n) (h : ρ'.v[k]? = some a) : a ∉ ρ := by
  obtain ⟨τ, ev⟩ := l.v
  have hv : a ∈ ρ'.v := List.mem_of_getElem? h
  rintro (z | z)
  · obtain ⟨j, hj⟩ := List.mem_iff_getElem?.mp z
    have hjl := (List.getElem?_eq_some_iff.mp hj).1
    have h2 : ρ'.v[j]? = some a := by rw [ev, List.getElem?_append_left hjl]; exact hj
    have e : k = j := (List.getElem?_inj (List.getElem?_eq_some_iff.mp h).1 m.nd).mp (h.trans h2.symm)
    rw [l.len] at hjl
    omega
  · exact (m.hid a (by rw [l.h]; exact z)).1 hv
mutual
theorem RD.frz (l : Les ρ ρ' n) (m : MOk K mg ρ' H hd) : ∀ (k : Nat) (d d' : D) (v : V), RD K mg ρ' H d v → Z.frz hd n k d = some d' → RD K mg ρ H d' v
  | 0, _, _, _, _, e => by simp [Z.frz] at e
  | k + 1, d, d', v, r, e => by
    unfold Z.frz at e
    split at e
    · rename_i hl
      cases e
      exact RD.les l d v r hl
    · rename_i hl
      split at e
      · rename_i j
        cases r with
        | obj h =>
          have nn := l.new m (by simpa [low] using hl) h
          split at e
          · rename_i xs q
            have mm := m.at_ _ _ _ h q
            cases mm with
            | lst h2 q2 =>
              cases e2 : frzs hd n k xs with
              | none => rw [e2] at e; cases e
              | some ys =>
                rw [e2] at e
                cases e
                exact .lst nn h2 (RDs.frz l m k xs ys _ q2 e2)
          · rename_i C fs q
            have mm := m.at_ _ _ _ h q
            cases mm with
            | ins g h2 q2 =>
              cases e2 : frzf hd n k fs with
              | none => rw [e2] at e; cases e
              | some ys =>
                rw [e2] at e
                cases e
                exact .ins nn g h2 (RDf.frz l m k fs ys _ q2 e2)
          · cases e
      · rename_i xs
        cases r with
        | lst nn h2 q2 =>
          cases e2 : frzs hd n k xs with
          | none => rw [e2] at e; cases e
          | some ys =>
            rw [e2] at e
            cases e
            exact .lst (fun z => nn (l.sub z)) h2 (RDs.frz l m k xs ys _ q2 e2)
      · rename_i xs
        cases r with
        | tup nn h2 q2 =>
          cases e2 : frzs hd n k xs with
          | none => rw [e2] at e; cases e
          | some ys =>
            rw [e2] at e
            cases e
            exact .tup (fun z => nn (l.sub z)) h2 (RDs.frz l m k xs ys _ q2 e2)
      · rename_i C fs
        cases r with
        | ins nn g h2 q2 =>
          cases e2 : frzf hd n k fs with
          | none => rw [e2] at e; cases e
          | some ys =>
            rw [e2] at e
            cases e
            exact .ins (fun z => nn (l.sub z)) g h2 (RDf.frz l m k fs ys _ q2 e2)
      · cases e
theorem RDs.frz (l : Les ρ ρ' n) (m : MOk K mg ρ' H hd) : ∀ (k : Nat) (ds ds' : List D) (vs : List V), RDs K mg ρ' H ds vs → Z.frzs hd n k ds = some ds' → RDs K mg ρ H ds' vs
  | 0, _, _, _, _, e => by simp [Z.frzs] at e
  | k + 1, [], _, _, r, e => by
    cases r
    simp only [Z.frzs] at e
    cases e
    exact .nil
  | k + 1, x :: xs, ds', _, r, e => by
    cases r with
    | cons r q =>
      simp only [Z.frzs] at e
      split at e
      · rename_i y ys e1 e2
        cases e
        exact .cons (RD.frz l m k x y _ r e1) (RDs.frz l m k xs ys _ q e2)
      · cases e
theorem RDf.frz (l : Les ρ ρ' n) (m : MOk K mg ρ' H hd) : ∀ (k : Nat) (ds ds' : List (String × D)) (vs : List (PySem.Str × V)), RDf K mg ρ' H ds vs → Z.frzf hd n k ds = some ds' → RDf K mg ρ H ds' vs
  | 0, _, _, _, _, e => by simp [Z.frzf] at e
  | k + 1, [], _, _, r, e => by
    cases r
    simp only [Z.frzf] at e
    cases e
    exact .nil
  | k + 1, (f, x) :: xs, ds', _, r, e => by
    cases r with
    | cons r q =>
      simp only [Z.frzf] at e
      split at e
      · rename_i y ys e1 e2
        cases e
        exact .cons (RD.frz l m k x y _ r e1) (RDf.frz l m k xs ys _ q e2)
      · cases e
end
/-- what a body's end is to its call -/
theorem fin_of {kept : Bool} {hd0 : Hd} {o : O} {Q : VK} {E : XK} {W : WX} (m0 : MOk K mg ρ H hd0) (hW : ∀ cls dd σ H, E cls dd H → W cls dd σ H)
    (k : Kt K mg (fun cls dd _ H => E cls dd H) [] ρ H (fin kept hd0.length o) (fun d h ρ' H' => ∀ v, RD K mg ρ' H' d v → Q v H')) : KO K mg W { nx := fun _ H' => Q .non H', rt := Q } ρ H o := by
  have fin1 : ∀ d h, Kt K mg (fun cls dd _ H => E cls dd H) [] ρ H (fin.fin1 kept hd0.length d h) (fun d h ρ' H' => ∀ v, RD K mg ρ' H' d v → Q v H') → ∀ ρ' H' v, Ext ρ H ρ' H' → MOk K mg ρ' H' h → RD K mg ρ' H' d v → Q v H' := fun d h k ρ' H' v e m r => by
    unfold fin.fin1 at k
    split at k
    · exact k ρ' H' e m v r
    · split at k
      · rename_i ha
        obtain ⟨e', l⟩ := e.les m0.len
        have m' := m.les l ha
        split at k
        · rename_i hl
          exact k ρ H' e' m' v (RD.les l d v r hl)
        · split at k
          · rename_i d' hf
            exact k ρ H' e' m' v (RD.frz l m 400 d d' v r hf)
          · exact k.elim
      · exact k.elim
  cases o with
  | rt d h => exact fun ρ' H' v e m r => fin1 d h k ρ' H' v e m r
  | nx env h => exact fun σ' ρ' H' e m re => fin1 .non h k ρ' H' .non e m .non
  | exc C fs env h =>
    intro σ' ρ' H' cls dd e m re rx
    refine hW cls dd σ' H' ?_
    unfold fin at k
    dsimp only at k
    split at k
    · exact k ρ' H' cls dd e m rx
    · split at k
      · rename_i hc
        obtain ⟨e', l⟩ := e.les m0.len
        obtain ⟨c, h1, h2, h3⟩ := rx
        refine k ρ H' cls dd e' (m.les l hc.1) ⟨c, h1, h2, ?_⟩
        rcases h3 with h3 | ⟨dx, gs, h3, h4, h5, h6⟩
        · exact .inl h3
        · exact .inr ⟨dx, gs, h3, fun z => h4 (l.sub z), h5, RDf.les l _ _ h6 hc.2⟩
      · exact k.elim
  | bk env h => exact k.elim
  | ct env h => exact k.elim
  | bad => exact k.elim
end

/-! ### binding -/
theorem RDs.paired {K : PySem.W.Frag} {mg : MG} {ρ : Rh} {H : Hp} : ∀ {xs : List D} {vs : List V}, RDs K mg ρ H xs vs → Paired (RD K mg ρ H) xs vs
  | _, _, .nil => .nil
  | _, _, .cons r q => .cons r q.paired
theorem rds_of {K : PySem.W.Frag} {mg : MG} {ρ : Rh} {H : Hp} : ∀ {xs : List D} {vs : List V}, Paired (RD K mg ρ H) xs vs → RDs K mg ρ H xs vs
  | _, _, .nil => .nil
  | _, _, .cons r q => .cons r (rds_of q)
theorem zip_look {α β : Type} {P : α → β → Prop} {n : String} : ∀ {ks : List String} {as : List α} {bs : List β} {a : α}, Paired P as bs → (ks.zip as).lookup n = some a → ∃ b, (ks.zip bs).lookup n = some b ∧ P a b
  | [], _, _, _, _, e => by cases e
  | _ :: _, _, _, _, .nil, e => by cases e
  | k :: ks, _, _, a, .cons (a := x) (b := y) r q, e => by
    rw [List.zip_cons_cons, List.lookup_cons] at e ⊢
    by_cases h : n = k
    · subst h
      simp only [beq_self_eq_true] at e ⊢
      cases e
      exact ⟨_, rfl, r⟩
    · have h1 : (n == k) = false := beq_eq_false_iff_ne.mpr h
      rw [h1] at e ⊢
      exact zip_look q e
theorem bindG_rel {α β : Type} {P : α → β → Prop} {ks : List String} {as : List α} {bs : List β} (hk : Paired P as bs) : ∀ {ns : List String} {xs : List α} {ys : List β} {r : List α}, Paired P xs ys → bindG ns xs (ks.zip as) = some r → ∃ r', bindG ns ys (ks.zip bs) = some r' ∧ Paired P r r'
  | [], _, _, _, .nil, e => by
    simp only [bindG] at e ⊢
    cases e
    exact ⟨[], rfl, .nil⟩
  | [], _, _, _, .cons _ _, e => by simp [bindG] at e
  | n :: ns, _, _, r, .cons h q, e => by
    simp only [bindG] at e ⊢
    obtain ⟨r0, e1, e2⟩ := Option.map_eq_some_iff.mp e
    obtain ⟨r', e3, e4⟩ := bindG_rel hk q e1
    subst e2
    exact ⟨_, by rw [e3]; rfl, .cons h e4⟩
  | n :: ns, _, _, r, .nil, e => by
    simp only [bindG] at e ⊢
    split at e
    · rename_i v hv
      obtain ⟨w, hw, p⟩ := zip_look hk hv
      obtain ⟨r0, e1, e2⟩ := Option.map_eq_some_iff.mp e
      obtain ⟨r', e3, e4⟩ := bindG_rel hk .nil e1
      subst e2
      rw [hw]
      exact ⟨_, by rw [e3]; rfl, .cons p e4⟩
    · cases e
end Z
/-! Z16: defs and their calls. -/
namespace Z
open PySem L2 PySem.Spec PyProof.Rows

/-! ### room -/
structure RoomY (k : Nat) (A : Around) : Prop where
  hd : A.handled = none
  dp : A.depth + 24 * k + 5 < recursionLimit
  un : A.units + 128 * k + 230 < cLine
  g : A.guards = some []
structure RoomZ (k : Nat) (A : Around) : Prop where
  hd : A.handled = none
  dp : A.depth + 24 * k + 16 < recursionLimit
  un : A.units + 128 * k + 250 < cLine
  g : A.guards = some []
/-- at a body's beginning -/
structure RoomF (k : Nat) (A : Around) : Prop where
  hd : A.handled = none
  dp : A.depth + 24 * k + 28 < recursionLimit
  un : A.units + 128 * k + 320 < cLine
  g : A.guards = some []
theorem RoomF.z {k : Nat} {A : Around} (r : RoomF k A) : RoomZ k A := ⟨r.hd, by have := r.dp; omega, by have := r.un; omega, r.g⟩
theorem RoomY.deeper {k : Nat} {A : Around} (r : RoomY (k + 1) A) (env : PySem.Env) : RoomF k (A.deeper env) :=
  ⟨r.hd, by have := r.dp; show A.depth + 1 + 24 * k + 28 < _; omega, by have := r.un; show A.units + 3 + 128 * k + 320 < _; omega, r.g⟩
theorem RoomZ.y {k : Nat} {A : Around} (r : RoomZ k A) : RoomY k A := ⟨r.hd, by have := r.dp; omega, by have := r.un; omega, r.g⟩
theorem RoomZ.in1 {k : Nat} {A : Around} (r : RoomZ k A) : RoomY k A.in1 :=
  ⟨r.hd, by have := r.dp; show A.depth + 24 * k + 5 < _; omega, by have := r.un; show A.units + 1 + 128 * k + 230 < _; omega, r.g⟩
theorem make_guards {A : Around} {C : Addr} {us : List Value} {kw : List (Str × Value)} : (A.under (.builtin "type.__call__" ⟨.ref C :: us, kw⟩)).guards = A.guards := by
  first | rfl | simp [Around.under, Code.weight, Code.isCreation, Code.isGuard, Code.isCaller, Code.frames, Code.isFrame, guardIds]
theorem RoomZ.make {k : Nat} {A : Around} (r : RoomZ k A) (C : Addr) (us : List Value) (kw : List (Str × Value)) : RoomY k (A.under (.builtin "type.__call__" ⟨.ref C :: us, kw⟩)) :=
  ⟨r.hd, by have := r.dp; rw [make_depth]; omega, by have := r.un; rw [make_units]; omega, by rw [make_guards]; exact r.g⟩

/-! ### what a def promises -/
def KtE (K : PySem.W.Frag) (mg : MG) (E : XK) (ρ : Rh) (H : Hp) (r : R D) (Q : VK) : Prop := Kt K mg (fun cls dd _ H => E cls dd H) [] ρ H r (fun d h ρ' H' => ∀ v, RD K mg ρ' H' d v → Q v H')
def spZ (K : PySem.W.Frag) (mg : MG) (T : Tab) (j : Nat) (fd : Fn) (vs : List V) (H : Hp) (Q : VK) (E : XK) : Prop := ∃ ρ hd ds, MOk K mg ρ H hd ∧ RDs K mg ρ H ds vs ∧ KtE K mg E ρ H (runF T j fd ds hd) Q
def FnZ (P : Program) (w : World) (K : PySem.W.Frag) (mg : MG) (base : Heap) (T : Tab) (j : Nat) (fd : Fn) (f : Addr) (FD : FuncData) : Prop :=
  ∀ (A : Around) (outer : List PySem.Env) (s : Shared) (H : Hp) (args : Args) (us : List Value) (vs : List V) (Q : VK) (E : XK), RoomY (j + 1) A → Env0 P w K mg base A outer s H → BindsTo s FD args ((fd.names.map nm).zip us) → Vals vs us →
    vs.length = fd.names.length → spZ K mg T j fd vs H Q E → codeAny (model P w) A (.call (.ref f) args) (CR (L2.CX P w) outer P w H s Q E) s
section
variable {K : PySem.W.Frag} {mg : MG} {ρ : Rh} {H : Hp}
theorem rep_none {n i : Nat} {α : Type} {v : α} : (List.replicate n (none : Option α))[i]? ≠ some (some v) := fun h => by
  rw [List.getElem?_replicate] at h
  split at h <;> cases h
theorem renv_start {fd : Fn} {ds : List D} {vs : List V} (r : RDs K mg ρ H ds vs) : REnv K mg ρ H (entry fd ds) (L2.start (fd.slots.map nm) vs) := by
  have hl := r.length
  refine ⟨?_, fun i d e => ?_⟩
  · unfold entry L2.start
    rw [List.length_append, List.length_append, List.length_map, List.length_map, List.length_replicate, List.length_replicate, List.length_map, hl]
  · unfold entry at e
    unfold L2.start
    by_cases hi : i < ds.length
    · rw [List.getElem?_append_left (by simpa using hi), List.getElem?_map] at e
      cases q : ds[i]? with
      | none => rw [q] at e; cases e
      | some d' =>
        rw [q] at e
        cases e
        obtain ⟨v, h1, h2⟩ := r.get q
        refine ⟨v, ?_, h2⟩
        rw [List.getElem?_append_left (by rw [List.length_map, ← hl]; exact hi), List.getElem?_map, h1]
        rfl
    · rw [List.getElem?_append_right (by simpa using hi)] at e
      exact absurd e rep_none
end
/-- a def's body, at a level; its reading -/
def BodyZ (P : Program) (w : World) (K : PySem.W.Frag) (mg : MG) (base : Heap) (T : Tab) (j : Nat) (fd : Fn) (f : Addr) (qual : Str) (body : List Stmt) (scope : Scope) (cdv : Value) : Prop :=
  ∀ (A : Around) (outer : List PySem.Env) (s : Shared) (H : Hp) (E : XK), RoomF j (A.deeper (envOfC qual scope s.heap.objs.size f cdv)) →
    PSs (cxOf (L2.CX P w) P w K mg base (fd.slots.map nm) qual scope f cdv A outer s H E) body (rdS K mg (fun cls dd _ H => E cls dd H) (evS ⟨T, callF T j⟩ fd.body))
theorem fnz_of {P : Program} {w : World} {K : PySem.W.Frag} {mg : MG} {base : Heap} {T : Tab} {j : Nat} {fd : Fn} {f : Addr} {name qual : Str} {params : Arguments} {body : List Stmt} {scope : Scope} {dV kV doc pm cdv ct oc : Value} {an od : Option Addr} {osl : Array (Option Value)}
    (lk : K.lookup f = some ⟨oc, od, .func (PySem.W.fnOf name qual params body scope dV kV doc pm an cdv ct), osl⟩) (hcd : PySem.W.codeIn K cdv qual = true) (S : FnScope (fd.slots.map nm) (fd.names.map nm) scope)
    (hb : BodyZ P w K mg base T j fd f qual body scope cdv) : FnZ P w K mg base T j fd f (PySem.W.fnOf name qual params body scope dV kV doc pm an cdv ct) := by
  intro A outer s H args us vs Q E hr e0 hbind r hl ⟨ρ, hd, ds, mo, rd, k⟩
  have KX : K.In s.heap := e0.mod.kin.keeps fun b o e => (e0.bs b o e).1
  have lim : s.heap.NoLimit := e0.mod.nolimit.keeps fun b o e => (e0.bs b o e).1
  have hkind : ∀ y ∈ (fd.names.map nm).zip us, scope.names.lookup y.1 = some .local ∨ (scope.names.lookup y.1 = some .cell ∧ ((cellsFrom (s.heap.objs.size + 1) scope.names []).lookup y.1).isSome = true) := by
    intro ⟨n, v⟩ hy
    rcases S.par n (List.of_mem_zip hy).1 with q | q
    · exact .inl q
    · exact .inr ⟨q, PySem.W.cellsFrom_some _ _ _ (.inl q)⟩
  have hdep : A.depth < recursionLimit := by have := hr.dp; omega
  refine codeAny_call_function hdep (KX _ _ lk) rfl S.co S.gen rfl (PySem.W.codeRec_of KX hcd) (hbind _ _ _ _ ?_)
  refine wpAny_newFunctionEnv_cells S.kind hkind fun env he s1 x => ?_
  subst he
  refine ⟨lim.keeps x.toInCall.keep, codeAny_func ?_⟩
  have I := inv_start (E := E) (CX := L2.CX P w) S hr.hd e0 (by rw [hl, List.length_map]) r x
  have ht := hb A outer s H E (hr.deeper _)
  have hrd : rdS K mg (fun cls dd _ H => E cls dd H) (evS ⟨T, callF T j⟩ fd.body) { nx := fun _ H' => Q .non H', rt := Q } (L2.start (fd.slots.map nm) vs) H :=
    ⟨ρ, entry fd ds, hd, renv_start rd, mo, fin_of (W := fun cls dd _ H => E cls dd H) mo (fun _ _ _ _ h => h) k⟩
  refine wpAny_mono (ht.run [] s1 (L2.start (fd.slots.map nm) vs) H _ I hrd) (fun fl s' hs => ?_) fun e s' hs => hs
  cases fl with
  | ret u =>
    obtain ⟨v, σ', H', J, rv, q⟩ := hs
    exact ⟨v, H', J.os, J.bare, J.base, J.hok, rv, q⟩
  | next =>
    obtain ⟨σ', H', J, q⟩ := hs
    exact ⟨V.non, H', J.os, J.bare, J.base, J.hok, rfl, q⟩
  | brk =>
    obtain ⟨_, _, _, q⟩ := hs
    exact q.elim
  | cont =>
    obtain ⟨_, _, _, q⟩ := hs
    exact q.elim

/-! ### a def of the table -/
/-- how it is bound, in each of its shapes -/
def Shapes (fd : Fn) (FD : FuncData) : Prop := ∀ n ks, (n, ks) ∈ fd.shapes → ∀ (s : Shared) (us ws full : List Value), us.length = n → ws.length = ks.length → bindG fd.names us (ks.zip ws) = some full → BindsTo s FD ⟨us, (ks.map nm).zip ws⟩ ((fd.names.map nm).zip full)
theorem bindG_len {α : Type} : ∀ {ns : List String} {xs : List α} {ks : List (String × α)} {r : List α}, bindG ns xs ks = some r → r.length = ns.length
  | [], [], _, _, e => by simp only [bindG] at e; cases e; rfl
  | [], _ :: _, _, _, e => by simp [bindG] at e
  | n :: ns, x :: xs, ks, r, e => by
    simp only [bindG] at e
    obtain ⟨r0, e1, e2⟩ := Option.map_eq_some_iff.mp e
    subst e2
    exact congrArg Nat.succ (bindG_len e1)
  | n :: ns, [], ks, r, e => by
    simp only [bindG] at e
    split at e
    · obtain ⟨r0, e1, e2⟩ := Option.map_eq_some_iff.mp e
      subst e2
      exact congrArg Nat.succ (bindG_len e1)
    · cases e
section
variable {X : Cx} {W : WX} {T : Tab} {j : Nat} {fd : Fn} {f : Addr} {FD : FuncData} {key : String × String}
theorem zip_keys {α : Type} : ∀ {ks : List String} {as : List α}, as.length = ks.length → (ks.zip as).map (·.1) = ks
  | [], [], _ => rfl
  | [], _ :: _, h => by simp at h
  | _ :: _, [], h => by simp at h
  | k :: ks, a :: as, h => by
    rw [List.zip_cons_cons, List.map_cons, zip_keys (by simpa using h)]
/-- the callee runs; what it raises is wanted at the caller's slots -/
theorem code_fnZ {A : Around} {pins : List (Addr × Obj)} {σ : L2.St} {H : Hp} {s : Shared} {Q : VK} {ks : List String} {us ws : List Value} {vs zs : List V} {ρ : Rh} {hd : Hd} {ds es : List D} (F : FnZ X.prog X.w X.K X.mg X.base T j fd f FD) (hs : Shapes fd FD) (hT : T.fn key = some fd) (hr : RoomY (j + 1) A)
    (e0 : Env0 X.prog X.w X.K X.mg X.base A X.stack s H) (r : Vals vs us) (rz : Vals zs ws) (hz : ws.length = ks.length) (mo : MOk X.K X.mg ρ H hd) (rd : RDs X.K X.mg ρ H ds vs) (re : RDs X.K X.mg ρ H es zs) {E : XK}
    (k : KtE X.K X.mg E ρ H (callF T (j + 1) key ds (ks.zip es) hd) Q) :
    codeAny (model X.prog X.w) A (.call (.ref f) ⟨us, (ks.map nm).zip ws⟩) (CR (L2.CX X.prog X.w) X.stack X.prog X.w H s Q E) s := by
  rw [callF_eq, hT] at k
  dsimp only at k
  split at k
  · rename_i hsh
    have l1 : es.length = ks.length := by rw [re.length, rz.length, hz]
    rw [zip_keys l1] at hsh
    split at k
    · exact k.elim
    · rename_i full hb
      obtain ⟨fullV, h1, h2⟩ := bindG_rel re.paired rd.paired hb
      obtain ⟨fullU, h3, h4⟩ := bindG_rel rz r h1
      have hn : us.length = ds.length := by rw [← r.length, ← rd.length]
      exact F A X.stack s H _ fullU fullV Q E hr e0 (hs _ _ hsh s us ws fullU hn hz h3) h4 (bindG_len h1) ⟨ρ, hd, full, mo, rds_of h2, k⟩
  · exact k.elim
theorem run_fnZ {pins : List (Addr × Obj)} {σ : L2.St} {H : Hp} {s : Shared} {Q : VK} {ks : List String} {us ws : List Value} {vs zs : List V} {ρ : Rh} {hd : Hd} {ds es : List D} (F : FnZ X.prog X.w X.K X.mg X.base T j fd f FD) (hs : Shapes fd FD) (hT : T.fn key = some fd) (hr : RoomY (j + 1) X.A) (tk : Takes X W)
    (I : Inv X pins σ H s) (r : Vals vs us) (rz : Vals zs ws) (hz : ws.length = ks.length) (mo : MOk X.K X.mg ρ H hd) (rd : RDs X.K X.mg ρ H ds vs) (re : RDs X.K X.mg ρ H es zs)
    (k : Kt X.K X.mg W σ ρ H (callF T (j + 1) key ds (ks.zip es) hd) (fun d h ρ' H' => ∀ v, RD X.K X.mg ρ' H' d v → Q v H')) : wpAny (model X.prog X.w) X.A (call (.ref f) us ((ks.map nm).zip ws)) (EP X pins σ Q) X.xe s := by
  have k' : KtE X.K X.mg (WE W σ) ρ H (callF T (j + 1) key ds (ks.zip es) hd) Q := by
    unfold KtE
    cases e : callF T (j + 1) key ds (ks.zip es) hd with
    | ok d h => rw [e] at k; exact k
    | exc C fs h => rw [e] at k; exact k
    | bad => rw [e] at k; exact k
  refine wpAny_call (codeAny_mono (code_fnZ (pins := pins) (σ := σ) F hs hT hr I.env0 r rz hz mo rd re k') fun r s' hq => ?_)
  cases r with
  | error e => exact passAt tk σ pins H s e s' I hq
  | ok fl =>
    cases fl with
    | ret u => exact I.after hq
    | next => exact hq.elim
    | brk => exact hq.elim
    | cont => exact hq.elim
/-- a new instance: its init runs -/
theorem run_newZ {pins : List (Addr × Obj)} {σ : L2.St} {H : Hp} {s : Shared} {Q : VK} {ks : List String} {us ws : List Value} {vs zs : List V} {ρ : Rh} {hd : Hd} {ds es : List D} {C : Addr} {Cn : String} (M : Mk X.K C f) (hC : X.mg (nm Cn) = some (.ref C)) (F : FnZ X.prog X.w X.K X.mg X.base T j fd f FD) (hs : Shapes fd FD) (hT : T.fn (Cn, "__init__") = some fd)
    (hr : RoomZ (j + 1) X.A) (tk : Takes X W) (I : Inv X pins σ H s) (r : Vals vs us) (rz : Vals zs ws) (hz : ws.length = ks.length) (mo : MOk X.K X.mg ρ H hd) (rd : RDs X.K X.mg ρ H ds vs) (re : RDs X.K X.mg ρ H es zs)
    (k : Kt X.K X.mg W σ ρ H (match callF T (j + 1) (Cn, "__init__") (.obj hd.length :: ds) (ks.zip es) (hd ++ [.ins Cn []]) with
      | .ok .non h1 => (match T.cl Cn, h1[hd.length]? with
        | some c, some (.ins C' fs) => if h1.length = hd.length + 1 ∧ C' = Cn then
            (if c.kept then .ok (.obj hd.length) h1
              else if low.lowf hd.length fs = true ∧ (h1.take hd.length).all (lowO hd.length) = true then .ok (.ins Cn fs) (h1.take hd.length) else .bad) else .bad
        | _, _ => .bad)
      | .ok _ _ => .bad
      | .exc C fs h1 => if low.lowf hd.length fs = true ∧ (h1.take hd.length).all (lowO hd.length) = true then .exc C fs (h1.take hd.length) else .bad
      | .bad => .bad) (fun d h ρ' H' => ∀ v, RD X.K X.mg ρ' H' d v → Q v H')) : wpAny (model X.prog X.w) X.A (call (.ref C) us ((ks.map nm).zip ws)) (EP X pins σ Q) X.xe s := by
  have hx : H (s.heap.objs.size + 1) = none := I.hok.fresh (Nat.le_succ _)
  have hdx : H s.heap.objs.size = none := I.hok.fresh (Nat.le_refl _)
  have I2 := Inv.made (C := C) I
  -- the new things
  have e1 := Ext.new (ρ := ρ) (o := .own (s.heap.objs.size + 1)) hdx (mo.notin hdx)
  have m1 := mo.new (o := .own (s.heap.objs.size + 1)) hdx
  have hx1 : (upd H s.heap.objs.size (.own (s.heap.objs.size + 1))) (s.heap.objs.size + 1) = none := by
    rw [upd_ne (Nat.succ_ne_self _)]
    exact hx
  have e2 := Ext.more (o := .ins C s.heap.objs.size []) hx1 (m1.notin hx1)
  have m2 := m1.more hx1 (mo := .ins Cn []) (o := .ins C s.heap.objs.size []) (.ins hC upd_same .nil)
  have E := e1.trans e2
  have hself : (ρ.add (s.heap.objs.size + 1)).v[hd.length]? = some (s.heap.objs.size + 1) := by
    show (ρ.v ++ [s.heap.objs.size + 1])[hd.length]? = _
    rw [← mo.len, List.getElem?_append_right (Nat.le_refl _)]
    simp
  have rd2 : RDs X.K X.mg (ρ.add (s.heap.objs.size + 1)) _ (.obj hd.length :: ds) (.ref (s.heap.objs.size + 1) :: vs) := .cons (.obj hself) (rd.ext E)
  have les : ∀ {ρ' : Rh} {H' : Hp}, Ext (ρ.add (s.heap.objs.size + 1)) (upd (upd H s.heap.objs.size (.own (s.heap.objs.size + 1))) (s.heap.objs.size + 1) (.ins C s.heap.objs.size [])) ρ' H' → Ext ρ H ρ H' ∧ Les ρ ρ' hd.length := fun {ρ' H'} e => Ext.les mo.len (E.trans e)
  have kE : KtE X.K X.mg (WE W σ) (ρ.add (s.heap.objs.size + 1)) (upd (upd H s.heap.objs.size (.own (s.heap.objs.size + 1))) (s.heap.objs.size + 1) (.ins C s.heap.objs.size [])) (callF T (j + 1) (Cn, "__init__") (.obj hd.length :: ds) (ks.zip es) (hd ++ [.ins Cn []]))
      (fun v H' => v = .non ∧ Q (.ref (s.heap.objs.size + 1)) H') := by
    unfold KtE
    cases q : callF T (j + 1) (Cn, "__init__") (.obj hd.length :: ds) (ks.zip es) (hd ++ [.ins Cn []]) with
    | ok d h1 =>
      rw [q] at k
      intro ρ' H' e m v rv
      cases d with
      | non =>
        cases rv
        refine ⟨rfl, ?_⟩
        dsimp only at k
        have hp : ρ'.v[hd.length]? = some (s.heap.objs.size + 1) := e.get hself
        split at k
        · rename_i c C' fs hc hi
          split at k
          · rename_i hh
            obtain ⟨hlen, rfl⟩ := hh
            split at k
            · exact k ρ' H' (E.trans e) m _ (.obj hp)
            · split at k
              · rename_i hlow
                obtain ⟨eL, L⟩ := les e
                have nn := L.new m (Nat.lt_irrefl _) hp
                have mm := m.at_ _ _ _ hp hi
                cases mm with
                | ins g h r => exact k ρ H' eL (m.les L hlow.2) _ (.ins nn g h (RDf.les L _ _ r hlow.1))
              · exact k.elim
          · exact k.elim
        · exact k.elim
      | _ => exact k.elim
    | exc Ce fs h1 =>
      rw [q] at k
      intro ρ' H' cls dd e m rx
      dsimp only at k
      split at k
      · rename_i hlow
        obtain ⟨eL, L⟩ := les e
        obtain ⟨c, g1, g2, g3⟩ := rx
        refine k ρ H' cls dd eL (m.les L hlow.2) ⟨c, g1, g2, ?_⟩
        rcases g3 with g3 | ⟨dx, gs, g3, g4, g5, g6⟩
        · exact .inl g3
        · exact .inr ⟨dx, gs, g3, fun z => g4 (L.sub z), g5, RDf.les L _ _ g6 hlow.1⟩
      · exact k.elim
    | bad => rw [q] at k; exact k
  have r2 : Vals (.ref (s.heap.objs.size + 1) :: vs) (Value.ref (s.heap.objs.size + 1) :: us) := .cons rfl r
  have re2 := re.ext E
  refine wpAny_call (make_map (f := f) I.kIn M.makes M.init (beq_iff_eq.mp M.fn) (codeAny_mono (code_fnZ (pins := pins) (σ := σ) F hs hT (hr.make C us _) (I2.env0.make C us _) r2 rz hz m2 rd2 re2 kE) fun r s' hq => ?_))
  cases r with
  | error e => exact passAt tk σ pins _ _ e s' I2 hq
  | ok fl =>
    cases fl with
    | ret u =>
      obtain ⟨v, H', I3, rv, ev, q3⟩ := I2.after hq
      subst ev
      exact ⟨rv, ⟨V.ref (s.heap.objs.size + 1), H', I3, rfl, q3⟩⟩
    | next => exact hq.elim
    | brk => exact hq.elim
    | cont => exact hq.elim
end
end Z
/-! Z17: calls in expressions. -/
namespace Z
open PySem L2 PySem.Spec PyProof.Rows

/-- the call of a value does S -/
def CallZ (X : Cx) (W : WX) (u : Value) (S : List D → List (String × D) → Hd → R D) : Prop :=
  ∀ (pins : List (Addr × Obj)) (s : Shared) (σ : L2.St) (H : Hp) (ks : List String) (us ws : List Value) (vs zs : List V) (ρ : Rh) (hd : Hd) (ds es : List D) (Q : VK), Inv X pins σ H s → Vals vs us → Vals zs ws → ws.length = ks.length → MOk X.K X.mg ρ H hd →
    RDs X.K X.mg ρ H ds vs → RDs X.K X.mg ρ H es zs → Kt X.K X.mg W σ ρ H (S ds (ks.zip es) hd) (fun d h ρ' H' => ∀ v, RD X.K X.mg ρ' H' d v → Q v H') → wpAny (model X.prog X.w) X.A (call u us ((ks.map nm).zip ws)) (EP X pins σ Q) X.xe s
section
variable {X : Cx} {W : WX} {e o : Expr} {es : List Expr} {kws : List Keyword} {mo' : Env → Hd → R D} {mr mk : Env → Hd → R (List D)} {x : Str} {p pos apos kpos : Pos} {a : Addr} {ks : List String} {S : List D → List (String × D) → Hd → R D}
theorem pk_imp {t t' : TA} (h : PK X kws t) (i : ∀ σ H Q, t' σ H Q → t σ H Q) : PK X kws t' := ⟨fun pos pins s σ H Q I q => h.run pos pins s σ H Q I (i σ H Q q)⟩
theorem pk_nilZ : PK X [] (rdA X.K X.mg W fun _ hd => .ok [] hd) := pk_imp pk_nil fun σ H Q ⟨ρ, env, hd, re, mo, k⟩ => k ρ H .refl mo [] .nil
theorem pk_consZ {n : Option Str} (ha : PE X e (rd X.K X.mg W mo')) (hr : PK X kws (rdA X.K X.mg W mk)) : PK X (⟨n, e, kpos⟩ :: kws) (rdA X.K X.mg W fun env hd => (mo' env hd).bind fun x hd => (mk env hd).bind fun xs hd => .ok (x :: xs) hd) :=
  pk_imp (pk_cons ha hr) fun σ H Q ⟨ρ, env, hd, re, mo, k⟩ => ⟨ρ, env, hd, re, mo, k.bind.imp fun x h1 ρ1 H1 ⟨e1, m1, k1⟩ v rv => ⟨ρ1, env, h1, re.ext e1, m1, k1.bind.imp fun xs h2 ρ2 H2 ⟨e2, m2, k2⟩ vs rvs =>
    k2 ρ2 H2 .refl m2 (v :: vs) (.cons (rv.ext e2) rvs)⟩⟩
/-- the keywords, as they are written -/
structure KwOk (env : PySem.Env) (kws : List Keyword) (ks : List String) : Prop where
  all : ∀ pos, (backToKw pos (keywordEach kws env)).all (·.1.isSome) = true
  nms : ∀ pos, (backToKw pos (keywordEach kws env)).filterMap (·.1) = ks.map nm
theorem kw_nil {env : PySem.Env} : KwOk env [] [] := ⟨fun _ => rfl, fun _ => rfl⟩
theorem kw_cons {env : PySem.Env} {k : String} (h : KwOk env kws ks) : KwOk env (⟨some (nm k), e, kpos⟩ :: kws) (k :: ks) := by
  have e1 : ∀ pos, backToKw pos (keywordEach (⟨some (nm k), e, kpos⟩ :: kws) env) = (some (nm k), do let v ← eval e env; standAt pos; pure v) :: backToKw pos (keywordEach kws env) := fun _ => rfl
  refine ⟨fun pos => ?_, fun pos => ?_⟩
  · rw [e1, List.all_cons, h.all]
    rfl
  · rw [e1, List.filterMap_cons]
    show nm k :: _ = _
    rw [h.nms]
    rfl
theorem KwOk.some_ {env : PySem.Env} (h : KwOk env kws ks) (pos : Pos) : (backToKw pos (keywordEach kws env)).any (·.1.isNone) = false := by
  have q := h.all pos
  rw [List.all_eq_true] at q
  rw [List.any_eq_false]
  intro y hy
  have := q y hy
  cases hn : y.1 with
  | none => rw [hn] at this; cases this
  | some z => simp
/-- no star among the arguments -/
def NoStar (env : PySem.Env) (es : List Expr) : Prop := match es with
  | [] => True
  | e :: es => starEach (e :: es) env = (false, eval e env) :: starEach es env ∧ ∀ pos, (backTo pos (starEach es env)).any (·.1) = false
/-- f(.., k = ..) behind its callee -/
theorem callWith_Z1 {Q : VK} {pins : List (Addr × Obj)} {s : Shared} {σ : L2.St} {H : Hp} {u : Value} {first : List Value} {fv : List V} {fd : List D} {ρ : Rh} {env : Env} {hd : Hd} (hk : PySem.W.keepIn X.K u = true) (hc : CallZ X W u S) (ha : PA X (e :: es) (rdA X.K X.mg W mr)) (hkw : PK X kws (rdA X.K X.mg W mk))
    (kw : KwOk X.env kws ks) (ns : NoStar X.env (e :: es)) (I : Inv X pins σ H s) (rf : Vals fv first) (re : REnv X.K X.mg ρ H env σ) (mo : MOk X.K X.mg ρ H hd) (rdf : RDs X.K X.mg ρ H fd fv)
    (k : Kt X.K X.mg W σ ρ H ((mr env hd).bind fun xs hd => (mk env hd).bind fun ys hd => if ys.length = ks.length then S (fd ++ xs) (ks.zip ys) hd else .bad) (fun d h ρ' H' => ∀ v, RD X.K X.mg ρ' H' d v → Q v H')) :
    wpAny (model X.prog X.w) X.A (callWith pos u first (backTo pos (starEach (e :: es) X.env)) (backToKw pos (keywordEach kws X.env))) (EP X pins σ Q) X.xe s := by
  obtain ⟨he, hpl⟩ := ns
  refine PySem.W.callWith_KW (h₀ := X.base) I.ok.mod.kin hk (kw.all pos) (thn (ha.run pos pins s σ H (fun vs H1 => ∃ ρ1 h1 ds, REnv X.K X.mg ρ1 H1 env σ ∧ MOk X.K X.mg ρ1 H1 h1 ∧ RDs X.K X.mg ρ1 H1 ds vs ∧ RDs X.K X.mg ρ1 H1 fd fv ∧
    Kt X.K X.mg W σ ρ1 H1 ((mk env h1).bind fun ys hd => if ys.length = ks.length then S (fd ++ ds) (ks.zip ys) hd else .bad) (fun d h ρ' H' => ∀ v, RD X.K X.mg ρ' H' d v → Q v H')) I
    ⟨ρ, env, hd, re, mo, k.bind.imp fun xs h1 ρ1 H1 ⟨e1, m1, k1⟩ vs rvs => ⟨ρ1, h1, xs, re.ext e1, m1, rvs, rdf.ext e1, k1⟩⟩) fun us s1 ⟨vs, H1, I1, r1, ρ1, h1, ds, re1, m1, rd1, rdf1, k1⟩ => ?_) (by rw [he]; show (false || (backTo pos (starEach es X.env)).any (·.1) || _) = false; rw [hpl, kw.some_]; rfl) he
  refine thn (hkw.run pos pins s1 σ H1 (fun zs H2 => ∃ ρ2 h2 ys, MOk X.K X.mg ρ2 H2 h2 ∧ RDs X.K X.mg ρ2 H2 ys zs ∧ RDs X.K X.mg ρ2 H2 (fd ++ ds) (fv ++ vs) ∧ ys.length = ks.length ∧
    Kt X.K X.mg W σ ρ2 H2 (S (fd ++ ds) (ks.zip ys) h2) (fun d h ρ' H' => ∀ v, RD X.K X.mg ρ' H' d v → Q v H')) I1 ⟨ρ1, env, h1, re1, m1, k1.bind.imp fun ys h2 ρ2 H2 ⟨e2, m2, k2⟩ zs rzs => ?_⟩) fun ws s2 ⟨zs, H2, I2, r2, ρ2, h2, ys, m2, rys, rds, hl, k2⟩ => ⟨I2.kIn, ?_⟩
  · split at k2
    · rename_i hl
      exact ⟨ρ2, h2, ys, m2, rzs, (rdf1.append rd1).ext e2, hl, k2⟩
    · exact k2.elim
  · rw [kw.nms]
    exact hc pins s2 σ H2 ks _ ws _ zs ρ2 h2 (fd ++ ds) ys Q I2 (rf.append r1) r2 (by rw [← r2.length, ← rys.length]; exact hl) m2 rds rys k2
theorem callWith_Z0 {Q : VK} {pins : List (Addr × Obj)} {s : Shared} {σ : L2.St} {H : Hp} {u : Value} {first : List Value} {fv : List V} {fd : List D} {ρ : Rh} {env : Env} {hd : Hd} (hk : PySem.W.keepIn X.K u = true) (hc : CallZ X W u S) (hkw : PK X kws (rdA X.K X.mg W mk))
    (kw : KwOk X.env kws ks) (I : Inv X pins σ H s) (rf : Vals fv first) (re : REnv X.K X.mg ρ H env σ) (mo : MOk X.K X.mg ρ H hd) (rdf : RDs X.K X.mg ρ H fd fv)
    (k : Kt X.K X.mg W σ ρ H ((mk env hd).bind fun ys hd => if ys.length = ks.length then S (fd ++ []) (ks.zip ys) hd else .bad) (fun d h ρ' H' => ∀ v, RD X.K X.mg ρ' H' d v → Q v H')) :
    wpAny (model X.prog X.w) X.A (callWith pos u first (backTo pos (starEach [] X.env)) (backToKw pos (keywordEach kws X.env))) (EP X pins σ Q) X.xe s := by
  refine PySem.W.callWith_KW0 (h₀ := X.base) I.ok.mod.kin hk (kw.all pos) ?_ (by show (false || (backToKw pos (keywordEach kws X.env)).any (·.1.isNone)) = false; rw [kw.some_]; rfl)
  refine thn (hkw.run pos pins s σ H (fun zs H2 => ∃ ρ2 h2 ys, MOk X.K X.mg ρ2 H2 h2 ∧ RDs X.K X.mg ρ2 H2 ys zs ∧ RDs X.K X.mg ρ2 H2 fd fv ∧ ys.length = ks.length ∧
    Kt X.K X.mg W σ ρ2 H2 (S (fd ++ []) (ks.zip ys) h2) (fun d h ρ' H' => ∀ v, RD X.K X.mg ρ' H' d v → Q v H')) I ⟨ρ, env, hd, re, mo, k.bind.imp fun ys h2 ρ2 H2 ⟨e2, m2, k2⟩ zs rzs => ?_⟩) fun ws s2 ⟨zs, H2, I2, r2, ρ2, h2, ys, m2, rys, rds, hl, k2⟩ => ⟨I2.kIn, ?_⟩
  · split at k2
    · rename_i hl
      exact ⟨ρ2, h2, ys, m2, rzs, rdf.ext e2, hl, k2⟩
    · exact k2.elim
  · rw [kw.nms, List.append_nil]
    rw [List.append_nil] at k2
    exact hc pins s2 σ H2 ks _ ws _ zs ρ2 h2 fd ys Q I2 rf r2 (by rw [← r2.length, ← rys.length]; exact hl) m2 rds rys k2
/-- f(e, .., k = ..) -/
theorem pe_callZ1 (hc : CallZ X W (.ref a) S) (hk : PySem.W.keepIn X.K (.ref a) = true) (hg : Gl X x) (hm : X.mg x = some (.ref a)) (hdb : (x == ("__debug__" : Str)) = false) (ha : PA X (e :: es) (rdA X.K X.mg W mr)) (hkw : PK X kws (rdA X.K X.mg W mk)) (kw : KwOk X.env kws ks) (ns : NoStar X.env (e :: es)) :
    PE X (.Call (.Name x p) (e :: es) kws pos) (rd X.K X.mg W fun env hd => (mr env hd).bind fun xs hd => (mk env hd).bind fun ys hd => if ys.length = ks.length then S xs (ks.zip ys) hd else .bad) := ⟨fun pins s σ H Q I ⟨ρ, env, hd, re, mo, k⟩ =>
  wpAny_Call_Name_kw (ld_glob I hg hm (callWith_Z1 hk hc ha hkw kw ns I .nil re mo .nil k) hdb)⟩
theorem pe_callZ0 (hc : CallZ X W (.ref a) S) (hk : PySem.W.keepIn X.K (.ref a) = true) (hg : Gl X x) (hm : X.mg x = some (.ref a)) (hdb : (x == ("__debug__" : Str)) = false) (hkw : PK X kws (rdA X.K X.mg W mk)) (kw : KwOk X.env kws ks) :
    PE X (.Call (.Name x p) [] kws pos) (rd X.K X.mg W fun env hd => (mk env hd).bind fun ys hd => if ys.length = ks.length then S [] (ks.zip ys) hd else .bad) := ⟨fun pins s σ H Q I ⟨ρ, env, hd, re, mo, k⟩ =>
  wpAny_Call_Name_kw (ld_glob I hg hm (callWith_Z0 hk hc hkw kw I .nil re mo .nil k) hdb)⟩
/-- the tree of a method call -/
theorem wp_method {m : Str} {Q : Value → Shared → Prop} {s : Shared} (hbase : attributeBase o m X.env (eval o X.env) = eval o X.env) (hform : methodCallForm (es.length + kws.length) (backTo pos (starEach es X.env)) (backToKw pos (keywordEach kws X.env)) = true)
    (hline : (apos.endLine == pos.line) = true)
    (h : wpAny (model X.prog X.w) X.A (eval o X.env) (fun ov s1 => ∀ pl, wpAny (model X.prog X.w) X.A (getMethod ov m pl) (fun fx s2 => wpAny (model X.prog X.w) X.A (callWith pos fx.1 fx.2 (backTo pos (starEach es X.env)) (backToKw pos (keywordEach kws X.env))) Q X.xe s2) X.xe s1) X.xe s) :
    wpAny (model X.prog X.w) X.A (eval (.Call (.Attribute o m apos) es kws pos) X.env) Q X.xe s := by
  rw [arm_eval_Call, hbase]
  refine wpAny_bind (wpAny_mono h (fun ov s1 h1 => ?_) fun _ _ e => e)
  refine wpAny_bind (wpAny_standAt ?_)
  have hpos : methodCallPos true o X.env apos pos = pure pos := by unfold methodCallPos; simp [hline]
  unfold methodCall
  rw [hform]
  refine wpAny_bind (wpAny_holding (wpAny_mono (h1 _) (fun fx s2 h2 => ?_) fun _ _ e => e))
  exact wpAny_bind (wpAny_of_eq hpos h2)
/-- o.m(e, .., k = ..), o an instance -/
theorem meK_of {g : G} {m : String} {d : D} {C : String} {hd : Hd} {ρ : Rh} {H : Hp} {v : V} (mo : MOk X.K X.mg ρ H hd) (r : RD X.K X.mg ρ H d v) (e : meK g m d hd = some C) :
    ∃ b c dx fs c', v = .ref b ∧ X.mg (nm C) = some (.ref c) ∧ H b = some (.ins c dx fs) ∧ g.T.cl C = some c' ∧ c'.own.lookup m = some .meth ∧ fs.lookup (nm m) = none := by
  unfold meK at e
  cases r with
  | ins n g' h q =>
    dsimp only at e
    split at e
    · rename_i c' hc
      split at e
      · rename_i hh
        cases e
        exact ⟨_, _, _, _, c', rfl, g', h, hc, hh.1, q.no hh.2⟩
      · cases e
    · cases e
  | @obj n a h =>
    dsimp only at e
    split at e
    · rename_i Cn fs hn
      split at e
      · rename_i c' hc
        split at e
        · rename_i hh
          cases e
          have mm := mo.at_ _ _ _ h hn
          cases mm with
          | ins g' h' q => exact ⟨_, _, _, _, c', rfl, g', h', hc, hh.1, q.no hh.2⟩
        · cases e
      · cases e
    · cases e
  | _ => cases e
/-- the methods of the table -/
structure MeOk (X : Cx) (W : WX) (g : G) : Prop where
  at_ : ∀ C c m, g.T.cl C = some c → c.own.lookup m = some .meth → ∃ a p, X.mg (nm C) = some (.ref a) ∧ Cls X.K a ∧ Meth X.K a (nm m) p ∧ CallZ X W (.ref p) (g.call (C, m))
theorem pe_meZ1 {g : G} {m : String} (M : MeOk X W g) (ho : PE X o (rd X.K X.mg W mo')) (hbase : attributeBase o (nm m) X.env (eval o X.env) = eval o X.env) (hform : methodCallForm ((e :: es).length + kws.length) (backTo pos (starEach (e :: es) X.env)) (backToKw pos (keywordEach kws X.env)) = true)
    (hline : (apos.endLine == pos.line) = true) (ha : PA X (e :: es) (rdA X.K X.mg W mr)) (hkw : PK X kws (rdA X.K X.mg W mk)) (kw : KwOk X.env kws ks) (ns : NoStar X.env (e :: es)) :
    PE X (.Call (.Attribute o (nm m) apos) (e :: es) kws pos) (rd X.K X.mg W fun env hd => (mo' env hd).bind fun x hd => match meK g m x hd with
      | some C => (mr env hd).bind fun xs hd => (mk env hd).bind fun ys hd => if ys.length = ks.length then g.call (C, m) (x :: xs) (ks.zip ys) hd else .bad
      | none => .bad) := ⟨fun pins s σ H Q I ⟨ρ, env, hd, re, mo, k⟩ => by
  refine wp_method hbase hform hline (thn (ho.run pins s σ H (fun v H1 => ∃ ρ1 h1 d C, REnv X.K X.mg ρ1 H1 env σ ∧ MOk X.K X.mg ρ1 H1 h1 ∧ RD X.K X.mg ρ1 H1 d v ∧ meK g m d h1 = some C ∧
    Kt X.K X.mg W σ ρ1 H1 ((mr env h1).bind fun xs hd => (mk env hd).bind fun ys hd => if ys.length = ks.length then g.call (C, m) (d :: xs) (ks.zip ys) hd else .bad) (fun d h ρ' H' => ∀ v, RD X.K X.mg ρ' H' d v → Q v H')) I
    ⟨ρ, env, hd, re, mo, k.bind.imp fun x h1 ρ1 H1 ⟨e1, m1, k1⟩ v rv => ?_⟩) fun u s1 ⟨v, H1, I1, r1, ρ1, h1, d, C, re1, m1, rd1, hC, k1⟩ pl => ?_)
  · cases q : meK g m x h1 with
    | none => rw [q] at k1; exact k1.elim
    | some C =>
      rw [q] at k1
      exact ⟨ρ1, h1, x, C, re.ext e1, m1, rv, q, k1⟩
  · obtain ⟨b, c, dx, fs, c', rfl, hm, hH, hc, hme, hno⟩ := meK_of m1 rd1 hC
    obtain ⟨a, q, ha', cl, me, cz⟩ := M.at_ C c' m hc hme
    have ea : c = a := by
      have := hm.symm.trans ha'
      cases this
      rfl
    subst ea
    obtain rfl : u = Value.ref b := r1
    refine getmeth_ok I1 hH cl me hno ?_
    exact callWith_Z1 (fd := [d]) (first := [.ref b]) (fv := [.ref b]) me.kp cz ha hkw kw ns I1 (.cons rfl .nil) re1 m1 (.cons rd1 .nil) k1⟩
theorem pe_meZ0 {g : G} {m : String} (M : MeOk X W g) (ho : PE X o (rd X.K X.mg W mo')) (hbase : attributeBase o (nm m) X.env (eval o X.env) = eval o X.env) (hform : methodCallForm (([] : List Expr).length + kws.length) (backTo pos (starEach [] X.env)) (backToKw pos (keywordEach kws X.env)) = true)
    (hline : (apos.endLine == pos.line) = true) (hkw : PK X kws (rdA X.K X.mg W mk)) (kw : KwOk X.env kws ks) :
    PE X (.Call (.Attribute o (nm m) apos) [] kws pos) (rd X.K X.mg W fun env hd => (mo' env hd).bind fun x hd => match meK g m x hd with
      | some C => (mk env hd).bind fun ys hd => if ys.length = ks.length then g.call (C, m) [x] (ks.zip ys) hd else .bad
      | none => .bad) := ⟨fun pins s σ H Q I ⟨ρ, env, hd, re, mo, k⟩ => by
  refine wp_method hbase hform hline (thn (ho.run pins s σ H (fun v H1 => ∃ ρ1 h1 d C, REnv X.K X.mg ρ1 H1 env σ ∧ MOk X.K X.mg ρ1 H1 h1 ∧ RD X.K X.mg ρ1 H1 d v ∧ meK g m d h1 = some C ∧
    Kt X.K X.mg W σ ρ1 H1 ((mk env h1).bind fun ys hd => if ys.length = ks.length then g.call (C, m) [d] (ks.zip ys) hd else .bad) (fun d h ρ' H' => ∀ v, RD X.K X.mg ρ' H' d v → Q v H')) I
    ⟨ρ, env, hd, re, mo, k.bind.imp fun x h1 ρ1 H1 ⟨e1, m1, k1⟩ v rv => ?_⟩) fun u s1 ⟨v, H1, I1, r1, ρ1, h1, d, C, re1, m1, rd1, hC, k1⟩ pl => ?_)
  · cases q : meK g m x h1 with
    | none => rw [q] at k1; exact k1.elim
    | some C =>
      rw [q] at k1
      exact ⟨ρ1, h1, x, C, re.ext e1, m1, rv, q, k1⟩
  · obtain ⟨b, c, dx, fs, c', rfl, hm, hH, hc, hme, hno⟩ := meK_of m1 rd1 hC
    obtain ⟨a, q, ha', cl, me, cz⟩ := M.at_ C c' m hc hme
    have ea : c = a := by
      have := hm.symm.trans ha'
      cases this
      rfl
    subst ea
    obtain rfl : u = Value.ref b := r1
    refine getmeth_ok I1 hH cl me hno ?_
    exact callWith_Z0 (fd := [d]) (first := [.ref b]) (fv := [.ref b]) me.kp cz hkw kw I1 (.cons rfl .nil) re1 m1 (.cons rd1 .nil) k1⟩
end
end Z
/-! Z17c: a class's own method called through the class; a class called that a local name stands for. -/
namespace Z
open PySem L2 PySem.Spec PyProof.Rows
/-- a function's code does S -/
def CodeZ (X : Cx) (W : WX) (f : Addr) (S : List D → List (String × D) → Hd → R D) : Prop :=
  ∀ (pins : List (Addr × Obj)) (s : Shared) (σ : L2.St) (H : Hp) (ks : List String) (us ws : List Value) (vs zs : List V) (ρ : Rh) (hd : Hd) (ds es : List D) (Q : VK), Inv X pins σ H s → Vals vs us → Vals zs ws → ws.length = ks.length → MOk X.K X.mg ρ H hd →
    RDs X.K X.mg ρ H ds vs → RDs X.K X.mg ρ H es zs → Kt X.K X.mg W σ ρ H (S ds (ks.zip es) hd) (fun d h ρ' H' => ∀ v, RD X.K X.mg ρ' H' d v → Q v H') →
    codeAny (model X.prog X.w) X.A (.call (.ref f) ⟨us, (ks.map nm).zip ws⟩) (fun r s' => match r with | .ok (.ret v) => EP X pins σ Q v s' | .ok _ => False | .error e => X.xe e s') s
/-- a class as the text reads it, and its own method: the record at p, the def at q -/
structure CmAt (K : PySem.W.Frag) (a p q : Addr) (m : Str) : Prop where
  rd : ClX.CRead K a (.type "type")
  met : ClX.CMet K a (.type "type") m p q
section
variable {X : Cx} {W : WX} {e : Expr} {es : List Expr} {kws : List Keyword} {mr mk : Env → Hd → R (List D)} {x y : Str} {p pos apos : Pos} {a b q : Addr} {ks : List String} {S : List D → List (String × D) → Hd → R D}
/-- what stands behind the arguments: the call of the bound method -/
theorem bound_call {pins : List (Addr × Obj)} {t : Addr} {σ : L2.St} {H : Hp} {s : Shared} {Q : VK} {us ws : List Value} {vs zs : List V} {ρ : Rh} {hd : Hd} {ds es : List D} {dc : D} (hc : CodeZ X W q S) (I : Inv X ((t, PySem.W.methodObj (.ref q) (.ref a)) :: pins) σ H s) (r : Vals vs us) (rz : Vals zs ws) (hz : ws.length = ks.length) (mo : MOk X.K X.mg ρ H hd)
    (rc : RD X.K X.mg ρ H dc (.ref a)) (rd : RDs X.K X.mg ρ H ds vs) (re : RDs X.K X.mg ρ H es zs) (k : Kt X.K X.mg W σ ρ H (S (dc :: ds) (ks.zip es) hd) (fun d h ρ' H' => ∀ v, RD X.K X.mg ρ' H' d v → Q v H')) :
    wpAny (model X.prog X.w) X.A (call (.ref t) us ((ks.map nm).zip ws)) (EP X ((t, PySem.W.methodObj (.ref q) (.ref a)) :: pins) σ Q) X.xe s :=
  wpAny_call (PySem.W.method_call (ClX.pin_at I) (hc _ s σ H ks (.ref a :: us) ws (.ref a :: vs) zs ρ hd (dc :: ds) es Q I (.cons rfl r) rz hz mo (.cons rc rd) re k))
theorem bound_with {Q : VK} {pins : List (Addr × Obj)} {t : Addr} {s : Shared} {σ : L2.St} {H : Hp} {ρ : Rh} {env : Env} {hd : Hd} {dc : D} (hf : PySem.W.fnIn X.K q = true) (hc : CodeZ X W q S) (ha : PA X (e :: es) (rdA X.K X.mg W mr)) (hkw : PK X kws (rdA X.K X.mg W mk)) (kw : KwOk X.env kws ks) (ns : NoStar X.env (e :: es))
    (I : Inv X ((t, PySem.W.methodObj (.ref q) (.ref a)) :: pins) σ H s) (re : REnv X.K X.mg ρ H env σ) (mo : MOk X.K X.mg ρ H hd) (rc : RD X.K X.mg ρ H dc (.ref a))
    (k : Kt X.K X.mg W σ ρ H ((mr env hd).bind fun xs hd => (mk env hd).bind fun ys hd => if ys.length = ks.length then S (dc :: xs) (ks.zip ys) hd else .bad) (fun d h ρ' H' => ∀ v, RD X.K X.mg ρ' H' d v → Q v H')) :
    wpAny (model X.prog X.w) X.A (callWith pos (.ref t) [] (backTo pos (starEach (e :: es) X.env)) (backToKw pos (keywordEach kws X.env))) (EP X pins σ Q) X.xe s := by
  obtain ⟨he, hpl⟩ := ns
  have none_ : ((backTo pos (starEach (e :: es) X.env)).any (·.1) || (backToKw pos (keywordEach kws X.env)).any (·.1.isNone)) = false := by
    rw [he]
    show (false || (backTo pos (starEach es X.env)).any (·.1) || _) = false
    rw [hpl, kw.some_]
    rfl
  refine wpAny_mono (Q := EP X ((t, PySem.W.methodObj (.ref q) (.ref a)) :: pins) σ Q) ?_ (fun _ _ z => ClX.unpinE z) fun _ _ z => z
  refine PySem.W.callWith_of (P := PySem.W.MethP X.K t q (.ref a)) none_ (PySem.W.keeps_M hf) (evalArgs_kw2 (kw.all pos) ?_ he)
  refine thn (ha.run pos _ s σ H (fun vs H1 => ∃ ρ1 h1 ds, REnv X.K X.mg ρ1 H1 env σ ∧ MOk X.K X.mg ρ1 H1 h1 ∧ RDs X.K X.mg ρ1 H1 ds vs ∧ RD X.K X.mg ρ1 H1 dc (.ref a) ∧
    Kt X.K X.mg W σ ρ1 H1 ((mk env h1).bind fun ys hd => if ys.length = ks.length then S (dc :: ds) (ks.zip ys) hd else .bad) (fun d h ρ' H' => ∀ v, RD X.K X.mg ρ' H' d v → Q v H')) I
    ⟨ρ, env, hd, re, mo, k.bind.imp fun xs h1 ρ1 H1 ⟨e1, m1, k1⟩ vs rvs => ⟨ρ1, h1, xs, re.ext e1, m1, rvs, rc.ext e1, k1⟩⟩) fun us s1 ⟨vs, H1, I1, r1, ρ1, h1, ds, re1, m1, rd1, rc1, k1⟩ => ?_
  refine thn (hkw.run pos _ s1 σ H1 (fun zs H2 => ∃ ρ2 h2 ys, MOk X.K X.mg ρ2 H2 h2 ∧ RDs X.K X.mg ρ2 H2 ys zs ∧ RDs X.K X.mg ρ2 H2 ds vs ∧ RD X.K X.mg ρ2 H2 dc (.ref a) ∧ ys.length = ks.length ∧
    Kt X.K X.mg W σ ρ2 H2 (S (dc :: ds) (ks.zip ys) h2) (fun d h ρ' H' => ∀ v, RD X.K X.mg ρ' H' d v → Q v H')) I1 ⟨ρ1, env, h1, re1, m1, k1.bind.imp fun ys h2 ρ2 H2 ⟨e2, m2, k2⟩ zs rzs => ?_⟩) fun ws s2 ⟨zs, H2, I2, r2, ρ2, h2, ys, m2, rys, rds, rc2, hl, k2⟩ => ⟨⟨ClX.pin_at I2, I2.kIn⟩, ?_⟩
  · split at k2
    · rename_i hl
      exact ⟨ρ2, h2, ys, m2, rzs, rd1.ext e2, rc1.ext e2, hl, k2⟩
    · exact k2.elim
  · rw [kw.nms]
    exact bound_call hc I2 r1 r2 (by rw [← r2.length, ← rys.length]; exact hl) m2 rc2 rds rys k2
theorem bound_with0 {Q : VK} {pins : List (Addr × Obj)} {t : Addr} {s : Shared} {σ : L2.St} {H : Hp} {ρ : Rh} {env : Env} {hd : Hd} {dc : D} (hf : PySem.W.fnIn X.K q = true) (hc : CodeZ X W q S) (hkw : PK X kws (rdA X.K X.mg W mk)) (kw : KwOk X.env kws ks)
    (I : Inv X ((t, PySem.W.methodObj (.ref q) (.ref a)) :: pins) σ H s) (re : REnv X.K X.mg ρ H env σ) (mo : MOk X.K X.mg ρ H hd) (rc : RD X.K X.mg ρ H dc (.ref a))
    (k : Kt X.K X.mg W σ ρ H ((mk env hd).bind fun ys hd => if ys.length = ks.length then S [dc] (ks.zip ys) hd else .bad) (fun d h ρ' H' => ∀ v, RD X.K X.mg ρ' H' d v → Q v H')) :
    wpAny (model X.prog X.w) X.A (callWith pos (.ref t) [] (backTo pos (starEach [] X.env)) (backToKw pos (keywordEach kws X.env))) (EP X pins σ Q) X.xe s := by
  have none_ : ((backTo pos (starEach [] X.env)).any (·.1) || (backToKw pos (keywordEach kws X.env)).any (·.1.isNone)) = false := by
    show (false || (backToKw pos (keywordEach kws X.env)).any (·.1.isNone)) = false
    rw [kw.some_]
    rfl
  refine wpAny_mono (Q := EP X ((t, PySem.W.methodObj (.ref q) (.ref a)) :: pins) σ Q) ?_ (fun _ _ z => ClX.unpinE z) fun _ _ z => z
  refine PySem.W.callWith_of (P := PySem.W.MethP X.K t q (.ref a)) none_ (PySem.W.keeps_M hf) (evalArgs_kw2_nil (kw.all pos) ?_)
  refine thn (hkw.run pos _ s σ H (fun zs H2 => ∃ ρ2 h2 ys, MOk X.K X.mg ρ2 H2 h2 ∧ RDs X.K X.mg ρ2 H2 ys zs ∧ RD X.K X.mg ρ2 H2 dc (.ref a) ∧ ys.length = ks.length ∧
    Kt X.K X.mg W σ ρ2 H2 (S [dc] (ks.zip ys) h2) (fun d h ρ' H' => ∀ v, RD X.K X.mg ρ' H' d v → Q v H')) I ⟨ρ, env, hd, re, mo, k.bind.imp fun ys h2 ρ2 H2 ⟨e2, m2, k2⟩ zs rzs => ?_⟩) fun ws s2 ⟨zs, H2, I2, r2, ρ2, h2, ys, m2, rys, rc2, hl, k2⟩ => ⟨⟨ClX.pin_at I2, I2.kIn⟩, ?_⟩
  · split at k2
    · rename_i hl
      exact ⟨ρ2, h2, ys, m2, rzs, rc.ext e2, hl, k2⟩
    · exact k2.elim
  · rw [kw.nms]
    exact bound_call hc I2 .nil r2 (by rw [← r2.length, ← rys.length]; exact hl) m2 rc2 .nil rys k2
/-- C.m(e, .., k = ..) -/
theorem pe_cmZ1 {C m : String} (hg : Gl X (nm C)) (hm : X.mg (nm C) = some (.ref a)) (hdb : (nm C == ("__debug__" : Str)) = false) (c : CmAt X.K a b q (nm m)) (hc : CodeZ X W q S) (hform : methodCallForm ((e :: es).length + kws.length) (backTo pos (starEach (e :: es) X.env)) (backToKw pos (keywordEach kws X.env)) = true)
    (hline : (apos.endLine == pos.line) = true) (ha : PA X (e :: es) (rdA X.K X.mg W mr)) (hkw : PK X kws (rdA X.K X.mg W mk)) (kw : KwOk X.env kws ks) (ns : NoStar X.env (e :: es)) :
    PE X (.Call (.Attribute (.Name (nm C) p) (nm m) apos) (e :: es) kws pos) (rd X.K X.mg W fun env hd => (mr env hd).bind fun xs hd => (mk env hd).bind fun ys hd => if ys.length = ks.length then S (.glo C :: xs) (ks.zip ys) hd else .bad) := ⟨fun pins s σ H Q I ⟨ρ, env, hd, re, mo, k⟩ =>
  wp_method rfl hform hline (ld_glob I hg hm (fun pl => ClX.getmethcm_ok I c.rd c.met fun s' I' => bound_with c.met.fi hc ha hkw kw ns I' re mo (.glo hm) k) hdb)⟩
theorem pe_cmZ0 {C m : String} (hg : Gl X (nm C)) (hm : X.mg (nm C) = some (.ref a)) (hdb : (nm C == ("__debug__" : Str)) = false) (c : CmAt X.K a b q (nm m)) (hc : CodeZ X W q S) (hform : methodCallForm (([] : List Expr).length + kws.length) (backTo pos (starEach [] X.env)) (backToKw pos (keywordEach kws X.env)) = true)
    (hline : (apos.endLine == pos.line) = true) (hkw : PK X kws (rdA X.K X.mg W mk)) (kw : KwOk X.env kws ks) :
    PE X (.Call (.Attribute (.Name (nm C) p) (nm m) apos) [] kws pos) (rd X.K X.mg W fun env hd => (mk env hd).bind fun ys hd => if ys.length = ks.length then S [.glo C] (ks.zip ys) hd else .bad) := ⟨fun pins s σ H Q I ⟨ρ, env, hd, re, mo, k⟩ =>
  wp_method rfl hform hline (ld_glob I hg hm (fun pl => ClX.getmethcm_ok I c.rd c.met fun s' I' => bound_with0 c.met.fi hc hkw kw I' re mo (.glo hm) k) hdb)⟩
/-- what a local name stands for: a class of the table -/
structure NewAt (X : Cx) (W : WX) (g : G) : Prop where
  at_ : ∀ C c, g.T.cl C = some c → ∃ a, X.mg (nm C) = some (.ref a) ∧ PySem.W.keepIn X.K (.ref a) = true ∧ CallZ X W (.ref a) (newS g C)
theorem class_at {g : G} {i : Nat} {C : String} {env : Env} {ρ : Rh} {H : Hp} {σ : L2.St} (N : NewAt X W g) (re : REnv X.K X.mg ρ H env σ) (e : env[i]? = some (some (.glo C))) (h : (g.T.cl C).isSome = true) :
    ∃ a, σ[i]? = some (some (.ref a)) ∧ PySem.W.keepIn X.K (.ref a) = true ∧ CallZ X W (.ref a) (newS g C) := by
  obtain ⟨c, hc⟩ := Option.isSome_iff_exists.mp h
  obtain ⟨a, c1, c2, c3⟩ := N.at_ C c hc
  obtain ⟨v, e0, r0⟩ := re.at_ i _ e
  cases r0 with
  | glo h1 =>
    cases h1.symm.trans c1
    exact ⟨a, e0, c2, c3⟩
theorem pe_newvZ1 {g : G} {i : Nat} (N : NewAt X W g) (hN : X.N[i]? = some x) (hv : Vis X.env.scope x) (d1 : (x == ("__debug__" : Str)) = false) (d2 : (x == ("__classdict__" : Str)) = false) (ha : PA X (e :: es) (rdA X.K X.mg W mr)) (hkw : PK X kws (rdA X.K X.mg W mk)) (kw : KwOk X.env kws ks) (ns : NoStar X.env (e :: es)) :
    PE X (.Call (.Name x p) (e :: es) kws pos) (rd X.K X.mg W fun env hd => match env[i]? with
      | some (some (.glo C)) => if (g.T.cl C).isSome then (mr env hd).bind fun xs hd => (mk env hd).bind fun ys hd => if ys.length = ks.length then newS g C xs (ks.zip ys) hd else .bad else .bad
      | _ => .bad) := ⟨fun pins s σ H Q I ⟨ρ, env, hd, re, mo, k⟩ => by
  dsimp only at k
  split at k
  · rename_i C e1
    split at k
    · rename_i h
      obtain ⟨a, e0, c2, c3⟩ := class_at N re e1 h
      refine wpAny_Call_Name_kw (thn ((pe_var hN hv d1 d2).run pins s σ H (fun w H' => w = .ref a ∧ H' = H) I ⟨_, e0, rfl, rfl⟩) fun u s1 ⟨w, H', I1, r1, ew, eh⟩ => ?_)
      subst ew eh
      obtain rfl : u = Value.ref a := r1
      exact callWith_Z1 c2 c3 ha hkw kw ns I1 .nil re mo .nil k
    · exact k.elim
  · exact k.elim⟩
theorem pe_newvZ0 {g : G} {i : Nat} (N : NewAt X W g) (hN : X.N[i]? = some x) (hv : Vis X.env.scope x) (d1 : (x == ("__debug__" : Str)) = false) (d2 : (x == ("__classdict__" : Str)) = false) (hkw : PK X kws (rdA X.K X.mg W mk)) (kw : KwOk X.env kws ks) :
    PE X (.Call (.Name x p) [] kws pos) (rd X.K X.mg W fun env hd => match env[i]? with
      | some (some (.glo C)) => if (g.T.cl C).isSome then (mk env hd).bind fun ys hd => if ys.length = ks.length then newS g C [] (ks.zip ys) hd else .bad else .bad
      | _ => .bad) := ⟨fun pins s σ H Q I ⟨ρ, env, hd, re, mo, k⟩ => by
  dsimp only at k
  split at k
  · rename_i C e1
    split at k
    · rename_i h
      obtain ⟨a, e0, c2, c3⟩ := class_at N re e1 h
      refine wpAny_Call_Name_kw (thn ((pe_var hN hv d1 d2).run pins s σ H (fun w H' => w = .ref a ∧ H' = H) I ⟨_, e0, rfl, rfl⟩) fun u s1 ⟨w, H', I1, r1, ew, eh⟩ => ?_)
      subst ew eh
      obtain rfl : u = Value.ref a := r1
      exact callWith_Z0 c2 c3 hkw kw I1 .nil re mo .nil k
    · exact k.elim
  · exact k.elim⟩
end
end Z
/-! Z18: attributes: fields, properties. -/
namespace Z
open PySem L2 PySem.Spec PyProof.Rows

/-- a def's code around A, nothing raised -/
def CallA (X : Cx) (A : Around) (q : Addr) (S : List D → Hd → R D) : Prop :=
  ∀ (pins : List (Addr × Obj)) (s : Shared) (σ : L2.St) (H : Hp) (us : List Value) (vs : List V) (ρ : Rh) (hd : Hd) (ds : List D) (Q : VK), Inv X pins σ H s → Vals vs us → MOk X.K X.mg ρ H hd → RDs X.K X.mg ρ H ds vs → OkR (S ds hd) (Fin X.K X.mg ρ H Q) →
    codeAny (model X.prog X.w) A (.call (.ref q) ⟨us, []⟩) (fun r s' => match r with | .ok (.ret w) => EP X pins σ Q w s' | _ => False) s
section
variable {X : Cx} {T : Tab} {j : Nat} {fd : Fn} {f : Addr} {FD : FuncData} {key : String × String}
theorem callA_of {A : Around} (F : FnZ X.prog X.w X.K X.mg X.base T j fd f FD) (hs : Shapes fd FD) (hT : T.fn key = some fd) (hr : RoomY (j + 1) A) (hA : A.frames = X.A.frames) : CallA X A f (fun ds hd => callF T (j + 1) key ds [] hd) := by
  intro pins s σ H us vs ρ hd ds Q I r mo rd k
  have e0 := I.env0
  have e1 : Env0 X.prog X.w X.K X.mg X.base A X.stack s H := ⟨by rw [hA]; exact e0.frames, e0.mod, e0.bs, e0.bsz, e0.funs, e0.frf, e0.hok, e0.bare⟩
  have k' : KtE X.K X.mg (fun _ _ _ => False) ρ H (callF T (j + 1) key ds (([] : List String).zip ([] : List D)) hd) Q := by
    unfold KtE
    have k : OkR (callF T (j + 1) key ds [] hd) (Fin X.K X.mg ρ H Q) := k
    cases e : callF T (j + 1) key ds [] hd with
    | ok d h =>
      rw [e] at k
      show Kt _ _ _ _ _ _ (callF T (j + 1) key ds [] hd) _
      rw [e]
      exact k
    | exc C fs h => rw [e] at k; exact k.elim
    | bad => rw [e] at k; exact k.elim
  refine codeAny_mono (code_fnZ (pins := pins) (σ := σ) (ks := []) (us := us) (ws := []) (vs := vs) (zs := []) (es := []) F hs hT hr e1 r .nil rfl mo rd .nil k') fun r s' hq => ?_
  cases r with
  | error e =>
    obtain ⟨_, _, _, _, _, _, _, _, _, _, _, _, z⟩ := hq
    exact z.elim
  | ok fl =>
    cases fl with
    | ret u => exact I.after hq
    | next => exact hq.elim
    | brk => exact hq.elim
    | cont => exact hq.elim
/-- the attributes of the table's classes -/
structure AtOk (X : Cx) (g : G) : Prop where
  prop : ∀ C c f, g.T.cl C = some c → c.own.lookup f = some .prop → ∃ a p q, X.mg (nm C) = some (.ref a) ∧ Cls X.K a ∧ PropOf X.K a (nm f) p q ∧ CallA X X.A.in1 q (fun ds hd => g.call (C, f) ds [] hd)
theorem prop_ok {pins : List (Addr × Obj)} {σ : L2.St} {H : Hp} {s : Shared} {Q : VK} {b : Bool} {E' : Value → Shared → Prop} {a C dx p q : Addr} {fs : List (Str × V)} {m : Str} {S : List D → Hd → R D} {ρ : Rh} {hd : Hd} {d : D} (I : Inv X pins σ H s) (ea : H a = some (.ins C dx fs)) (c : Cls X.K C) (hp : PropOf X.K C m p q)
    (hc : CallA X X.A.in1 q S) (mo : MOk X.K X.mg ρ H hd) (rd : RD X.K X.mg ρ H d (.ref a)) (k : OkR (S [d] hd) (Fin X.K X.mg ρ H Q)) : wpAny (model X.prog X.w) X.A (getAttr (.ref a) m b) (EP X pins σ Q) E' s := by
  obtain ⟨mA, O, _, _, _, _⟩ := ins_get I.hok ea
  obtain ⟨od, J, _⟩ := O.look
  obtain ⟨rest, hrec⟩ := hp.rec_
  have I1 := I.tok (s.toks + 1)
  have hcl : (PySem.W.clsIn X.K C).isSome = true := by
    obtain ⟨cd, hc, _⟩ := PySem.W.any_some c.hd
    rw [hc]
    rfl
  refine PySem.W.get_bind I.kIn J (PySem.W.plainGet_of (c.get m)).1 (PySem.W.findObj_data hcl hp.at_ hp.get hp.tak) (PySem.W.plainGet_of (c.get m)).2 (wpAny_call (PySem.W.prop_get (s := { s with toks := s.toks + 1 }) I.kIn hrec ?_))
  refine codeAny_mono (hc pins { s with toks := s.toks + 1 } σ H [.ref a] [.ref a] ρ hd [d] Q I1 (.cons rfl .nil) mo (.cons rd .nil) k) fun r s' hq => ?_
  cases r with
  | error er => exact hq.elim
  | ok fl =>
    cases fl with
    | ret u =>
      obtain ⟨v, H', I3, rv, q3⟩ := hq
      show wpAny _ _ (handedOut u) _ _ _
      rw [PySem.W.handedOut_of (handed_of rv)]
      exact wpAny_pure ⟨v, H', I3, rv, q3⟩
    | next => exact hq.elim
    | brk => exact hq.elim
    | cont => exact hq.elim
theorem attZ_of {g : G} {f : String} {d : D} {hd : Hd} {ρ : Rh} {H : Hp} {v : V} {Q : VK} {b : Bool} {pins : List (Addr × Obj)} {σ : L2.St} {s : Shared} {u : Value} {E' : Value → Shared → Prop} (tf : TF X.K X.mg g.T) (at_ : AtOk X g) (I : Inv X pins σ H s) (ru : RelV v u) (mo : MOk X.K X.mg ρ H hd) (r : RD X.K X.mg ρ H d v)
    (k : OkR (attS g d f hd) (Fin X.K X.mg ρ H Q)) : wpAny (model X.prog X.w) X.A (getAttr u (nm f) b) (EP X pins σ Q) E' s := by
  -- what stands there
  have core : ∀ (C : String) (fs : List (String × D)) (a c dx : Addr) (gs : List (Str × V)), v = .ref a → X.mg (nm C) = some (.ref c) → H a = some (.ins c dx gs) → RDf X.K X.mg ρ H fs gs → OkR (match g.T.cl C with
      | some c => (match c.own.lookup f with
        | some .prop => g.call (C, f) [d] [] hd
        | some _ => .bad
        | none => if f ∈ c.flds then R.of (fs.lookup f) hd else .bad)
      | none => .bad) (Fin X.K X.mg ρ H Q) → wpAny (model X.prog X.w) X.A (getAttr u (nm f) b) (EP X pins σ Q) E' s := fun C fs a c dx gs hv hm hH rf k => by
    subst hv
    obtain rfl : u = Value.ref a := ru
    split at k
    · rename_i c' hc
      split at k
      · rename_i hp
        obtain ⟨a', p, q, h1, h2, h3, h4⟩ := at_.prop C c' f hc hp
        have ea : c = a' := by
          have := hm.symm.trans h1
          cases this
          rfl
        subst ea
        exact prop_ok I hH h2 h3 h4 mo r k
      · exact absurd k id
      · rename_i hn
        split at k
        · rename_i hf
          obtain ⟨a', F⟩ := tf.cl C c' hc
          have ea : c = a' := by
            have := hm.symm.trans F.mg_
            cases this
            rfl
          subst ea
          cases e : fs.lookup f with
          | none => rw [e] at k; exact absurd k id
          | some w =>
            rw [e] at k
            obtain ⟨y, h1, h2⟩ := rf.look e
            exact getattr_ok I hH F.cls (F.noat f hf hn) h1 fun u' s2 I2 ru2 => ⟨y, H, I2, ru2, Fin.same mo k h2⟩
        · exact absurd k id
    · exact absurd k id
  unfold attS at k
  cases d with
  | ins C fs =>
    cases r with
    | ins n g' h q => exact core C fs _ _ _ _ rfl g' h q k
  | obj n =>
    cases r with
    | obj h =>
      dsimp only at k
      split at k
      · rename_i C fs hn
        have mm := mo.at_ _ _ _ h hn
        cases mm with
        | ins g' h' q => exact core C fs _ _ _ _ rfl g' h' q k
      · exact absurd k id
  | exc C fs => nomatch r
  | _ => exact absurd k id
theorem pe_attZ {g : G} {f : String} {W : WX} {o : Expr} {mo' : Env → Hd → R D} {pos : Pos} (tf : TF X.K X.mg g.T) (at_ : AtOk X g) (ho : PE X o (rd X.K X.mg W mo')) (hb : attributeBase o (nm f) X.env (eval o X.env) = eval o X.env) :
    PE X (.Attribute o (nm f) pos) (rd X.K X.mg W fun env hd => (mo' env hd).bind fun x hd => (attS g x f hd).st) := ⟨fun pins s σ H Q I ⟨ρ, env, hd, re, mo, k⟩ =>
  attr_of hb (thn (ho.run pins s σ H (fun v H1 => ∃ ρ1 h1 d, MOk X.K X.mg ρ1 H1 h1 ∧ RD X.K X.mg ρ1 H1 d v ∧ OkR (attS g d f h1) (Fin X.K X.mg ρ1 H1 Q)) I ⟨ρ, env, hd, re, mo, k.bind.imp fun x h1 ρ1 H1 ⟨e1, m1, k1⟩ v rv => ⟨ρ1, h1, x, m1, rv, k1.st⟩⟩)
    fun u s1 ⟨v, H1, I1, r1, ρ1, h1, d, m1, rd1, k1⟩ => attZ_of tf at_ I1 r1 m1 rd1 k1)⟩
end
end Z
/-! Z19: the table's promises; the ground of a body and of a block. -/
namespace Z
open PySem L2 PySem.Spec PyProof.Rows

def bNames : List Str := ["len", "abs", "int", "bool", "str", "repr", "all", "any", "tuple", "list", "max", "min", "divmod", "isinstance", "range", "enumerate"]
def noPar : Arguments → Bool
  | ⟨[], [], none, [], [], none, []⟩ => true
  | _ => false
/-- the def's own table of code objects is at hand -/
def LamOk (X : Cx) : Prop := ∃ c P, X.env.code = .ref c ∧ (lamsK X.K).lookup P = some (X.env.qual ++ "<lambda>") ∧ LamX.TabB X.base X.mg c P
/-- told(lambda: e) does what is told of it -/
def TdRule (K : PySem.W.Frag) (mg : MG) (T : Tab) : Prop := ∀ (X : Cx) (W : WX) (m : Env → Hd → R D) (params : Arguments) (body : Expr) (scope : Scope) (p lpos pos : Pos), X.K = K → X.mg = mg → Gl X "_law_told" → LamOk X → LamX.LamS X.env.scope scope → noPar params = true →
  X.A.handled = none → X.A.depth + 25 < recursionLimit → X.A.units + 300 < cLine → X.A.guards = some [] →
  (∀ (e0 : PySem.Env) (outer : List PySem.Env) (s : Shared) (H : Hp) (E : XK) (f c' : Addr), PE (LamX.lamCx X (X.A.deeper e0) outer s H E scope f c') body (rd X.K X.mg (fun cls dd _ H => E cls dd H) m)) →
  PE X (.Call (.Name "_law_told" p) [.Lambda params body scope lpos] [] pos) (rd X.K X.mg W fun env hd => toldS T (m env hd))
/-- raise C(e) -/
def RsRule (P : Program) (w : World) (K : PySem.W.Frag) (mg : MG) (base : Heap) (C f : String) : Prop := ∀ (X : Cx) (W : WX) (e : Expr) (me : Env → Hd → R D) (p p1 pos : Pos), X.prog = P → X.w = w → X.K = K → X.mg = mg → X.base = base → X.calm = true → Takes X W → Room 2 X.A → Gl X (nm C) →
  (nm C == ("__debug__" : PySem.Str)) = false → starEach [e] X.env = (false, eval e X.env) :: starEach [] X.env → PE X e (rd X.K X.mg W me) →
  PS X (.Raise (some (.Call (.Name (nm C) p) [e] [] p1)) none pos) (rdS X.K X.mg W fun env hd => (me env hd).to env fun d hd => .exc C [(f, d)] env hd)
/-- the table at level j -/
structure Tbl (P : Program) (w : World) (K : PySem.W.Frag) (mg : MG) (base : Heap) (T : Tab) (j : Nat) : Prop where
  tf : TF K mg T
  sm : SmOk K
  free : ∀ y ∈ bNames, mg y = none
  con : ∀ x d, T.con x = some d → ∃ v u, mg (nm x) = some u ∧ RelV v u ∧ ∀ ρ H, RD K mg ρ H d v
  fn : ∀ f fd, T.fn ("", f) = some fd → ∃ a FD, mg (nm f) = some (.ref a) ∧ PySem.W.keepIn K (.ref a) = true ∧ Shapes fd FD ∧ ∀ i, i < j → FnZ P w K mg base T i fd a FD
  me : ∀ C c m, T.cl C = some c → c.own.lookup m = some .meth → ∃ a p, mg (nm C) = some (.ref a) ∧ Cls K a ∧ Meth K a (nm m) p ∧ ∀ fd, T.fn (C, m) = some fd → ∃ FD, Shapes fd FD ∧ ∀ i, i < j → FnZ P w K mg base T i fd p FD
  pr : ∀ C c m, T.cl C = some c → c.own.lookup m = some .prop → ∃ a p q, mg (nm C) = some (.ref a) ∧ Cls K a ∧ PropOf K a (nm m) p q ∧ ∀ fd, T.fn (C, m) = some fd → ∃ FD, Shapes fd FD ∧ ∀ i, i < j → FnZ P w K mg base T i fd q FD
  mak : ∀ C c, T.cl C = some c → ∃ a p, mg (nm C) = some (.ref a) ∧ Mk K a p ∧ ∀ fd, T.fn (C, "__init__") = some fd → ∃ FD, Shapes fd FD ∧ ∀ i, i < j → FnZ P w K mg base T i fd p FD
  cm : ∀ C c m, T.cl C = some c → c.own.lookup m = some .cls → ∃ a p q, mg (nm C) = some (.ref a) ∧ CmAt K a p q (nm m) ∧ ∀ fd, T.fn (C, m) = some fd → ∃ FD, Shapes fd FD ∧ ∀ i, i < j → FnZ P w K mg base T i fd q FD
  own : ∀ X : Cx, X.prog = P → X.w = w → X.K = K → X.mg = mg → X.base = base → RoomZ j X.A → X.calm = true → Own X ⟨T, callF T j⟩
  td : T.lam = true → TdRule K mg T
  rs : ∀ C x f, T.exc C = some x → x.fld = [f] → RsRule P w K mg base C f
/-- the ground -/
structure Okx (X : Cx) (W : WX) (T : Tab) (j : Nat) : Prop where
  room : RoomZ j X.A
  hc : X.calm = true
  hN : X.N.Nodup
  tk : Takes X W
  tb : Tbl X.prog X.w X.K X.mg X.base T j
section
variable {X : Cx} {W : WX} {T : Tab} {j : Nat}
theorem Okx.gr (o : Okx X W T j) : Gr X ⟨T, callF T j⟩ := ⟨o.hc, by have := o.room.un; omega, o.room.g, o.hN, o.tb.own X rfl rfl rfl rfl rfl o.room o.hc, o.tb.sm⟩
/-- a block -/
theorem Okx.blk (o : Okx X W T j) (s : Shared) (H : Hp) (scope : Scope) (C : Addr) (cl : List (Str × Addr)) (fp : List Addr) : Okx (X.blk s H scope (compEnvC scope cl C X.env) fp) WF T j :=
  ⟨o.room, o.hc, o.hN, fun u s' x => by
    obtain ⟨_, _, _, _, _, _, _, _, _, _, _, _, _, _, _, _, z⟩ := x
    exact z, o.tb⟩
theorem callF_zero {key : String × String} {xs : List D} {ks : List (String × D)} {hd : Hd} : callF T 0 key xs ks hd = .bad := rfl
theorem callZ_none {u : Value} {key : String × String} (h : j = 0 ∨ T.fn key = none) : CallZ X W u (callF T j key) := by
  intro pins s σ H ks us ws vs zs ρ hd ds es Q I r rz hz mo rd re k
  have e : callF T j key ds (ks.zip es) hd = .bad := by
    rcases h with rfl | h
    · rfl
    · cases j with
      | zero => rfl
      | succ j => rw [callF_eq, h]
  rw [e] at k
  exact k.elim
/-- a lambda's own ground -/
theorem Okx.lam (o : Okx X W T j) (rf : RoomF j X.A) (e0 : PySem.Env) (outer : List PySem.Env) (s : Shared) (H : Hp) (E : XK) (scope : Scope) (f c' : Addr) : Okx (LamX.lamCx X (X.A.deeper e0) outer s H E scope f c') (fun cls dd _ H => E cls dd H) T j :=
  ⟨⟨rf.hd, by have := rf.dp; show X.A.depth + 1 + 1 + 24 * j + 16 < _; omega, by have := rf.un; show X.A.units + 3 + 3 + 128 * j + 250 < _; omega, rf.g⟩, rfl, o.hN, takes_of rfl rfl rfl rfl, o.tb⟩
theorem callZ_of (o : Okx X W T j) {f : Addr} {key : String × String} (h : ∀ fd, T.fn key = some fd → ∃ FD, Shapes fd FD ∧ ∀ i, i < j → FnZ X.prog X.w X.K X.mg X.base T i fd f FD) : CallZ X W (.ref f) (callF T j key) := by
  cases j with
  | zero => exact callZ_none (.inl rfl)
  | succ j =>
    cases hT : T.fn key with
    | none => exact callZ_none (.inr hT)
    | some fd =>
      obtain ⟨FD, hs, hF⟩ := h fd hT
      exact fun pins s σ H ks us ws vs zs ρ hd ds es Q I r rz hz mo rd re k => run_fnZ (hF j (Nat.lt_succ_self _)) hs hT o.room.y o.tk I r rz hz mo rd re k
theorem Okx.fn (o : Okx X W T j) (f : String) (fd : Fn) (h : T.fn ("", f) = some fd) : ∃ a, X.mg (nm f) = some (.ref a) ∧ PySem.W.keepIn X.K (.ref a) = true ∧ CallZ X W (.ref a) (callF T j ("", f)) := by
  obtain ⟨a, FD, h1, h2, h3, h4⟩ := o.tb.fn f fd h
  exact ⟨a, h1, h2, callZ_of o fun fd' e => by
    rw [h] at e
    cases e
    exact ⟨FD, h3, h4⟩⟩
theorem Okx.me (o : Okx X W T j) : MeOk X W ⟨T, callF T j⟩ := ⟨fun C c m hc hm => by
  obtain ⟨a, p, h1, h2, h3, h4⟩ := o.tb.me C c m hc hm
  exact ⟨a, p, h1, h2, h3, callZ_of o h4⟩⟩
theorem Okx.at_ (o : Okx X W T j) : AtOk X ⟨T, callF T j⟩ := ⟨fun C c m hc hm => by
  obtain ⟨a, p, q, h1, h2, h3, h4⟩ := o.tb.pr C c m hc hm
  refine ⟨a, p, q, h1, h2, h3, ?_⟩
  cases j with
  | zero => exact fun pins s σ H us vs ρ hd ds Q I r mo rd k => k.elim
  | succ j =>
    cases hT : T.fn (C, m) with
    | none =>
      intro pins s σ H us vs ρ hd ds Q I r mo rd k
      have k : OkR (callF T (j + 1) (C, m) ds [] hd) (Fin X.K X.mg ρ H Q) := k
      rw [callF_eq, hT] at k
      exact k.elim
    | some fd =>
      obtain ⟨FD, hs, hF⟩ := h4 fd hT
      exact callA_of (hF j (Nat.lt_succ_self _)) hs hT o.room.in1 rfl⟩
theorem Okx.new (o : Okx X W T j) (C : String) (c : Cl) (h : T.cl C = some c) : ∃ a, X.mg (nm C) = some (.ref a) ∧ PySem.W.keepIn X.K (.ref a) = true ∧ CallZ X W (.ref a) (newS ⟨T, callF T j⟩ C) := by
  obtain ⟨a, p, h1, h2, h3⟩ := o.tb.mak C c h
  refine ⟨a, h1, h2.kp, ?_⟩
  intro pins s σ H ks us ws vs zs ρ hd ds es Q I r rz hz mo rd re k
  cases j with
  | zero => exact k.elim
  | succ j =>
    cases hT : T.fn (C, "__init__") with
    | none =>
      unfold newS at k
      dsimp only at k
      rw [callF_eq, hT] at k
      exact k.elim
    | some fd =>
      obtain ⟨FD, hs, hF⟩ := h3 fd hT
      exact run_newZ h2 h1 (hF j (Nat.lt_succ_self _)) hs hT o.room o.tk I r rz hz mo rd re k
/-- the code of a def of the table -/
theorem codeZ_fn {fd : Fn} {f : Addr} {FD : FuncData} {key : String × String} (F : FnZ X.prog X.w X.K X.mg X.base T j fd f FD) (hs : Shapes fd FD) (hT : T.fn key = some fd) (hr : RoomY (j + 1) X.A) (tk : Takes X W) : CodeZ X W f (callF T (j + 1) key) :=
  fun pins s σ H ks us ws vs zs ρ hd ds es Q I r rz hz mo rd re k => by
  have told : KtE X.K X.mg (WE W σ) ρ H (callF T (j + 1) key ds (ks.zip es) hd) Q := by
    unfold KtE
    cases e : callF T (j + 1) key ds (ks.zip es) hd <;> (rw [e] at k; exact k)
  refine codeAny_mono (code_fnZ (pins := pins) (σ := σ) F hs hT hr I.env0 r rz hz mo rd re told) fun r s' hq => ?_
  match r, hq with
  | .error e, hq => exact passAt tk σ pins H s e s' I hq
  | .ok (.ret u), hq => exact I.after hq
  | .ok .next, hq => exact hq.elim
  | .ok .brk, hq => exact hq.elim
  | .ok .cont, hq => exact hq.elim
theorem codeZ_none {f : Addr} {key : String × String} (h : j = 0 ∨ T.fn key = none) : CodeZ X W f (callF T j key) := by
  intro pins s σ H ks us ws vs zs ρ hd ds es Q I r rz hz mo rd re k
  have e : callF T j key ds (ks.zip es) hd = .bad := by
    rcases h with rfl | h
    · rfl
    · cases j with
      | zero => rfl
      | succ j => rw [callF_eq, h]
  rw [e] at k
  exact k.elim
theorem Okx.cm (o : Okx X W T j) (C : String) (c : Cl) (m : String) (hc : T.cl C = some c) (hm : c.own.lookup m = some .cls) : ∃ a p q, X.mg (nm C) = some (.ref a) ∧ CmAt X.K a p q (nm m) ∧ CodeZ X W q (callF T j (C, m)) := by
  obtain ⟨a, p, q, h1, h2, h3⟩ := o.tb.cm C c m hc hm
  refine ⟨a, p, q, h1, h2, ?_⟩
  cases j with
  | zero => exact codeZ_none (.inl rfl)
  | succ j =>
    cases hT : T.fn (C, m) with
    | none => exact codeZ_none (.inr hT)
    | some fd =>
      obtain ⟨FD, hs, hF⟩ := h3 fd hT
      exact codeZ_fn (hF j (Nat.lt_succ_self _)) hs hT o.room.y o.tk
theorem Okx.newAt (o : Okx X W T j) : NewAt X W ⟨T, callF T j⟩ := ⟨fun C c hc => o.new C c hc⟩
end
end Z
/-! Z20: an expression of the text and its small tree: the check. -/
namespace Z
open PySem L2 PySem.Spec PyProof.Rows

/-- a scope, the names by their places, those that may be stored through a cell -/
structure Sc where
  sc : Scope
  N : List Str
  fn : Str → Bool
  lm : Bool
/-- a def: where it stands, its small tree, its rows -/
structure Df where
  key : String × String
  kd : Kind
  fd : Fn
  name : Str
  qual : Str
  params : Arguments
  body : List Stmt
  scope : Scope
  lm : Bool := false
def Df.sc (d : Df) : Sc := ⟨d.scope, d.fd.slots.map nm, fun _ => true, d.lm⟩
def visB (sc : Scope) (x : Str) : Bool := match sc.names.lookup x with
  | some .local => true
  | some .cell => true
  | some .free => true
  | _ => false
def glB (sc : Scope) (x : Str) : Bool := decide (sc.names.lookup x = some .globalImplicit)
def nmB (x : Str) : Bool := !(x == ("__debug__" : Str)) && !(x == ("__classdict__" : Str))
def stB (S : Sc) (i : Nat) (x : Str) : Bool := decide (S.N[i]? = some x) && (decide (S.sc.names.lookup x = some .local) || (decide (S.sc.names.lookup x = some .cell) && S.fn x))
def conB : D → Const → Bool
  | .non, .none => true
  | .bl b, .bool c => b == c
  | .int i, .int j => decide (i = j)
  | .str z, .str y => decide (tx z = y)
  | _, _ => false
def nsB : List Expr → Bool
  | [] => true
  | .Starred .. :: _ => false
  | _ :: r => nsB r
def boW (op : BoolOp) (l : List Expr) (p : Pos) : Expr := match l with
  | [y] => y
  | l => .BoolOp op l p
/-- what stands ahead of an attribute: no call without arguments of a name -/
def abB : Expr → Bool
  | .Call (.Name _ _) [] [] _ => false
  | _ => true
def isLC : Expr → Bool
  | .ListComp .. => true
  | .SetComp .. => true
  | .DictComp .. => true
  | _ => false
def notSl : Expr → Bool
  | .Slice .. => false
  | _ => true
def notBo : Expr → Bool
  | .BoolOp .. => false
  | _ => true
def notSet : Expr → Bool
  | .Set .. => false
  | _ => true
def kwB : List String → List Keyword → Bool
  | [], [] => true
  | k :: ks, ⟨some n, v, _⟩ :: kws => decide (nm k = n) && (nsB [v] && kwB ks kws)
  | _, _ => false
def kwE (kws : List Keyword) : List Expr := kws.map (·.value)
def subSc (S : Sc) (scope : Scope) : Sc := ⟨relS scope S.sc, S.N, fun x => scope.names.lookup x == some .cell, false⟩
/-- a lambda's own -/
def lamSc (S : Sc) (scope : Scope) : Sc := ⟨scope, S.N, fun _ => false, false⟩
def tgB (S : Sc) : Tg → Expr → Bool
  | .name i, .Name x _ => stB S i x
  | .names is, .Tuple es _ _ => nmsB S is es
  | .star [i] j, .Tuple [.Name x _, .Starred (.Name y _) _] _ _ => stB S i x && stB S j y
  | _, _ => false
where
  nmsB (S : Sc) : List Nat → List Expr → Bool
    | [], [] => true
    | i :: is, .Name x _ :: es => stB S i x && nmsB S is es
    | _, _ => false
def tgI : Tg → List Nat
  | .name i => [i]
  | .names is => is
  | .star is j => j :: is
def isPlain : IK → Bool
  | .plain => true
  | _ => false
def isNop : E → Bool
  | .nop => true
  | _ => false
def isNil : Es → Bool
  | .nil => true
  | _ => false
def ownP (S : Sc) (own : List Nat) : List (Str × Nat) := own.map fun j => ((S.N[j]?).getD Str.empty, j)
/-- a classmethod of a class of the table -/
def ownC (T : Tab) (C f : String) : Bool := match T.cl C with
  | some c => decide (c.own.lookup f = some .cls)
  | none => false
mutual
def mE (T : Tab) : E → Sc → Expr → Bool
  | .var i, S, w => (match w with
    | .Name x _ => decide (S.N[i]? = some x) && (visB S.sc x && nmB x)
    | _ => false)
  | .con d, _, w => (match w with
    | .Constant c _ _ => conB d c
    | _ => false)
  | .glo x, S, w => (match w with
    | .Name y _ => decide (nm x = y) && (glB S.sc y && nmB y)
    | _ => false)
  | .bin _ op a b, S, w => (match w with
    | .BinOp x op' y _ => decide (op = op') && (binOk op && (mE T a S x && mE T b S y))
    | _ => false)
  | .neg a, S, w => (match w with
    | .UnaryOp .USub x _ => mE T a S x
    | _ => false)
  | .not a, S, w => (match w with
    | .UnaryOp .Not x _ => mE T a S x
    | _ => false)
  | .and a b, S, w => (match w with
    | .BoolOp .And (x :: y :: r) p => mE T a S x && mE T b S (boW .And (y :: r) p)
    | _ => false)
  | .or a b, S, w => (match w with
    | .BoolOp .Or (x :: y :: r) p => mE T a S x && mE T b S (boW .Or (y :: r) p)
    | _ => false)
  | .ite c a b, S, w => (match w with
    | .IfExp x y z _ => mE T c S x && (mE T a S y && mE T b S z)
    | _ => false)
  | .cmp op a b, S, w => (match w with
    | .Compare x [op'] [y] _ => decide (op = op') && (!behindInMarks op y && (mE T a S x && mE T b S y))
    | _ => false)
  | .cmp2 o1 o2 a b c, S, w => (match w with
    | .Compare x [p1, p2] [y, z] _ => decide (o1 = p1) && (decide (o2 = p2) && (!lastMarks [o1, o2] [y, z] && (mE T a S x && (mE T b S y && mE T c S z))))
    | _ => false)
  | .bi _ f es, S, w => (match w with
    | .Call (.Name y _) (e :: r) [] _ => decide (biName f = y) && (glB S.sc y && (nsB (e :: r) && mEs T es S (e :: r)))
    | _ => false)
  | .isi a own c, S, w => (match w with
    | .Call (.Name y _) [x, .Name z _] [] _ => decide (("isinstance" : Str) = y) && (glB S.sc y && (nsB [x] && (glB S.sc z && (decide (nm c = z) && ((if own then (T.cl c).isSome else decide (c ∈ isNames)) && (nmB z && mE T a S x))))))
    | _ => false)
  | .mt _ f o es, S, w => (match w with
    | .Call (.Attribute x m apos) (e :: r) [] cpos => mtFine f && (decide (mtName f = m) && (abB x && (nsB (e :: r) && (decide ((e :: r).length < 30) && ((apos.endLine == cpos.line) && (mE T o S x && mEs T es S (e :: r)))))))
    | _ => false)
  | .fn f es ks kes, S, w => (match w with
    | .Call (.Name y _) args kws _ => decide (nm f = y) && (glB S.sc y && (nmB y && ((T.fn ("", f)).isSome && (nsB args && (kwB ks kws && (mEs T es S args && mEs T kes S (kwE kws)))))))
    | _ => false)
  | .new C es ks kes, S, w => (match w with
    | .Call (.Name y _) args kws _ => decide (nm C = y) && (glB S.sc y && (nmB y && ((T.cl C).isSome && (nsB args && (kwB ks kws && (mEs T es S args && mEs T kes S (kwE kws)))))))
    | _ => false)
  | .me f o es ks kes, S, w => (match w with
    | .Call (.Attribute x m apos) args kws cpos => decide (nm f = m) && (abB x && (nsB args && (kwB ks kws && (decide (args.length + kws.length < 28) && ((apos.endLine == cpos.line) && (mE T o S x && (mEs T es S args && mEs T kes S (kwE kws))))))))
    | _ => false)
  | .att o f, S, w => (match w with
    | .Attribute x m _ => decide (nm f = m) && (abB x && mE T o S x)
    | _ => false)
  | .ix a b, S, w => (match w with
    | .Subscript x y _ => notSl y && (mE T a S x && mE T b S y)
    | _ => false)
  | .sl _ a lo hi, S, w => (match w with
    | .Subscript x (.Slice l h none _) _ => mE T a S x && ((match l with | none => isNop lo | some l => mE T lo S l) && (match h with | none => isNop hi | some h => mE T hi S h))
    | _ => false)
  | .nop, _, _ => false
  | .tup es, S, w => (match w with
    | .Tuple xs _ _ => mEs T es S xs
    | _ => false)
  | .lst _ es, S, w => (match w with
    | .List xs _ => mEs T es S xs
    | _ => false)
  | .star _, _, _ => false
  | .dic ks es, _, w => (match ks, es, w with
    | .nil, .nil, .Dict [] [] _ => true
    | .cons (.con (.str k)) .nil, .cons (.con (.str x)) .nil, .Dict [some (.Constant c1 _ _)] [.Constant c2 _ _] _ => conB (.str k) c1 && conB (.str x) c2
    | _, _, _ => false)
  | .lc _ elt own tg k its ifs, S, w => (match w with
    | .ListComp x [⟨t, i, fs, 0⟩] scope _ => blkC S.N S.sc scope (ownP S own) && (tgB (subSc S scope) tg t && ((tgI tg).all (fun j => own.contains j) && (notSet i && (decide (fs.length ≤ 1) &&
      ((match k with
        | .plain => mEs T its S [i] && nsB [i]
        | .range => (match i with
          | .Call (.Name y _) args [] _ => decide (("range" : Str) = y) && (glB S.sc y && (nsB args && ((args.length == 1 || args.length == 2) && mEs T its S args)))
          | _ => false)
        | .enum => (match i with
          | .Call (.Name y _) args [] _ => decide (("enumerate" : Str) = y) && (glB S.sc y && (nsB args && ((args.length == 1) && ((match t with | .Tuple .. => true | _ => false) && mEs T its S args))))
          | _ => false)
        | .zip => false) && (nsB fs && (mEs T ifs (subSc S scope) fs && mE T elt (subSc S scope) x)))))))
    | _ => false)
  | .dc kx vx own tg k its ifs, S, w => (match w with
    | .DictComp x y [⟨t, i, fs, 0⟩] scope _ => blkC S.N S.sc scope (ownP S own) && (tgB (subSc S scope) tg t && ((tgI tg).all (fun j => own.contains j) && (notSet i && (decide (fs.length ≤ 1) &&
      ((match k with
        | .plain => mEs T its S [i] && nsB [i]
        | .range => (match i with
          | .Call (.Name y _) args [] _ => decide (("range" : Str) = y) && (glB S.sc y && (nsB args && ((args.length == 1 || args.length == 2) && mEs T its S args)))
          | _ => false)
        | .enum => (match i with
          | .Call (.Name y _) args [] _ => decide (("enumerate" : Str) = y) && (glB S.sc y && (nsB args && ((args.length == 1) && ((match t with | .Tuple .. => true | _ => false) && mEs T its S args))))
          | _ => false)
        | .zip => false) && (nsB fs && (mEs T ifs (subSc S scope) fs && (mE T kx (subSc S scope) x && mE T vx (subSc S scope) y))))))))
    | _ => false)
  | .fs es, S, w => (match w with
    | .JoinedStr (x :: y :: r) _ => mEs T es S (x :: y :: r) && nsB (x :: y :: r)
    | _ => false)
  | .fmt a, S, w => (match w with
    | .FormattedValue x (-1) none _ => mE T a S x
    | _ => false)
  | .cm C f es ks kes, S, w => (match w with
    | .Call (.Attribute (.Name y p) m apos) args kws cpos => decide (nm f = m) && (decide (nm C = y) && (glB S.sc y && (nmB y && (ownC T C f && (nsB args && (kwB ks kws && (decide (args.length + kws.length < 28) && ((apos.endLine == cpos.line) && (mEs T es S args && mEs T kes S (kwE kws))))))))))
    | _ => false)
  | .newv i es ks kes, S, w => (match w with
    | .Call (.Name y _) args kws _ => decide (S.N[i]? = some y) && (visB S.sc y && (nmB y && (nsB args && (kwB ks kws && (mEs T es S args && mEs T kes S (kwE kws))))))
    | _ => false)
  | .told e, S, w => (match w with
    | .Call (.Name y _) [.Lambda params body scope _] [] _ => decide (("_law_told" : Str) = y) && (glB S.sc y && (S.lm && (T.lam && (noPar params && (LamX.lamSB S.sc scope && mE T e (lamSc S scope) body)))))
    | _ => false)
termination_by structural e => e
def mEs (T : Tab) : Es → Sc → List Expr → Bool
  | .nil, _, xs => (match xs with
    | [] => true
    | _ => false)
  | .cons e es, S, xs => (match xs with
    | [] => false
    | x :: xs => (match x with
      | .Starred y _ => (match e with
        | .star e => mE T e S y
        | _ => false)
      | x => mE T e S x) && mEs T es S xs)
termination_by structural e => e
end
end Z
/-! Z21: an expression that passes the check does what its small tree does. -/
namespace Z
open PySem L2 PySem.Spec PyProof.Rows

structure Fit (X : Cx) (S : Sc) (j : Nat) : Prop where
  sc : X.env.scope = S.sc
  N : X.N = S.N
  fn : ∀ x, X.fn x = S.fn x
  lm : S.lm = true → LamOk X ∧ RoomF j X.A
/-- an expression and its small tree -/
structure Snd (X : Cx) (W : WX) (g : G) (e : E) (x : Expr) : Prop where
  pe : PE X x (rd X.K X.mg W (evE g e))
  pt : PT X x (rdT X.K X.mg W fun env hd => truthR (evE g e env hd))
  pw : ∀ op l p, x = .BoolOp op l p → PW X x (rdT X.K X.mg W fun env hd => truthR (evE g e env hd))
inductive Sns (X : Cx) (W : WX) (g : G) : Es → List Expr → Prop where
  | nil : Sns X W g .nil []
  | cons {e : E} {x : Expr} {es : Es} {xs : List Expr} : (∀ y, e ≠ .star y) → (∀ y p, x ≠ .Starred y p) → Snd X W g e x → Sns X W g es xs → Sns X W g (.cons e es) (x :: xs)
  | star {e : E} {x : Expr} {p : Pos} {es : Es} {xs : List Expr} : Snd X W g e x → Sns X W g es xs → Sns X W g (.cons (.star e) es) (.Starred x p :: xs)
section
variable {X : Cx} {W : WX} {S : Sc} {g : G} {T : Tab} {j : Nat}
theorem and_t {a b : Bool} (h : (a && b) = true) : a = true ∧ b = true := by simpa using h
theorem dec_t {p : Prop} {d : Decidable p} (h : @decide p d = true) : p := of_decide_eq_true h

/-! ### the checks' meaning -/
theorem ns_cons {e : Expr} {es : List Expr} {env : PySem.Env} (h : ∀ y p, e ≠ .Starred y p) : starEach (e :: es) env = (false, eval e env) :: starEach es env := by
  cases e <;> first
    | exact absurd rfl (h _ _)
    | rfl
    | simp [starEach]
theorem ns_head {e : Expr} {es : List Expr} (h : nsB (e :: es) = true) : (∀ y p, e ≠ .Starred y p) ∧ nsB es = true := by
  cases e <;> first
    | (simp [nsB] at h; done)
    | exact ⟨fun y p z => (by cases z), by simpa [nsB] using h⟩
theorem ns_any {env : PySem.Env} {pos : Pos} : ∀ {es : List Expr}, nsB es = true → (backTo pos (starEach es env)).any (·.1) = false
  | [], _ => by simp [starEach, backTo]
  | e :: es, h => by
    obtain ⟨h1, h2⟩ := ns_head h
    have ih := ns_any (env := env) (pos := pos) h2
    rw [ns_cons h1]
    simp only [backTo, List.map_cons, List.any_cons] at ih ⊢
    simpa using ih
theorem ns_all {env : PySem.Env} {pos : Pos} {es : List Expr} (h : nsB es = true) : (backTo pos (starEach es env)).all (fun x => !x.1) = true := by
  have e := ns_any (env := env) (pos := pos) h
  rw [List.all_eq_true]
  intro x hx
  rw [List.any_eq_false] at e
  simpa using e x hx
theorem ns_ok {env : PySem.Env} {es : List Expr} (h : nsB es = true) : NoStar env es := by
  cases es with
  | nil => trivial
  | cons e es => exact ⟨ns_cons (ns_head h).1, fun pos => ns_any (ns_head h).2⟩
theorem ns_len {env : PySem.Env} : ∀ {es : List Expr}, (starEach es env).length = es.length
  | [] => by simp [starEach]
  | e :: es => by
    have ih := ns_len (env := env) (es := es)
    cases e <;> simp [starEach, ih]
theorem kw_ok {env : PySem.Env} : ∀ {ks : List String} {kws : List Keyword}, kwB ks kws = true → KwOk env kws ks ∧ nsB (kwE kws) = true
  | [], [], _ => ⟨kw_nil, rfl⟩
  | [], _ :: _, h => by simp [kwB] at h
  | _ :: _, [], h => by simp [kwB] at h
  | k :: ks, ⟨none, v, p⟩ :: kws, h => by simp [kwB] at h
  | k :: ks, ⟨some n, v, p⟩ :: kws, h => by
    unfold kwB at h
    obtain ⟨h1, h2⟩ := and_t h
    obtain ⟨h2, h3⟩ := and_t h2
    obtain ⟨i1, i2⟩ := kw_ok (env := env) h3
    have h1 := dec_t h1
    subst h1
    refine ⟨kw_cons i1, ?_⟩
    have hv := (ns_head h2).1
    show nsB (v :: kwE kws) = true
    cases v <;> first
      | exact absurd rfl (hv _ _)
      | exact i2
theorem vis_ok {sc : Scope} {x : Str} (h : visB sc x = true) : Vis sc x := by
  unfold visB at h
  unfold Vis
  split at h <;> first
    | (rename_i e; exact .inl e)
    | (rename_i e; exact .inr (.inl e))
    | (rename_i e; exact .inr (.inr e))
    | cases h
theorem gl_ok (f : Fit X S j) {x : Str} (h : glB S.sc x = true) : Gl X x := by
  have h := dec_t h
  rw [← f.sc] at h
  exact h
theorem nm_ok {x : Str} (h : nmB x = true) : (x == ("__debug__" : Str)) = false ∧ (x == ("__classdict__" : Str)) = false := by
  obtain ⟨a, b⟩ := and_t h
  exact ⟨by simpa using a, by simpa using b⟩
theorem st_ok (f : Fit X S j) {i : Nat} {x : Str} (h : stB S i x = true) : NmOk X i x := by
  obtain ⟨a, b⟩ := and_t h
  have a := dec_t a
  rw [← f.N] at a
  rw [← f.sc] at b
  rcases Bool.or_eq_true _ _ |>.mp b with b | b
  · have b := dec_t b
    exact ⟨a, .inl b, .inr b⟩
  · obtain ⟨b, c⟩ := and_t b
    have b := dec_t b
    exact ⟨a, .inr b, .inl (by rw [f.fn]; exact c)⟩
theorem nms_ok (f : Fit X S j) : ∀ {is : List Nat} {es : List Expr}, tgB.nmsB S is es = true → NmsOk X is es
  | [], [], _ => .nil
  | [], _ :: _, h => by simp [tgB.nmsB] at h
  | _ :: _, [], h => by simp [tgB.nmsB] at h
  | i :: is, e :: es, h => by
    cases e <;> first
      | (simp [tgB.nmsB] at h; done)
      | (unfold tgB.nmsB at h
         obtain ⟨h1, h2⟩ := and_t h
         exact .cons (st_ok f h1) (nms_ok f h2))
theorem tg_ok {own : List Nat} (f : Fit X S j) (hN : X.N.Nodup) (hc : X.calm = true) {t : Tg} {x : Expr} (h : tgB S t x = true) (ho : ∀ i ∈ tgI t, i ∈ own) : PG X x (rdG X.K X.mg own (storeS t)) := by
  unfold tgB at h
  split at h
  · exact pg_nameZ hN (st_ok f h) (ho _ (List.mem_singleton.mpr rfl))
  · exact pg_namesZ hc hN (nms_ok f h) ho
  · obtain ⟨h1, h2⟩ := and_t h
    exact pg_starZ hc hN (st_ok f h1) (st_ok f h2) (ho _ (by simp [tgI])) (ho _ (by simp [tgI]))
  · cases h
theorem sub_ok (f : Fit X S j) (s : Shared) (H : Hp) (scope : Scope) (C : Addr) (cl : List (Str × Addr)) (fp : List Addr) : Fit (X.blk s H scope (compEnvC scope cl C X.env) fp) (subSc S scope) j :=
  ⟨by show relS scope X.env.scope = relS scope S.sc; rw [f.sc], f.N, fun x => rfl, fun z => by cases z⟩
theorem ab_ok {o : Expr} {m : Str} (h : abB o = true) : attributeBase o m X.env (eval o X.env) = eval o X.env := by
  unfold attributeBase
  split
  · simp [abB] at h
  · rfl

/-! ### readings -/
theorem rdT_congr {m m' : Env → Hd → R Bool} (h : ∀ env hd, m env hd = m' env hd) : rdT X.K X.mg W m = rdT X.K X.mg W m' := by
  rw [show m = m' from funext fun env => funext fun hd => h env hd]
theorem rd_congr {m m' : Env → Hd → R D} (h : ∀ env hd, m env hd = m' env hd) : rd X.K X.mg W m = rd X.K X.mg W m' := by
  rw [show m = m' from funext fun env => funext fun hd => h env hd]
theorem bindR_assoc {α β γ : Type} (m : R α) (f : α → Hd → R β) (k : β → Hd → R γ) : (m.bind f).bind k = m.bind fun a h => (f a h).bind k := by
  cases m <;> rfl
theorem tr_not (m : R D) : truthR ((truthR m).bind fun b hd => .ok (.bl (!b)) hd) = (truthR m).bind fun b hd => .ok (!b) hd := by
  cases truthR m <;> rfl
theorem of_ok {α : Type} (o : Option α) (hd : Hd) : (∃ a, o = some a ∧ R.of o hd = .ok a hd) ∨ (o = none ∧ R.of o hd = .bad) := by
  cases o with
  | none => exact .inr ⟨rfl, rfl⟩
  | some a => exact .inl ⟨a, rfl, rfl⟩
theorem tr_and (ma : R D) (mb : Hd → R D) : truthR (ma.bind fun x hd => (R.of (truth hd x) hd).bind fun c hd => if c then mb hd else .ok x hd) = (truthR ma).bind fun k hd => if k then truthR (mb hd) else .ok false hd := by
  cases ma with
  | ok x hd =>
    show truthR ((R.of (truth hd x) hd).bind fun c hd => if c then mb hd else .ok x hd) = (R.of (truth hd x) hd).bind fun k hd => if k then truthR (mb hd) else .ok false hd
    cases e : truth hd x with
    | none => rfl
    | some c =>
      cases c with
      | true => rfl
      | false =>
        show R.of (truth hd x) hd = .ok false hd
        rw [e]
        rfl
  | exc C fs h => rfl
  | bad => rfl
theorem tr_or (ma : R D) (mb : Hd → R D) : truthR (ma.bind fun x hd => (R.of (truth hd x) hd).bind fun c hd => if c then .ok x hd else mb hd) = (truthR ma).bind fun k hd => if k then .ok true hd else truthR (mb hd) := by
  cases ma with
  | ok x hd =>
    show truthR ((R.of (truth hd x) hd).bind fun c hd => if c then .ok x hd else mb hd) = (R.of (truth hd x) hd).bind fun k hd => if k then .ok true hd else truthR (mb hd)
    cases e : truth hd x with
    | none => rfl
    | some c =>
      cases c with
      | false => rfl
      | true =>
        show R.of (truth hd x) hd = .ok true hd
        rw [e]
        rfl
  | exc C fs h => rfl
  | bad => rfl
theorem tr_ite (mc : R Bool) (ma mb : Hd → R D) : truthR (mc.bind fun k hd => if k then ma hd else mb hd) = mc.bind fun k hd => if k then truthR (ma hd) else truthR (mb hd) := by
  cases mc with
  | ok k hd => cases k <;> rfl
  | exc C fs h => rfl
  | bad => rfl
theorem snd_val {e : E} {x : Expr} (h : PE X x (rd X.K X.mg W (evE g e))) (he : ∀ whole, isTrue x X.env whole = (do let v ← whole; standAt x.pos; holding [v] (truthy v))) (nb : ∀ op l p, x ≠ .BoolOp op l p) : Snd X W g e x :=
  ⟨h, pt_valZ h he, fun op l p z => absurd z (nb op l p)⟩
theorem bo_pe {op : BoolOp} {b : E} {y : Expr} {r : List Expr} {p : Pos} (s : Snd X W g b (boW op (y :: r) p)) : PE X (.BoolOp op (y :: r) p) (rd X.K X.mg W (evE g b)) ∧ PW X (.BoolOp op (y :: r) p) (rdT X.K X.mg W fun env hd => truthR (evE g b env hd)) := by
  cases r with
  | nil => exact ⟨pe_one s.pe, pw_oneZ s.pt⟩
  | cons z r => exact ⟨s.pe, s.pw _ _ _ rfl⟩
theorem evEs_cons {e : E} {es : Es} {env : Env} {hd : Hd} (h : ∀ y, e ≠ .star y) : evEs g (.cons e es) env hd = (evE g e env hd).bind fun x hd => (evEs g es env hd).bind fun xs hd => .ok (x :: xs) hd := by
  cases e <;> first
    | exact absurd rfl (h _)
    | rfl
theorem sns_pa {es : Es} {xs : List Expr} (h : Sns X W g es xs) : PA X xs (rdA X.K X.mg W (evEs g es)) := by
  induction h with
  | nil => exact pa_nilZ
  | cons h1 h2 h3 _ ih =>
    have q := pa_consZ h3.pe ih (ns_cons h2)
    rw [show evEs g (.cons _ _) = _ from funext fun env => funext fun hd => evEs_cons h1]
    exact q
  | star h3 _ ih => exact pa_starZ h3.pe ih rfl
theorem sns_pk : ∀ {kws : List Keyword} {es : Es}, nsB (kwE kws) = true → Sns X W g es (kwE kws) → PK X kws (rdA X.K X.mg W (evEs g es))
  | [], _, _, h => by
    cases h
    exact pk_nilZ
  | ⟨n, v, p⟩ :: kws, es, hn, h => by
    have hn : nsB (v :: kwE kws) = true := hn
    have h : Sns X W g es (v :: kwE kws) := h
    obtain ⟨h1, h2⟩ := ns_head hn
    generalize hv : v :: kwE kws = l at h
    cases h with
    | nil => cases hv
    | cons a b c d =>
      cases hv
      rw [show evEs g (.cons _ _) = _ from funext fun env => funext fun hd => evEs_cons a]
      exact pk_consZ c.pe (sns_pk h2 d)
    | star c d =>
      cases hv
      exact absurd rfl (h1 _ _)
noncomputable def msOf (g : G) : Es → List (Env → Hd → R D)
  | .nil => []
  | .cons e es => evE g e :: msOf g es
theorem evF_join : ∀ (es : Es) (acc : List Nat) (env : Env) (hd : Hd), evF g es acc env hd = joinZ (msOf g es) acc env hd
  | .nil, acc, env, hd => rfl
  | .cons e es, acc, env, hd => by
    show (evE g e env hd).bind _ = (evE g e env hd).bind _
    congr 1
    funext x h
    cases x <;> first
      | rfl
      | (dsimp only
         split
         · exact evF_join es _ env h
         · rfl)
theorem sns_pj : ∀ {es : Es} {xs : List Expr}, nsB xs = true → Sns X W g es xs → PJ X xs ((msOf g es).map (rd X.K X.mg W))
  | _, _, _, .nil => .nil
  | _, _, hn, .cons a b c d => .cons c.pe (sns_pj (ns_head hn).2 d)
  | _, _, hn, .star c d => absurd rfl ((ns_head hn).1 _ _)

theorem con_ok {d : D} {c : Const} {k : Nat} {p : Pos} (h : conB d c = true) : PE X (.Constant c k p) (rd X.K X.mg W (evE g (.con d))) := by
  unfold conB at h
  split at h
  · exact pe_non.imp fun σ H Q ⟨ρ, env, hd, re, mo, q⟩ => q ρ H .refl mo _ .non
  · have h := beq_iff_eq.mp h
    subst h
    exact pe_bl.imp fun σ H Q ⟨ρ, env, hd, re, mo, q⟩ => q ρ H .refl mo _ (.bl _)
  · have h := dec_t h
    subst h
    exact pe_int.imp fun σ H Q ⟨ρ, env, hd, re, mo, q⟩ => q ρ H .refl mo _ (.int _)
  · have h := dec_t h
    subst h
    exact pe_str.imp fun σ H Q ⟨ρ, env, hd, re, mo, q⟩ => q ρ H .refl mo _ (.str _)
  · cases h
theorem var_ok {i : Nat} {x : Str} {p : Pos} (f : Fit X S j) (h1 : S.N[i]? = some x) (h2 : visB S.sc x = true) (h3 : nmB x = true) : PE X (.Name x p) (rd X.K X.mg W (evE g (.var i))) := by
  obtain ⟨d1, d2⟩ := nm_ok h3
  rw [← f.N] at h1
  rw [← f.sc] at h2
  refine (pe_var h1 (vis_ok h2) d1 d2).imp fun σ H Q ⟨ρ, env, hd, re, mo, q⟩ => ?_
  have q : Kt X.K X.mg W σ ρ H (match env[i]? with
    | some (some v) => .ok v hd
    | _ => .bad) (fun d h ρ' H' => ∀ v, RD X.K X.mg ρ' H' d v → Q v H') := q
  split at q
  · rename_i v e
    obtain ⟨u, e1, e2⟩ := re.at_ i v e
    exact ⟨u, e1, q ρ H .refl mo _ e2⟩
  · exact q.elim
theorem glo_ok {x : String} {y : Str} {p : Pos} (o : Okx X W T j) (hx : nm x = y) (h1 : Gl X y) (h2 : nmB y = true) : PE X (.Name y p) (rd X.K X.mg W (evE ⟨T, callF T j⟩ (.glo x))) := by
  subst hx
  obtain ⟨d1, d2⟩ := nm_ok h2
  cases hc : T.con x with
  | some d =>
    obtain ⟨v, u, e1, e2, e3⟩ := o.tb.con x d hc
    refine (pe_glob h1 e1 e2 d1).imp fun σ H Q ⟨ρ, env, hd, re, mo, q⟩ => ?_
    have q : Kt X.K X.mg W σ ρ H (match T.con x with
      | some d => .ok d hd
      | none => match T.cl x with
        | some _ => .ok (.glo x) hd
        | none => .bad) (fun d h ρ' H' => ∀ v, RD X.K X.mg ρ' H' d v → Q v H') := q
    rw [hc] at q
    exact q ρ H .refl mo _ (e3 ρ H)
  | none =>
    cases hl : T.cl x with
    | some c =>
      obtain ⟨a, F⟩ := o.tb.tf.cl x c hl
      refine (pe_glob (v := .ref a) h1 F.mg_ rfl d1).imp fun σ H Q ⟨ρ, env, hd, re, mo, q⟩ => ?_
      have q : Kt X.K X.mg W σ ρ H (match T.con x with
        | some d => .ok d hd
        | none => match T.cl x with
          | some _ => .ok (.glo x) hd
          | none => .bad) (fun d h ρ' H' => ∀ v, RD X.K X.mg ρ' H' d v → Q v H') := q
      rw [hc, hl] at q
      exact q ρ H .refl mo _ (.glo F.mg_)
    | none =>
      refine ⟨fun pins s σ H Q I ⟨ρ, env, hd, re, mo, q⟩ => ?_⟩
      have q : Kt X.K X.mg W σ ρ H (match T.con x with
        | some d => .ok d hd
        | none => match T.cl x with
          | some _ => .ok (.glo x) hd
          | none => .bad) (fun d h ρ' H' => ∀ v, RD X.K X.mg ρ' H' d v → Q v H') := q
      rw [hc, hl] at q
      exact q.elim
theorem dic_ok {p : Pos} : PE X (.Dict [] [] p) (rd X.K X.mg W (evE g (.dic .nil .nil))) :=
  pe_dnewK.imp fun σ H Q ⟨ρ, env, hd, re, mo, q⟩ p hp => q ρ _ (Ext.new hp (mo.notin hp)) (mo.new hp) _ (.dic (mo.notin hp) upd_same .nil)
theorem conB_str {k : List Nat} {c : Const} (h : conB (.str k) c = true) : c = .str (tx k) := by
  cases c with
  | str y => exact congrArg _ (dec_t h).symm
  | _ => cases h
theorem dic1_ok {k x : List Nat} {c1 c2 : Const} {i1 i2 : Nat} {p1 p2 p : Pos} (h1 : conB (.str k) c1 = true) (h2 : conB (.str x) c2 = true) :
    PE X (.Dict [some (.Constant c1 i1 p1)] [.Constant c2 i2 p2] p) (rd X.K X.mg W (evE g (.dic (.cons (.con (.str k)) .nil) (.cons (.con (.str x)) .nil)))) := by
  obtain rfl := conB_str h1
  obtain rfl := conB_str h2
  refine (pe_disp (pps_cons pe_str pe_str pps_nil) rfl rfl (by simp) (show 1 ≤ 15 by decide)).imp fun σ H Q ⟨ρ, env, hd, re, mo, q⟩ p hp => ?_
  refine ⟨upd_same, [(.inr (tx k), .str (tx x))], rfl, show 1 ≤ 15 by decide, ?_⟩
  have e : upd (upd H p (.dK [])) p (.dK (mergeK [] [(.inr (tx k), .str (tx x))])) = upd H p (.dK [(.inr (tx k), .str (tx x))]) := by
    funext b
    by_cases hb : b = p
    · rw [hb, upd_same, upd_same]
      rfl
    · rw [upd_ne hb, upd_ne hb, upd_ne hb]
  rw [e]
  exact q ρ _ (Ext.new hp (mo.notin hp)) (mo.new hp) _ (.dic (mo.notin hp) upd_same (.cons (.str x) .nil))
theorem own_map (S : Sc) : ∀ (own : List Nat), (ownP S own).map (·.2) = own
  | [] => rfl
  | i :: own => congrArg (i :: ·) (own_map S own)
theorem set_ok {i : Expr} (h : notSet i = true) : ∀ x, foldedSetIterable i X.env x = pure x := by
  intro x
  cases i <;> first
    | rfl
    | (simp [notSet] at h; done)
    | simp [foldedSetIterable]
theorem ix_ok {b : Expr} (h : notSl b = true) : PlainIx b := by
  intro o i
  cases b <;> first
    | rfl
    | (simp [notSl] at h; done)
    | simp [subscripted]
/-- one value, none starred -/
theorem sns_one {es : Es} {a : Expr} (h : Sns X W g es [a]) (hn : nsB [a] = true) : ∃ e, es = .cons e .nil ∧ (∀ y, e ≠ .star y) ∧ Snd X W g e a := by
  generalize hl : [a] = l at h
  cases h with
  | nil => cases hl
  | cons a b c d =>
    cases hl
    cases d
    exact ⟨_, rfl, a, c⟩
  | star c d =>
    cases hl
    exact absurd rfl ((ns_head hn).1 _ _)
theorem sns_two {es : Es} {a b : Expr} (h : Sns X W g es [a, b]) (hn : nsB [a, b] = true) : ∃ e e2, es = .cons e (.cons e2 .nil) ∧ (∀ y, e ≠ .star y) ∧ (∀ y, e2 ≠ .star y) := by
  generalize hl : [a, b] = l at h
  cases h with
  | nil => cases hl
  | cons a b c d =>
    cases hl
    obtain ⟨e2, h1, h2, _⟩ := sns_one d (ns_head hn).2
    subst h1
    exact ⟨_, _, rfl, a, h2⟩
  | star c d =>
    cases hl
    exact absurd rfl ((ns_head hn).1 _ _)
theorem evEs_one {e : E} (h : ∀ y, e ≠ .star y) (env : Env) (hd : Hd) : evEs g (.cons e .nil) env hd = (evE g e env hd).bind fun x hd => .ok [x] hd := by
  rw [evEs_cons h]
  rfl
theorem only_one {e : E} (h : ∀ y, e ≠ .star y) : (fun env hd => (evEs g (.cons e .nil) env hd).bind fun xs hd => match xs with | [x] => R.ok [x] hd | _ => .bad) = evEs g (.cons e .nil) := by
  funext env hd
  rw [evEs_one h]
  cases evE g e env hd <;> rfl
theorem only_two {e e2 : E} (h : ∀ y, e ≠ .star y) (h2 : ∀ y, e2 ≠ .star y) : (fun env hd => (evEs g (.cons e (.cons e2 .nil)) env hd).bind fun xs hd => match xs with | [x, y] => R.ok [x, y] hd | _ => .bad) = evEs g (.cons e (.cons e2 .nil)) := by
  funext env hd
  rw [evEs_cons h]
  cases evE g e env hd with
  | ok x h1 =>
    show ((evEs g (.cons e2 .nil) env h1).bind _).bind _ = (evEs g (.cons e2 .nil) env h1).bind _
    rw [evEs_one h2]
    cases evE g e2 env h1 <;> rfl
  | _ => rfl
/-- what is walked -/
def mI (T : Tab) (S : Sc) (k : IK) (its : Es) (t i : Expr) : Bool := match k with
        | .plain => mEs T its S [i] && nsB [i]
        | .range => (match i with
          | .Call (.Name y _) args [] _ => decide (("range" : Str) = y) && (glB S.sc y && (nsB args && ((args.length == 1 || args.length == 2) && mEs T its S args)))
          | _ => false)
        | .enum => (match i with
          | .Call (.Name y _) args [] _ => decide (("enumerate" : Str) = y) && (glB S.sc y && (nsB args && ((args.length == 1) && ((match t with | .Tuple .. => true | _ => false) && mEs T its S args))))
          | _ => false)
        | .zip => false
theorem it_ok {k : IK} {its : Es} {t i : Expr} (f : Fit X S j) (o : Okx X W T j) (h : mI T S k its t i = true) (ih : ∀ xs, mEs T its S xs = true → Sns X W ⟨T, callF T j⟩ its xs) : PI X t i (rdI X.K X.mg W k (evEs ⟨T, callF T j⟩ its)) := by
  unfold mI at h
  split at h
  · obtain ⟨h1, h2⟩ := and_t h
    obtain ⟨e, rfl, h3, h4⟩ := sns_one (ih _ h1) h2
    rw [show evEs ⟨T, callF T j⟩ (.cons e .nil) = _ from funext fun env => funext fun hd => evEs_one h3 env hd]
    exact pi_plainZ h4.pe
  · split at h
    · rename_i y p args pos
      obtain ⟨h1, h⟩ := and_t h
      obtain ⟨h2, h⟩ := and_t h
      obtain ⟨h3, h⟩ := and_t h
      obtain ⟨h4, h5⟩ := and_t h
      have h1 := dec_t h1
      subst h1
      have hg := gl_ok f h2
      have hm := o.tb.free "range" (by decide)
      have hs := ih _ h5
      match args, h3, h4, hs with
      | [], _, h4, _ => simp at h4
      | [a], h3, _, hs =>
        have pa := sns_pa hs
        obtain ⟨e, rfl, h6, _⟩ := sns_one hs h3
        rw [← only_one h6]
        exact pi_rng1Z hg hm pa (ns_cons (ns_head h3).1)
      | [a, b], h3, _, hs =>
        have pa := sns_pa hs
        obtain ⟨e, e2, rfl, h6, h7⟩ := sns_two hs h3
        rw [← only_two h6 h7]
        have q := ns_cons (env := X.env) (es := []) (ns_head (ns_head h3).2).1
        exact pi_rng2Z hg hm pa ((ns_cons (ns_head h3).1).trans (by rw [q]; rfl)) q
      | _ :: _ :: _ :: _, _, h4, _ => simp at h4
    · cases h
  · split at h
    · rename_i y p args pos
      obtain ⟨h1, h⟩ := and_t h
      obtain ⟨h2, h⟩ := and_t h
      obtain ⟨h3, h⟩ := and_t h
      obtain ⟨h4, h⟩ := and_t h
      obtain ⟨h5, h6⟩ := and_t h
      have h1 := dec_t h1
      subst h1
      have hg := gl_ok f h2
      have hm := o.tb.free "enumerate" (by decide)
      have hs := ih _ h6
      split at h5
      · match args, h3, h4, hs with
        | [], _, h4, _ => simp at h4
        | [a], h3, _, hs =>
          have pa := sns_pa hs
          obtain ⟨e, rfl, h6, _⟩ := sns_one hs h3
          rw [← only_one h6]
          exact pi_enumZ hg hm pa (ns_cons (ns_head h3).1)
        | _ :: _ :: _, _, h4, _ => simp at h4
      · cases h5
    · cases h
  · cases h
theorem lc_pts {ifs : Es} {fs : List Expr} (hn : nsB fs = true) (hl : fs.length ≤ 1) (h : Sns X W g ifs fs) : PTs X fs (rdT X.K X.mg W (evAll g ifs)) := by
  cases h with
  | nil => exact ⟨fun pins s σ H Q I ⟨ρ, env, hd, re, mo, q⟩ => pts_nil.run pins s σ H Q I (q ρ H .refl mo)⟩
  | cons a b c d =>
    cases d with
    | nil =>
      refine ⟨fun pins s σ H Q I q => (pts_one c.pt).run pins s σ H Q I ?_⟩
      rename_i e x
      have : ∀ env hd, evAll g (.cons e .nil) env hd = truthR (evE g e env hd) := fun env hd => by
        show (truthR (evE g e env hd)).bind (fun b hd => if b then .ok true hd else .ok false hd) = _
        cases truthR (evE g e env hd) with
        | ok b h => cases b <;> rfl
        | exc C fs h => rfl
        | bad => rfl
      rw [rdT_congr this] at q
      exact q
    | cons _ _ _ _ => simp at hl
    | star _ _ => simp at hl
  | star c d => exact absurd rfl ((ns_head hn).1 _ _)
end
end Z
/-! Z21: an expression that passes the check does what its small tree does. -/
/-! Z22: the induction over expressions. -/
namespace Z
open PySem L2 PySem.Spec PyProof.Rows
section
variable {X : Cx} {W : WX} {S : Sc} {T : Tab} {j : Nat}
theorem isi_ok {a : E} {own : Bool} {c : String} {x : Expr} {z : Str} {p p2 pos : Pos} (f : Fit X S j) (o : Okx X W T j) (hy : glB S.sc "isinstance" = true) (hx : nsB [x] = true) (hz : glB S.sc z = true) (hc : nm c = z) (hw : (if own then (T.cl c).isSome else decide (c ∈ isNames)) = true) (hn : nmB z = true)
    (s : Snd X W ⟨T, callF T j⟩ a x) : PE X (.Call (.Name "isinstance" p) [x, .Name z p2] [] pos) (rd X.K X.mg W (evE ⟨T, callF T j⟩ (.isi a own c))) := by
  subst hc
  have h2 : starEach [x, .Name (nm c) p2] X.env = (false, eval x X.env) :: starEach [.Name (nm c) p2] X.env := ns_cons (ns_head hx).1
  have h3 : starEach [.Name (nm c) p2] X.env = (false, eval (.Name (nm c) p2) X.env) :: starEach [] X.env := ns_cons fun y p z => by cases z
  have h4 : ∀ pos, (backTo pos (starEach [.Name (nm c) p2] X.env)).any (·.1) = false := fun pos => ns_any rfl
  have hgi := gl_ok f hy
  have hgz := gl_ok f hz
  have hmi := o.tb.free "isinstance" (by decide)
  cases own with
  | true =>
    have hw : (T.cl c).isSome = true := hw
    obtain ⟨cl, hcl⟩ := Option.isSome_iff_exists.mp hw
    obtain ⟨u, F⟩ := o.tb.tf.cl c cl hcl
    exact pe_isiZ (own := true) (g := ⟨T, callF T j⟩) (u := .ref u) (vc := .ref u) (es := []) o.tb.tf hgi hmi (pe_glob hgz F.mg_ rfl (nm_ok hn).1) (.own u) F.mg_ s.pe h2 h3 (h4 pos)
  | false =>
    have hw : decide (c ∈ isNames) = true := hw
    have hw := dec_t hw
    have hm : X.mg (nm c) = none ∧ bootBuiltins (nm c) = some (.type c) ∧ nm c ≠ "__name__" := by
      simp only [isNames, List.mem_cons, List.not_mem_nil, or_false] at hw
      rcases hw with rfl | rfl | rfl
      · exact ⟨o.tb.free _ (by decide), by decide, by decide⟩
      · exact ⟨o.tb.free _ (by decide), by decide, by decide⟩
      · exact ⟨o.tb.free _ (by decide), by decide, by decide⟩
    exact pe_isiZ (own := false) (g := ⟨T, callF T j⟩) (u := .type c) (vc := .ty c) (es := []) o.tb.tf hgi hmi (pe_bltn hgz hm.1 hm.2.1 rfl hm.2.2 (nm_ok hn).1) (.ty c) rfl s.pe h2 h3 (h4 pos)
theorem lc_ok {m : Bool} {elt : E} {own : List Nat} {tg : Tg} {k : IK} {its ifs : Es} {x t i : Expr} {fs : List Expr} {scope : Scope} {p : Pos} (f : Fit X S j) (o : Okx X W T j) (h : mE T (.lc m elt own tg k its ifs) S (.ListComp x [⟨t, i, fs, 0⟩] scope p) = true)
    (i1 : ∀ xs, mEs T its S xs = true → Sns X W ⟨T, callF T j⟩ its xs) (i2 : ∀ (X' : Cx), Fit X' (subSc S scope) j → Okx X' WF T j → mEs T ifs (subSc S scope) fs = true → Sns X' WF ⟨T, callF T j⟩ ifs fs)
    (i3 : ∀ (X' : Cx), Fit X' (subSc S scope) j → Okx X' WF T j → mE T elt (subSc S scope) x = true → Snd X' WF ⟨T, callF T j⟩ elt x) :
    (PI X t i (rdI X.K X.mg W k (evEs ⟨T, callF T j⟩ its)) ∧ BlkOk X.N X.env.scope scope (ownP S own) ∧ (∀ (s : Shared) (H : Hp) (C : Addr) (cl : List (Str × Addr)) (fp : List Addr), PG (X.blk s H scope (compEnvC scope cl C X.env) fp) t (rdG X.K X.mg ((ownP S own).map (·.2)) (storeS tg)))) ∧
    ((∀ (s : Shared) (H : Hp) (C : Addr) (cl : List (Str × Addr)) (fp : List Addr), PTs (X.blk s H scope (compEnvC scope cl C X.env) fp) fs (rdT X.K X.mg WF (evAll ⟨T, callF T j⟩ ifs))) ∧
    (∀ (s : Shared) (H : Hp) (C : Addr) (cl : List (Str × Addr)) (fp : List Addr), PE (X.blk s H scope (compEnvC scope cl C X.env) fp) x (rd X.K X.mg WF (evE ⟨T, callF T j⟩ elt))) ∧ (∀ x, foldedSetIterable i X.env x = pure x)) := by
  unfold mE at h
  obtain ⟨h1, h⟩ := and_t h
  obtain ⟨h2, h⟩ := and_t h
  obtain ⟨h3, h⟩ := and_t h
  obtain ⟨h4, h⟩ := and_t h
  obtain ⟨h5, h⟩ := and_t h
  obtain ⟨h6, h⟩ := and_t h
  obtain ⟨h7, h⟩ := and_t h
  obtain ⟨h8, h9⟩ := and_t h
  refine ⟨⟨it_ok f o h6 i1, ?_, fun s H C cl fp => ?_⟩, fun s H C cl fp => ?_, fun s H C cl fp => ?_, set_ok h4⟩
  · rw [f.N, f.sc]
    exact blkOk_by h1
  · rw [own_map]
    have o' := o.blk s H scope C cl fp
    refine tg_ok (sub_ok f s H scope C cl fp) o'.hN o'.hc h2 fun i hi => ?_
    have := List.all_eq_true.mp h3 i hi
    exact List.contains_iff_mem.mp this
  · exact lc_pts h7 (dec_t h5) (i2 _ (sub_ok f s H scope C cl fp) (o.blk s H scope C cl fp) h8)
  · exact (i3 _ (sub_ok f s H scope C cl fp) (o.blk s H scope C cl fp) h9).pe
theorem dc_ok {kx vx : E} {own : List Nat} {tg : Tg} {k : IK} {its ifs : Es} {x y t i : Expr} {fs : List Expr} {scope : Scope} {p : Pos} (f : Fit X S j) (o : Okx X W T j) (h : mE T (.dc kx vx own tg k its ifs) S (.DictComp x y [⟨t, i, fs, 0⟩] scope p) = true)
    (i1 : ∀ xs, mEs T its S xs = true → Sns X W ⟨T, callF T j⟩ its xs) (i2 : ∀ (X' : Cx), Fit X' (subSc S scope) j → Okx X' WF T j → mEs T ifs (subSc S scope) fs = true → Sns X' WF ⟨T, callF T j⟩ ifs fs)
    (i3 : ∀ (X' : Cx), Fit X' (subSc S scope) j → Okx X' WF T j → mE T kx (subSc S scope) x = true → Snd X' WF ⟨T, callF T j⟩ kx x)
    (i4 : ∀ (X' : Cx), Fit X' (subSc S scope) j → Okx X' WF T j → mE T vx (subSc S scope) y = true → Snd X' WF ⟨T, callF T j⟩ vx y) :
    (PI X t i (rdI X.K X.mg W k (evEs ⟨T, callF T j⟩ its)) ∧ BlkOk X.N X.env.scope scope (ownP S own) ∧ (∀ (s : Shared) (H : Hp) (C : Addr) (cl : List (Str × Addr)) (fp : List Addr), PG (X.blk s H scope (compEnvC scope cl C X.env) fp) t (rdG X.K X.mg ((ownP S own).map (·.2)) (storeS tg)))) ∧
    ((∀ (s : Shared) (H : Hp) (C : Addr) (cl : List (Str × Addr)) (fp : List Addr), PTs (X.blk s H scope (compEnvC scope cl C X.env) fp) fs (rdT X.K X.mg WF (evAll ⟨T, callF T j⟩ ifs))) ∧
    ((∀ (s : Shared) (H : Hp) (C : Addr) (cl : List (Str × Addr)) (fp : List Addr), PE (X.blk s H scope (compEnvC scope cl C X.env) fp) x (rd X.K X.mg WF (evE ⟨T, callF T j⟩ kx))) ∧ (∀ (s : Shared) (H : Hp) (C : Addr) (cl : List (Str × Addr)) (fp : List Addr), PE (X.blk s H scope (compEnvC scope cl C X.env) fp) y (rd X.K X.mg WF (evE ⟨T, callF T j⟩ vx)))) ∧ (∀ x, foldedSetIterable i X.env x = pure x)) := by
  unfold mE at h
  obtain ⟨h1, h⟩ := and_t h
  obtain ⟨h2, h⟩ := and_t h
  obtain ⟨h3, h⟩ := and_t h
  obtain ⟨h4, h⟩ := and_t h
  obtain ⟨h5, h⟩ := and_t h
  obtain ⟨h6, h⟩ := and_t h
  obtain ⟨h7, h⟩ := and_t h
  obtain ⟨h8, h⟩ := and_t h
  obtain ⟨h9, h10⟩ := and_t h
  refine ⟨⟨it_ok f o h6 i1, ?_, fun s H C cl fp => ?_⟩, fun s H C cl fp => ?_, ⟨fun s H C cl fp => ?_, fun s H C cl fp => ?_⟩, set_ok h4⟩
  · rw [f.N, f.sc]
    exact blkOk_by h1
  · rw [own_map]
    have o' := o.blk s H scope C cl fp
    refine tg_ok (sub_ok f s H scope C cl fp) o'.hN o'.hc h2 fun i hi => ?_
    have := List.all_eq_true.mp h3 i hi
    exact List.contains_iff_mem.mp this
  · exact lc_pts h7 (dec_t h5) (i2 _ (sub_ok f s H scope C cl fp) (o.blk s H scope C cl fp) h8)
  · exact (i3 _ (sub_ok f s H scope C cl fp) (o.blk s H scope C cl fp) h9).pe
  · exact (i4 _ (sub_ok f s H scope C cl fp) (o.blk s H scope C cl fp) h10).pe
theorem evE_sl {g : G} {m : Bool} {a lo hi : E} {env : Env} {hd : Hd} : evE g (.sl m a lo hi) env hd = (evE g a env hd).bind fun x hd => (match lo with | .nop => R.ok D.non hd | lo => (evE g lo env hd).bind intS).bind fun l hd => (match hi with | .nop => R.ok D.non hd | hi => (evE g hi env hd).bind intS).bind fun u hd => (slS m x l u hd).st := by
  conv => lhs; unfold evE
  all_goals rfl
set_option maxHeartbeats 1000000
mutual
theorem snd_E (T : Tab) (j : Nat) : ∀ (e : E) (S : Sc) (x : Expr) (X : Cx) (W : WX), mE T e S x = true → Fit X S j → Okx X W T j → Snd X W ⟨T, callF T j⟩ e x
  | .var i, S, x, X, W, h, f, o => by
    unfold mE at h
    split at h
    · obtain ⟨h1, h⟩ := and_t h
      obtain ⟨h2, h3⟩ := and_t h
      exact snd_val (var_ok f (dec_t h1) h2 h3) (fun _ => rfl) (fun _ _ _ z => by cases z)
    · cases h
  | .con d, S, x, X, W, h, f, o => by
    unfold mE at h
    split at h
    · exact snd_val (con_ok h) (fun _ => rfl) (fun _ _ _ z => by cases z)
    · cases h
  | .glo y, S, x, X, W, h, f, o => by
    unfold mE at h
    split at h
    · obtain ⟨h1, h⟩ := and_t h
      obtain ⟨h2, h3⟩ := and_t h
      exact snd_val (glo_ok o (dec_t h1) (gl_ok f h2) h3) (fun _ => rfl) (fun _ _ _ z => by cases z)
    · cases h
  | .bin m op a b, S, x, X, W, h, f, o => by
    unfold mE at h
    split at h
    · obtain ⟨h1, h⟩ := and_t h
      obtain ⟨h2, h⟩ := and_t h
      obtain ⟨h3, h4⟩ := and_t h
      have h1 := dec_t h1
      subst h1
      exact snd_val (pe_2 (op_binZ (m := m) h2) (snd_E T j a S _ X W h3 f o).pe (snd_E T j b S _ X W h4 f o).pe) (fun _ => rfl) (fun _ _ _ z => by cases z)
    · cases h
  | .neg a, S, x, X, W, h, f, o => by
    unfold mE at h
    split at h
    · exact snd_val (pe_negZ (snd_E T j a S _ X W h f o).pe) (fun _ => rfl) (fun _ _ _ z => by cases z)
    · cases h
  | .not a, S, x, X, W, h, f, o => by
    unfold mE at h
    split at h
    · have s := snd_E T j a S _ X W h f o
      refine ⟨pe_notZ s.pe, ?_, fun _ _ _ z => by cases z⟩
      rw [rdT_congr (X := X) (W := W) (m := fun env hd => truthR (evE ⟨T, callF T j⟩ (.not a) env hd)) (m' := fun env hd => (truthR (evE ⟨T, callF T j⟩ a env hd)).bind fun b hd => .ok (!b) hd) fun env hd => tr_not _]
      exact pt_notZ s.pt
    · cases h
  | .and a b, S, x, X, W, h, f, o => by
    unfold mE at h
    split at h
    · obtain ⟨h1, h2⟩ := and_t h
      have s := snd_E T j a S _ X W h1 f o
      obtain ⟨b1, b2⟩ := bo_pe (snd_E T j b S _ X W h2 f o)
      have e := rdT_congr (X := X) (W := W) (m := fun env hd => truthR (evE ⟨T, callF T j⟩ (.and a b) env hd)) (m' := fun env hd => (truthR (evE ⟨T, callF T j⟩ a env hd)).bind fun k hd => if k then truthR (evE ⟨T, callF T j⟩ b env hd) else .ok false hd) fun env hd => tr_and _ (fun hd => evE ⟨T, callF T j⟩ b env hd)
      have q := pw_andZ s.pt b2
      refine ⟨pe_andZ s.pe b1, ?_, fun _ _ _ _ => ?_⟩
      · rw [e]
        exact q.pt
      · rw [e]
        exact q
    · cases h
  | .or a b, S, x, X, W, h, f, o => by
    unfold mE at h
    split at h
    · obtain ⟨h1, h2⟩ := and_t h
      have s := snd_E T j a S _ X W h1 f o
      obtain ⟨b1, b2⟩ := bo_pe (snd_E T j b S _ X W h2 f o)
      have e := rdT_congr (X := X) (W := W) (m := fun env hd => truthR (evE ⟨T, callF T j⟩ (.or a b) env hd)) (m' := fun env hd => (truthR (evE ⟨T, callF T j⟩ a env hd)).bind fun k hd => if k then .ok true hd else truthR (evE ⟨T, callF T j⟩ b env hd)) fun env hd => tr_or _ (fun hd => evE ⟨T, callF T j⟩ b env hd)
      have q := pw_orZ s.pt b2
      refine ⟨pe_orZ s.pe b1, ?_, fun _ _ _ _ => ?_⟩
      · rw [e]
        exact q.pt
      · rw [e]
        exact q
    · cases h
  | .ite c a b, S, x, X, W, h, f, o => by
    unfold mE at h
    split at h
    · obtain ⟨h1, h⟩ := and_t h
      obtain ⟨h2, h3⟩ := and_t h
      have sc := snd_E T j c S _ X W h1 f o
      have sa := snd_E T j a S _ X W h2 f o
      have sb := snd_E T j b S _ X W h3 f o
      refine ⟨pe_iteZ sc.pt sa.pe sb.pe, ?_, fun _ _ _ z => by cases z⟩
      rw [rdT_congr (X := X) (W := W) (m := fun env hd => truthR (evE ⟨T, callF T j⟩ (.ite c a b) env hd)) (m' := fun env hd => (truthR (evE ⟨T, callF T j⟩ c env hd)).bind fun k hd => if k then truthR (evE ⟨T, callF T j⟩ a env hd) else truthR (evE ⟨T, callF T j⟩ b env hd)) fun env hd => tr_ite _ (fun hd => evE ⟨T, callF T j⟩ a env hd) (fun hd => evE ⟨T, callF T j⟩ b env hd)]
      exact pt_iteZ sc.pt sa.pt sb.pt
    · cases h
  | .cmp op a b, S, x, X, W, h, f, o => by
    unfold mE at h
    split at h
    · obtain ⟨h1, h⟩ := and_t h
      obtain ⟨h2, h⟩ := and_t h
      obtain ⟨h3, h4⟩ := and_t h
      have h1 := dec_t h1
      subst h1
      have sa := snd_E T j a S _ X W h3 f o
      have sb := snd_E T j b S _ X W h4 f o
      exact ⟨pe_cmp2 (cmpF o.gr op) sa.pe sb.pe (by simpa using h2), pt_cmpZ (cmpB op) (cmpF o.gr op) sa.pe sb.pe (by simpa using h2), fun _ _ _ z => by cases z⟩
    · cases h
  | .cmp2 o1 o2 a b c, S, x, X, W, h, f, o => by
    unfold mE at h
    split at h
    · obtain ⟨h1, h⟩ := and_t h
      obtain ⟨h2, h⟩ := and_t h
      obtain ⟨h3, h⟩ := and_t h
      obtain ⟨h4, h⟩ := and_t h
      obtain ⟨h5, h6⟩ := and_t h
      have h1 := dec_t h1
      have h2 := dec_t h2
      subst h1
      subst h2
      have sa := snd_E T j a S _ X W h4 f o
      have sb := snd_E T j b S _ X W h5 f o
      have sc := snd_E T j c S _ X W h6 f o
      exact ⟨pe_chainZ (cmpF o.gr o1) (cmpF o.gr o2) sa.pe sb.pe sc.pe (by simpa using h3), pt_chainZ (cmpB o2) (cmpF o.gr o1) (cmpF o.gr o2) sa.pe sb.pe sc.pe (by simpa using h3), fun _ _ _ z => by cases z⟩
    · cases h
  | .bi m fn es, S, x, X, W, h, f, o => by
    unfold mE at h
    split at h
    · obtain ⟨h1, h⟩ := and_t h
      obtain ⟨h2, h⟩ := and_t h
      obtain ⟨h3, h4⟩ := and_t h
      have h1 := dec_t h1
      subst h1
      have hm : X.mg (biName fn) = none := o.tb.free _ (by cases fn <;> decide)
      exact snd_val (pe_biZ o.gr (gl_ok f h2) hm (sns_pa (snd_Es T j es S _ X W h4 f o)) (ns_cons (ns_head h3).1) (ns_any (ns_head h3).2)) (fun _ => rfl) (fun _ _ _ z => by cases z)
    · cases h
  | .isi a own c, S, x, X, W, h, f, o => by
    unfold mE at h
    split at h
    · obtain ⟨h1, h⟩ := and_t h
      obtain ⟨h2, h⟩ := and_t h
      obtain ⟨h3, h⟩ := and_t h
      obtain ⟨h4, h⟩ := and_t h
      obtain ⟨h5, h⟩ := and_t h
      obtain ⟨h6, h⟩ := and_t h
      obtain ⟨h7, h8⟩ := and_t h
      have h1 := dec_t h1
      subst h1
      exact snd_val (isi_ok f o h2 h3 h4 (dec_t h5) h6 h7 (snd_E T j a S _ X W h8 f o)) (fun _ => rfl) (fun _ _ _ z => by cases z)
    · cases h
  | .mt m fn ob es, S, x, X, W, h, f, o => by
    unfold mE at h
    split at h
    · obtain ⟨h1, h⟩ := and_t h
      obtain ⟨h2, h⟩ := and_t h
      obtain ⟨h3, h⟩ := and_t h
      obtain ⟨h4, h⟩ := and_t h
      obtain ⟨h5, h⟩ := and_t h
      obtain ⟨h6, h⟩ := and_t h
      obtain ⟨h7, h8⟩ := and_t h
      have h2 := dec_t h2
      subst h2
      obtain ⟨Tn, id, f1, f2, f3, f4, f5⟩ := mtF (X := X) m fn h1
      have pa := sns_pa (snd_Es T j es S _ X W h8 f o)
      refine snd_val (pe_mtZ f1 f2 f3 f4 f5 (snd_E T j ob S _ X W h7 f o).pe (fun _ => pa) (ab_ok h3) ?_ h6 (ns_cons (ns_head h4).1) (ns_any (ns_head h4).2)) (fun _ => rfl) (fun _ _ _ z => by cases z)
      have h5 := dec_t h5
      rw [ns_all h4]
      simp [keywordEach, backToKw]
      simpa using h5
    · cases h
  | .fn fn es ks kes, S, x, X, W, h, f, o => by
    unfold mE at h
    split at h
    · obtain ⟨h1, h⟩ := and_t h
      obtain ⟨h2, h⟩ := and_t h
      obtain ⟨h3, h⟩ := and_t h
      obtain ⟨h4, h⟩ := and_t h
      obtain ⟨h5, h⟩ := and_t h
      obtain ⟨h6, h⟩ := and_t h
      obtain ⟨h7, h8⟩ := and_t h
      have h1 := dec_t h1
      subst h1
      obtain ⟨fd, hfd⟩ := Option.isSome_iff_exists.mp h4
      obtain ⟨a, c1, c2, c3⟩ := o.fn fn fd hfd
      obtain ⟨kw, kn⟩ := kw_ok (env := X.env) h6
      have pk := sns_pk kn (snd_Es T j kes S _ X W h8 f o)
      have sa := snd_Es T j es S _ X W h7 f o
      refine snd_val ?_ (fun _ => rfl) (fun _ _ _ z => by cases z)
      cases sa with
      | nil => exact pe_callZ0 c3 c2 (gl_ok f h2) c1 (nm_ok h3).1 pk kw
      | cons z1 z2 z3 z4 => exact pe_callZ1 c3 c2 (gl_ok f h2) c1 (nm_ok h3).1 (sns_pa (.cons z1 z2 z3 z4)) pk kw (ns_ok h5)
      | star z1 z2 => exact absurd rfl ((ns_head h5).1 _ _)
    · cases h
  | .new fn es ks kes, S, x, X, W, h, f, o => by
    unfold mE at h
    split at h
    · obtain ⟨h1, h⟩ := and_t h
      obtain ⟨h2, h⟩ := and_t h
      obtain ⟨h3, h⟩ := and_t h
      obtain ⟨h4, h⟩ := and_t h
      obtain ⟨h5, h⟩ := and_t h
      obtain ⟨h6, h⟩ := and_t h
      obtain ⟨h7, h8⟩ := and_t h
      have h1 := dec_t h1
      subst h1
      obtain ⟨fd, hfd⟩ := Option.isSome_iff_exists.mp h4
      obtain ⟨a, c1, c2, c3⟩ := o.new fn fd hfd
      obtain ⟨kw, kn⟩ := kw_ok (env := X.env) h6
      have pk := sns_pk kn (snd_Es T j kes S _ X W h8 f o)
      have sa := snd_Es T j es S _ X W h7 f o
      refine snd_val ?_ (fun _ => rfl) (fun _ _ _ z => by cases z)
      cases sa with
      | nil => exact pe_callZ0 c3 c2 (gl_ok f h2) c1 (nm_ok h3).1 pk kw
      | cons z1 z2 z3 z4 => exact pe_callZ1 c3 c2 (gl_ok f h2) c1 (nm_ok h3).1 (sns_pa (.cons z1 z2 z3 z4)) pk kw (ns_ok h5)
      | star z1 z2 => exact absurd rfl ((ns_head h5).1 _ _)
    · cases h
  | .me fn ob es ks kes, S, x, X, W, h, f, o => by
    unfold mE at h
    split at h
    · rename_i x m apos args kws cpos
      obtain ⟨h1, h⟩ := and_t h
      obtain ⟨h2, h⟩ := and_t h
      obtain ⟨h3, h⟩ := and_t h
      obtain ⟨h4, h⟩ := and_t h
      obtain ⟨h5, h⟩ := and_t h
      obtain ⟨h6, h⟩ := and_t h
      obtain ⟨h7, h⟩ := and_t h
      obtain ⟨h8, h9⟩ := and_t h
      have h1 := dec_t h1
      subst h1
      have h5 := dec_t h5
      obtain ⟨kw, kn⟩ := kw_ok (env := X.env) h4
      have pk := sns_pk kn (snd_Es T j kes S _ X W h9 f o)
      have sa := snd_Es T j es S _ X W h8 f o
      have so := (snd_E T j ob S _ X W h7 f o).pe
      have hform : methodCallForm (args.length + kws.length) (backTo cpos (starEach args X.env)) (backToKw cpos (keywordEach kws X.env)) = true := by
        unfold methodCallForm
        rw [ns_all h3, kw.all]
        simp only [Bool.true_and, decide_eq_true_eq]
        split <;> omega
      refine snd_val ?_ (fun _ => rfl) (fun _ _ _ z => by cases z)
      cases sa with
      | nil => exact pe_meZ0 o.me so (ab_ok h2) hform h6 pk kw
      | cons z1 z2 z3 z4 => exact pe_meZ1 o.me so (ab_ok h2) hform h6 (sns_pa (.cons z1 z2 z3 z4)) pk kw (ns_ok h3)
      | star z1 z2 => exact absurd rfl ((ns_head h3).1 _ _)
    · cases h
  | .att ob fl, S, x, X, W, h, f, o => by
    unfold mE at h
    split at h
    · obtain ⟨h1, h⟩ := and_t h
      obtain ⟨h2, h3⟩ := and_t h
      have h1 := dec_t h1
      subst h1
      exact snd_val (pe_attZ (g := ⟨T, callF T j⟩) o.tb.tf o.at_ (snd_E T j ob S _ X W h3 f o).pe (ab_ok h2)) (fun _ => rfl) (fun _ _ _ z => by cases z)
    · cases h
  | .ix a b, S, x, X, W, h, f, o => by
    unfold mE at h
    split at h
    · obtain ⟨h1, h⟩ := and_t h
      obtain ⟨h2, h3⟩ := and_t h
      exact snd_val (pe_ixZ o.gr.hu (snd_E T j a S _ X W h2 f o).pe (snd_E T j b S _ X W h3 f o).pe (ix_ok h1)) (fun _ => rfl) (fun _ _ _ z => by cases z)
    · cases h
  | .sl m a lo hi, S, x, X, W, h, f, o => by
    unfold mE at h
    split at h
    · rename_i x l hh p2 p
      obtain ⟨h1, h⟩ := and_t h
      obtain ⟨h2, h3⟩ := and_t h
      have part : ∀ (e : E) (l : Option Expr), (match l with | none => isNop e | some l => mE T e S l) = true → (∀ x, mE T e S x = true → Snd X W ⟨T, callF T j⟩ e x) → ∃ ml, PO X l (rdO X.K X.mg W ml) ∧ Part ml ∧ ∀ env hd, (match e with | .nop => R.ok D.non hd | lo => (evE ⟨T, callF T j⟩ lo env hd).bind intS) = ml env hd := by
        intro e l h q
        cases l with
        | none =>
          cases e with
          | nop => exact ⟨_, po_noneZ, part_non, fun _ _ => rfl⟩
          | _ => cases h
        | some l =>
          have h : mE T e S l = true := h
          refine ⟨fun env hd => (evE ⟨T, callF T j⟩ e env hd).bind intS, po_someZ (q l h).pe, part_int, fun env hd => ?_⟩
          cases e <;> first
            | rfl
            | (unfold mE at h; cases h)
      obtain ⟨ml, l1, l2, l3⟩ := part lo l h2 (fun x hx => snd_E T j lo S x X W hx f o)
      obtain ⟨mh, u1, u2, u3⟩ := part hi hh h3 (fun x hx => snd_E T j hi S x X W hx f o)
      refine snd_val ?_ (fun _ => rfl) (fun _ _ _ z => by cases z)
      have q := pe_slZ (m := m) (p2 := p2) (pos := p) (snd_E T j a S _ X W h1 f o).pe l1 u1 l2 u2
      rw [rd_congr (X := X) (W := W) (m := evE ⟨T, callF T j⟩ (.sl m a lo hi)) (m' := fun env hd => (evE ⟨T, callF T j⟩ a env hd).bind fun x hd => (ml env hd).bind fun l hd => (mh env hd).bind fun u hd => (slS m x l u hd).st) fun env hd => ?_]
      · exact q
      · rw [evE_sl]
        congr 1
        funext x hd
        rw [← l3]
        congr 1
        funext l hd
        rw [← u3]
    · cases h
  | .nop, S, x, X, W, h, f, o => by
    unfold mE at h
    cases h
  | .tup es, S, x, X, W, h, f, o => by
    unfold mE at h
    split at h
    · exact snd_val (pe_tupZ (sns_pa (snd_Es T j es S _ X W h f o))) (fun _ => rfl) (fun _ _ _ z => by cases z)
    · cases h
  | .lst m es, S, x, X, W, h, f, o => by
    unfold mE at h
    split at h
    · exact snd_val (pe_lstZ (sns_pa (snd_Es T j es S _ X W h f o))) (fun _ => rfl) (fun _ _ _ z => by cases z)
    · cases h
  | .star e, S, x, X, W, h, f, o => by
    unfold mE at h
    cases h
  | .dic ks es, S, x, X, W, h, f, o => by
    unfold mE at h
    split at h
    · exact snd_val dic_ok (fun _ => rfl) (fun _ _ _ z => by cases z)
    · obtain ⟨h1, h2⟩ := and_t h
      exact snd_val (dic1_ok h1 h2) (fun _ => rfl) (fun _ _ _ z => by cases z)
    · cases h
  | .lc m elt own tg k its ifs, S, x, X, W, h, f, o => by
    cases x with
    | ListComp x gens scope p =>
      have hh := h
      unfold mE at hh
      split at hh
      · rename_i hq
        cases hq
        obtain ⟨⟨q1, q2, q3⟩, q4, q5, q6⟩ := lc_ok f o h (fun xs hx => snd_Es T j its S xs X W hx f o) (fun X' f' o' hx => snd_Es T j ifs _ _ X' WF hx f' o') (fun X' f' o' hx => snd_E T j elt _ _ X' WF hx f' o')
        refine snd_val ?_ (fun _ => rfl) (fun _ _ _ z => by cases z)
        have q := pe_lcZ (m := m) (pos := p) o.hc o.hN q1 q2 q3 q4 q5 q6
        rw [own_map] at q
        exact q
      · cases hh
    | _ => unfold mE at h; cases h
  | .dc kx vx own tg k its ifs, S, x, X, W, h, f, o => by
    cases x with
    | DictComp x y gens scope p =>
      have hh := h
      unfold mE at hh
      split at hh
      · rename_i hq
        cases hq
        obtain ⟨⟨q1, q2, q3⟩, q4, ⟨q5, q6⟩, q7⟩ := dc_ok f o h (fun xs hx => snd_Es T j its S xs X W hx f o) (fun X' f' o' hx => snd_Es T j ifs _ _ X' WF hx f' o') (fun X' f' o' hx => snd_E T j kx _ _ X' WF hx f' o') (fun X' f' o' hx => snd_E T j vx _ _ X' WF hx f' o')
        refine snd_val ?_ (fun _ => rfl) (fun _ _ _ z => by cases z)
        have q := pe_dcZ (pos := p) o.hc o.hN q1 q2 q3 q4 q5 q6 q7
        rw [own_map] at q
        exact q
      · cases hh
    | _ => unfold mE at h; cases h
  | .fs es, S, x, X, W, h, f, o => by
    unfold mE at h
    split at h
    · obtain ⟨h1, h2⟩ := and_t h
      refine snd_val ?_ (fun _ => rfl) (fun _ _ _ z => by cases z)
      rw [rd_congr (X := X) (W := W) (m := evE ⟨T, callF T j⟩ (.fs es)) (m' := fun env hd => joinZ (msOf ⟨T, callF T j⟩ es) [] env hd) fun env hd => evF_join es [] env hd]
      exact pe_joinedZ (sns_pj h2 (snd_Es T j es S _ X W h1 f o)) (joinZ_str _ _)
    · cases h
  | .fmt a, S, x, X, W, h, f, o => by
    unfold mE at h
    split at h
    · exact snd_val (pe_fmtZ (snd_E T j a S _ X W h f o).pe) (fun _ => rfl) (fun _ _ _ z => by cases z)
    · cases h
  | .cm C fn es ks kes, S, x, X, W, h, f, o => by
    unfold mE at h
    split at h
    · rename_i y p m apos args kws cpos
      obtain ⟨h1, h⟩ := and_t h
      obtain ⟨h2, h⟩ := and_t h
      obtain ⟨h3, h⟩ := and_t h
      obtain ⟨h4, h⟩ := and_t h
      obtain ⟨h5, h⟩ := and_t h
      obtain ⟨h6, h⟩ := and_t h
      obtain ⟨h7, h⟩ := and_t h
      obtain ⟨h8, h⟩ := and_t h
      obtain ⟨h9, h⟩ := and_t h
      obtain ⟨h10, h11⟩ := and_t h
      have h1 := dec_t h1
      subst h1
      have h2 := dec_t h2
      subst h2
      have h8 := dec_t h8
      obtain ⟨c, hc, hm⟩ : ∃ c, T.cl C = some c ∧ c.own.lookup fn = some .cls := by
        unfold ownC at h5
        split at h5
        · rename_i c hc
          exact ⟨c, hc, dec_t h5⟩
        · cases h5
      obtain ⟨a, p', q, c1, c2, c3⟩ := o.cm C c fn hc hm
      obtain ⟨kw, kn⟩ := kw_ok (env := X.env) h7
      have pk := sns_pk kn (snd_Es T j kes S _ X W h11 f o)
      have sa := snd_Es T j es S _ X W h10 f o
      have hform : methodCallForm (args.length + kws.length) (backTo cpos (starEach args X.env)) (backToKw cpos (keywordEach kws X.env)) = true := by
        unfold methodCallForm
        rw [ns_all h6, kw.all]
        simp only [Bool.true_and, decide_eq_true_eq]
        split <;> omega
      refine snd_val ?_ (fun _ => rfl) (fun _ _ _ z => by cases z)
      cases sa with
      | nil => exact pe_cmZ0 (gl_ok f h3) c1 (nm_ok h4).1 c2 c3 hform h9 pk kw
      | cons z1 z2 z3 z4 => exact pe_cmZ1 (gl_ok f h3) c1 (nm_ok h4).1 c2 c3 hform h9 (sns_pa (.cons z1 z2 z3 z4)) pk kw (ns_ok h6)
      | star z1 z2 => exact absurd rfl ((ns_head h6).1 _ _)
    · cases h
  | .newv i es ks kes, S, x, X, W, h, f, o => by
    unfold mE at h
    split at h
    · rename_i y p args kws cpos
      obtain ⟨h1, h⟩ := and_t h
      obtain ⟨h2, h⟩ := and_t h
      obtain ⟨h3, h⟩ := and_t h
      obtain ⟨h4, h⟩ := and_t h
      obtain ⟨h5, h⟩ := and_t h
      obtain ⟨h6, h7⟩ := and_t h
      have hvN : X.N[i]? = some y := by rw [f.N]; exact dec_t h1
      have hvis : Vis X.env.scope y := by rw [f.sc]; exact vis_ok h2
      obtain ⟨d1, d2⟩ := nm_ok h3
      obtain ⟨kw, kn⟩ := kw_ok (env := X.env) h5
      have pk := sns_pk kn (snd_Es T j kes S _ X W h7 f o)
      have sa := snd_Es T j es S _ X W h6 f o
      refine snd_val ?_ (fun _ => rfl) (fun _ _ _ z => by cases z)
      cases sa with
      | nil => exact pe_newvZ0 o.newAt hvN hvis d1 d2 pk kw
      | cons z1 z2 z3 z4 => exact pe_newvZ1 o.newAt hvN hvis d1 d2 (sns_pa (.cons z1 z2 z3 z4)) pk kw (ns_ok h4)
      | star z1 z2 => exact absurd rfl ((ns_head h4).1 _ _)
    · cases h
  | .told e, S, x, X, W, h, f, o => by
    unfold mE at h
    split at h
    · obtain ⟨h1, h⟩ := and_t h
      obtain ⟨h2, h⟩ := and_t h
      obtain ⟨h3, h⟩ := and_t h
      obtain ⟨h4, h⟩ := and_t h
      obtain ⟨h5, h⟩ := and_t h
      obtain ⟨h6, h7⟩ := and_t h
      have h1 := dec_t h1
      subst h1
      obtain ⟨lk, rf⟩ := f.lm h3
      have g1 := gl_ok f h2
      rw [← f.sc] at h6
      refine snd_val (o.tb.td h4 X W (evE ⟨T, callF T j⟩ e) _ _ _ _ _ _ rfl rfl g1 lk (LamX.lamS_by h6) h5 rf.hd (by have := rf.dp; omega) (by have := rf.un; omega) rf.g fun e0 outer s H E fa c' => ?_) (fun _ => rfl) (fun _ _ _ z => by cases z)
      exact (snd_E T j e (lamSc S _) _ (LamX.lamCx X (X.A.deeper e0) outer s H E _ fa c') _ h7 ⟨rfl, f.N, fun _ => rfl, fun z => by cases z⟩ (o.lam rf e0 outer s H E _ fa c')).pe
    · cases h
termination_by structural e => e
theorem snd_Es (T : Tab) (j : Nat) : ∀ (es : Es) (S : Sc) (xs : List Expr) (X : Cx) (W : WX), mEs T es S xs = true → Fit X S j → Okx X W T j → Sns X W ⟨T, callF T j⟩ es xs
  | .nil, S, xs, X, W, h, f, o => by
    unfold mEs at h
    split at h
    · exact .nil
    · cases h
  | .cons e es, S, xs, X, W, h, f, o => by
    have q := fun S x X W h f o => snd_E T j e S x X W h f o
    have r := fun S xs X W h f o => snd_Es T j es S xs X W h f o
    cases xs with
    | nil =>
      unfold mEs at h
      cases h
    | cons x xs =>
      have hs : ∀ y p, x = .Starred y p → (∀ e', e ≠ .star e') → False := by
        intro y p hx he
        subst hx
        unfold mEs at h
        obtain ⟨h1, h2⟩ := and_t h
        cases e <;> first
          | exact he _ rfl
          | cases h1
      have hn : (∀ y p, x ≠ .Starred y p) → (∀ y, e ≠ .star y) ∧ mE T e S x = true ∧ mEs T es S xs = true := by
        intro hx
        unfold mEs at h
        obtain ⟨h1, h2⟩ := and_t h
        have h1 : mE T e S x = true := by
          cases x <;> first
            | exact h1
            | exact absurd rfl (hx _ _)
        refine ⟨fun y z => ?_, h1, h2⟩
        subst z
        unfold mE at h1
        cases h1
      have hx : (∃ y p, x = .Starred y p) ∨ ∀ y p, x ≠ .Starred y p := by
        cases x <;> first
          | exact .inl ⟨_, _, rfl⟩
          | exact .inr fun y p z => (by cases z)
      rcases hx with hx | hx
      · cases e with
        | star e =>
          obtain ⟨y, p, rfl⟩ := hx
          have h : (mE T e S y && mEs T es S xs) = true := by
            unfold mEs at h
            exact h
          obtain ⟨h1, h2⟩ := and_t h
          exact .star (snd_E T j e S y X W h1 f o) (r S xs X W h2 f o)
        | _ =>
          obtain ⟨y, p, rfl⟩ := hx
          exact (hs y p rfl fun e' z => (by cases z)).elim
      · obtain ⟨a, b, c⟩ := hn hx
        exact .cons a hx (q S x X W b f o) (r S xs X W c f o)
termination_by structural es => es
end
end
end Z
/-! Z23: statements: the check, and that it is sound. -/
namespace Z
open PySem L2 PySem.Spec PyProof.Rows

def bkS (sc : Scope) : ScopeKind := if sc.kind.isAnnotationScope then .function else sc.kind
/-- the stores of a tuple in a tuple's place: from the right where some -/
def swR (sc : Scope) (ts vs : List Expr) : Option (Option (List Str)) :=
  if (!(ts.length == 2 || ts.length == 3) || vs.length != ts.length || bkS sc != .function) = true then some none
  else if (vs.any fun | .Starred .. => true | _ => false) = true then some none
  else
    let ns := ts.filterMap fun
      | .Name id pos => if sc.names.lookup id == some .local && pos.line == (ts.head?.map (·.pos.line)).getD 0 then some id else none
      | _ => none
    if (ns.length != ts.length || ns.eraseDups.length != ns.length) = true then some none
    else if vs.all (foldedForSure 8) = true then some none
    else if vs.all (constantsAlone 8) = true then none
    else some (some ns)
def swB (S : Sc) (t : Tg) (tg v : Expr) : Bool := match tg, v with
  | .Tuple ts _ _, .Tuple vs _ _ => (match swR S.sc ts vs with
    | some none => true
    | some (some [x, y]) => (match t with
      | .names [i, j] => decide (i ≠ j) && (stB S i x && stB S j y)
      | _ => false)
    | some (some [x, y, z]) => (match t with
      | .names [i, j, l] => decide (i ≠ j ∧ i ≠ l ∧ j ≠ l) && (stB S i x && (stB S j y && stB S l z))
      | _ => false)
    | _ => false)
  | _, _ => true
def plainTg : Expr → Bool
  | .Name .. => true
  | .Tuple .. => true
  | _ => false
def repB (T : Tab) (f : String) (v : Nat) (k : E) (c : Nat) (S : Sc) (w : Expr) : Bool := match w with
  | .BoolOp .And [.Call (.Name i _) [.Name x1 _, .Name st _] [] _, .Compare (.Call (.Name ln _) [.Name x2 _] [] _) [.LtE] [kx] _, .Call (.Name y _) [.Call (.Attribute (.Name x3 _) m apos) [.Constant (.str c1) _ _, .Constant (.str c2) _ _] [] cpos] [] _] _ =>
    decide (("isinstance" : Str) = i) && (glB S.sc i && (decide (nm "str" = st) && (glB S.sc st && (nmB st && (decide (("len" : Str) = ln) && (glB S.sc ln && (decide (x1 = x2) && (decide (x1 = x3) && (decide (S.N[v]? = some x1) && (visB S.sc x1 && (nmB x1 &&
      (decide (nm f = y) && (glB S.sc y && (nmB y && ((T.fn ("", f)).isSome && (decide (("replace" : Str) = m) && ((apos.endLine == cpos.line) && (decide (c1 = tx [c]) && (decide (c2 = tx []) && (!behindInMarks .LtE kx && mE T k S kx))))))))))))))))))))
  | _ => false
mutual
def mS (T : Tab) : S → Sc → Stmt → Bool
  | .nope, _, _ => true
  | .skip, _, st => (match st with
    | .Pass _ => true
    | _ => false)
  | .set t e, S, st => (match st with
    | .Assign [tg] v _ => plainTg tg && (tgB S t tg && (mE T e S v && swB S t tg v))
    | _ => false)
  | .seta o f e, S, st => (match st with
    | .Assign [.Attribute x m _] v _ => decide (nm f = m) && (mE T o S x && mE T e S v)
    | _ => false)
  | .seti o i e, S, st => (match st with
    | .Assign [.Subscript x y _] v _ => notSl y && (!isLC v && (mE T o S x && (mE T i S y && mE T e S v)))
    | _ => false)
  | .aug op i e, S, st => (match st with
    | .AugAssign (.Name x _) op' v _ => decide (op = .Add) && (decide (op' = .Add) && (stB S i x && mE T e S v))
    | _ => false)
  | .ifs c a b, S, st => (match st with
    | .If x body orelse _ => mE T c S x && (mSs T a S body && mSs T b S orelse)
    | _ => false)
  | .for_ t k its body, S, st => (match st with
    | .For tg i bd [] _ => tgB S t tg && (notSet i && (mI T S k its tg i && mSs T body S bd))
    | _ => false)
  | .ret e, S, st => (match st with
    | .Return (some x) _ => mE T e S x
    | _ => false)
  | .retr f v k c, S, st => (match st with
    | .Return (some x) _ => repB T f v k c S x
    | _ => false)
  | .ret0, _, st => (match st with
    | .Return none _ => true
    | _ => false)
  | .ex e, S, st => (match st with
    | .Expr x _ => !isLC x && mE T e S x
    | _ => false)
  | .try_ b, S, st => (match st with
    | .Try body (_ :: _) [] [] _ => mSs T b S body
    | _ => false)
  | .raise C es, S, st => (match es, st with
    | .cons e .nil, .Raise (some (.Call (.Name y _) [x] [] _)) none _ => decide (nm C = y) && (glB S.sc y && (nmB y && ((match T.exc C with
      | some x => x.fld.length == 1
      | none => false) && (nsB [x] && mE T e S x))))
    | _, _ => false)
  | .brk, _, st => (match st with
    | .Break _ => true
    | _ => false)
  | .cont, _, st => (match st with
    | .Continue _ => true
    | _ => false)
  | _, _, _ => false
termination_by structural s => s
def mSs (T : Tab) : S → Sc → List Stmt → Bool
  | .nope, _, _ => true
  | .skip, _, sts => (match sts with
    | [] => true
    | _ => false)
  | .seq a b, S, sts => (match sts with
    | st :: rest => mS T a S st && mSs T b S rest
    | [] => false)
  | _, _, _ => false
termination_by structural s => s
end
section
variable {X : Cx} {W : WX} {S : Sc} {T : Tab} {j : Nat}
theorem sw_ok {env : PySem.Env} {sc : Scope} (hs : env.scope = sc) {ts vs : List Expr} {k k' : Nat} {p p' : Pos} {r : Option (List Str)} (h : swR sc ts vs = some r) : swappedStores [.Tuple ts k p] (.Tuple vs k' p') env = pure r := by
  subst hs
  unfold swR at h
  unfold swappedStores
  dsimp only at h ⊢
  split at h
  · rename_i q
    cases h
    exact if_pos q
  · rename_i q
    refine (if_neg q).trans ?_
    split at h
    · rename_i q2
      cases h
      exact if_pos q2
    · rename_i q2
      refine (if_neg q2).trans ?_
      split at h
      · rename_i q3
        cases h
        exact if_pos q3
      · rename_i q3
        refine (if_neg q3).trans ?_
        split at h
        · rename_i q4
          cases h
          exact if_pos q4
        · rename_i q4
          refine (if_neg q4).trans ?_
          split at h
          · cases h
          · rename_i q5
            cases h
            exact if_neg q5
theorem sole_no {tg v : Expr} {line : Nat} {env : PySem.Env} (h : isLC v = false) : swapsWithSole [tg] v line env = pure false := by
  cases v <;> first
    | rfl
    | cases h
theorem drop_no {v : Expr} {line : Nat} {env : PySem.Env} (h : isLC v = false) : swapsWith v none line env = pure false := by
  cases v <;> first
    | rfl
    | cases h
theorem att_no {v x : Expr} {m : Str} {p : Pos} {line : Nat} {env : PySem.Env} : swapsWith v (some (.Attribute x m p)) line env = pure false := by
  cases v <;> rfl
theorem ended {o : O} : (o.then_ fun env hd => .nx env hd) = o := by cases o <;> rfl
/-- with what a loop asks -/
structure OkS (X : Cx) (W : WX) (T : Tab) (j : Nat) : Prop where
  ok : Okx X W T j
  hp : PassesOwn (model X.prog X.w) X.A X.env X.xe
/-- the same body, where nothing may be raised -/
theorem OkS.nox (o : OkS X W T j) : OkS X.nox WF T j := ⟨⟨o.ok.room, o.ok.hc, o.ok.hN, fun u s' x => by
  obtain ⟨_, _, _, _, _, _, _, _, _, _, _, _, _, _, _, _, z⟩ := x
  exact z, o.ok.tb⟩, .never⟩
theorem calmO_ok {D : Ends} {ρ : Rh} {H : Hp} {o : O} (k : KO X.K X.mg W D ρ H o.calmO) : KO X.K X.mg WF D ρ H o := by
  cases o with
  | exc C fs env h => exact k.elim
  | _ => exact k
/-- try: .. except ..: .., where nothing is raised -/
theorem ps_tryZ {body : List Stmt} {h₀ : ExceptHandler} {hs : List ExceptHandler} {pos : Pos} {m : Env → Hd → O} (h : PSs X.nox body (rdS X.K X.mg WF m)) : PS X (.Try body (h₀ :: hs) [] [] pos) (rdS X.K X.mg W fun env hd => (m env hd).calmO) :=
  (ps_try_thru0 h).imp fun D σ H ⟨ρ, env, hd, re, mo, k⟩ => ⟨ρ, env, hd, re, mo, calmO_ok k⟩
theorem set_plain {t : Tg} {e : E} {tg v : Expr} {p : Pos} (f : Fit X S j) (o : Okx X W T j) (h1 : plainTg tg = true) (h2 : tgB S t tg = true) (h3 : mE T e S v = true) (h4 : swB S t tg v = true) (hl : swapsWithSole [tg] v p.line X.env = pure false) :
    PS X (.Assign [tg] v p) (rdS X.K X.mg W (evS ⟨T, callF T j⟩ (.set t e))) := by
  have s := (snd_E T j e S v X W h3 f o).pe
  have hg := tg_ok (own := tgI t) f o.hN o.hc h2 fun i hi => hi
  have h1' : (assignEach [tg] X.env).map (·.2) = [assign tg X.env] := by
    cases tg <;> first
      | rfl
      | cases h1
  by_cases hh : swappedStores [tg] v X.env = pure none
  · exact ps_setZ s hg hl hh h1'
  · unfold swB at h4
    split at h4
    · rename_i ts k p1 vs k2 p2
      split at h4
      · rename_i hr
        exact absurd (sw_ok f.sc hr) hh
      · rename_i x y hr
        have hw := sw_ok (k := k) (k' := k2) (p := p1) (p' := p2) f.sc hr
        split at h4
        · rename_i i l
          obtain ⟨a1, h4⟩ := and_t h4
          obtain ⟨a2, a3⟩ := and_t h4
          refine (ps_swap2Z o.hN o.hc (st_ok f a2) (st_ok f a3) (dec_t a1) s hl hw).imp fun D σ H ⟨ρ, env, hd, re, mo, q⟩ => ⟨ρ, env, hd, re, mo, ?_⟩
          cases e <;> first
            | (unfold mE at h3; cases h3; done)
            | (unfold mE at h3; simp at h3; done)
            | skip
          rename_i es _
          have q : KO X.K X.mg W D ρ H (((evEs ⟨T, callF T j⟩ es env hd).bind fun xs hd => if xs.length ≤ Z.line then R.ok (Z.D.tup xs) hd else .bad).to env fun v hd => match storeS (.names [i, l]) v env hd with | some env => .nx env hd | none => .bad) := q
          show KO X.K X.mg W D ρ H (((evEs ⟨T, callF T j⟩ es env hd).bind fun xs hd => if xs.length ≤ Z.line then R.ok (Z.D.tup xs) hd else .bad).to env fun v hd => if isTup v = true then match storeS (.names [i, l]) v env hd with | some env => .nx env hd | none => .bad else .bad)
          cases hes : evEs ⟨T, callF T j⟩ es env hd with
          | ok xs h' =>
            rw [hes] at q
            dsimp only [R.bind] at q ⊢
            split at q
            · rename_i hx
              rw [if_pos hx]
              exact q
            · exact q.elim
          | exc C fs h' => rw [hes] at q; exact q
          | bad => rw [hes] at q; exact q
        · cases h4
      · rename_i x y z hr
        have hw := sw_ok (k := k) (k' := k2) (p := p1) (p' := p2) f.sc hr
        split at h4
        · rename_i i l u
          obtain ⟨a1, h4⟩ := and_t h4
          obtain ⟨a2, h4⟩ := and_t h4
          obtain ⟨a3, a4⟩ := and_t h4
          have a1 := dec_t a1
          refine (ps_swap3Z o.hN o.hc (st_ok f a2) (st_ok f a3) (st_ok f a4) a1.1 a1.2.1 a1.2.2 s hl hw).imp fun D σ H ⟨ρ, env, hd, re, mo, q⟩ => ⟨ρ, env, hd, re, mo, ?_⟩
          cases e <;> first
            | (unfold mE at h3; cases h3; done)
            | (unfold mE at h3; simp at h3; done)
            | skip
          rename_i es _
          have q : KO X.K X.mg W D ρ H (((evEs ⟨T, callF T j⟩ es env hd).bind fun xs hd => if xs.length ≤ Z.line then R.ok (Z.D.tup xs) hd else .bad).to env fun v hd => match storeS (.names [i, l, u]) v env hd with | some env => .nx env hd | none => .bad) := q
          show KO X.K X.mg W D ρ H (((evEs ⟨T, callF T j⟩ es env hd).bind fun xs hd => if xs.length ≤ Z.line then R.ok (Z.D.tup xs) hd else .bad).to env fun v hd => if isTup v = true then match storeS (.names [i, l, u]) v env hd with | some env => .nx env hd | none => .bad else .bad)
          cases hes : evEs ⟨T, callF T j⟩ es env hd with
          | ok xs h' =>
            rw [hes] at q
            dsimp only [R.bind] at q ⊢
            split at q
            · rename_i hx
              rw [if_pos hx]
              exact q
            · exact q.elim
          | exc C fs h' => rw [hes] at q; exact q
          | bad => rw [hes] at q; exact q
        · cases h4
      · cases h4
    · rename_i hno
      refine absurd ?_ hh
      unfold swappedStores
      cases tg <;> first
        | (cases h1; done)
        | (cases v <;> first
            | rfl
            | exact absurd rfl (hno _ _ _ _ _ _ rfl))
theorem set_ok' {t : Tg} {e : E} {tg v : Expr} {p : Pos} (f : Fit X S j) (o : Okx X W T j) (h1 : plainTg tg = true) (h2 : tgB S t tg = true) (h3 : mE T e S v = true) (h4 : swB S t tg v = true) :
    PS X (.Assign [tg] v p) (rdS X.K X.mg W (evS ⟨T, callF T j⟩ (.set t e))) := by
  cases hv : isLC v with
  | false => exact set_plain f o h1 h2 h3 h4 (sole_no hv)
  | true =>
    cases v with
    | ListComp elt gens scope pos =>
      cases tg with
      | Name y py =>
        cases hb : (X.env.blockKind == ScopeKind.function && X.env.kindOf y == some NameKind.local && py.line == pos.line && !(scope.names.any fun x => x.1 == y && (x.2 == .local || x.2 == .cell))) with
        | false =>
          refine set_plain f o h1 h2 h3 h4 ?_
          show (pure (X.env.blockKind == ScopeKind.function && X.env.kindOf y == some NameKind.local && py.line == pos.line && !(scope.names.any fun x => x.1 == y && (x.2 == .local || x.2 == .cell))) : Sem Bool) = pure false
          rw [hb]
        | true =>
          have hsw : swapsWith (.ListComp elt gens scope pos) (some (.Name y py)) p.line X.env = pure true := by
            show (pure (X.env.blockKind == ScopeKind.function && X.env.kindOf y == some NameKind.local && py.line == pos.line && !(scope.names.any fun x => x.1 == y && (x.2 == .local || x.2 == .cell))) : Sem Bool) = pure true
            rw [hb]
          obtain ⟨hb, _⟩ := and_t hb
          obtain ⟨hb, _⟩ := and_t hb
          obtain ⟨_, hb⟩ := and_t hb
          have hyl : X.env.scope.names.lookup y = some .local := by
            have : X.env.kindOf y = some .local := by simpa using hb
            exact this
          cases t with
          | name i =>
            have hy := (st_ok f h2).at_
            cases e <;> first
              | (unfold mE at h3; cases h3; done)
              | (unfold mE at h3; simp at h3; done)
              | skip
            rename_i m el own tgg k its ifs
            have h3' := h3
            unfold mE at h3'
            split at h3'
            · rename_i w hq
              cases hq
              obtain ⟨⟨q1, q2, q3⟩, q4, q5, q6⟩ := lc_ok f o h3 (fun xs hx => snd_Es T j its S xs X W hx f o) (fun X' f' o' hx => snd_Es T j ifs _ _ X' WF hx f' o') (fun X' f' o' hx => snd_E T j el _ _ X' WF hx f' o')
              have q := ps_setLcZ (m := m) (pos := pos) (spos := p) o.hc o.hN hy hyl hsw q1 q2 q3 q4 q5 q6
              rw [own_map] at q
              exact q.imp fun D σ H h => name_read h
            · cases h3'
          | names is => cases h2
          | star is i => unfold tgB at h2; split at h2 <;> simp_all
      | _ =>
        refine set_plain f o h1 h2 h3 h4 ?_
        first
          | rfl
          | cases h1
    | DictComp kx vx gens scope pos =>
      cases tg with
      | Name y py =>
        cases hb : (X.env.blockKind == ScopeKind.function && X.env.kindOf y == some NameKind.local && py.line == pos.line && !(scope.names.any fun x => x.1 == y && (x.2 == .local || x.2 == .cell))) with
        | false =>
          refine set_plain f o h1 h2 h3 h4 ?_
          show (pure (X.env.blockKind == ScopeKind.function && X.env.kindOf y == some NameKind.local && py.line == pos.line && !(scope.names.any fun x => x.1 == y && (x.2 == .local || x.2 == .cell))) : Sem Bool) = pure false
          rw [hb]
        | true =>
          have hsw : swapsWith (.DictComp kx vx gens scope pos) (some (.Name y py)) p.line X.env = pure true := by
            show (pure (X.env.blockKind == ScopeKind.function && X.env.kindOf y == some NameKind.local && py.line == pos.line && !(scope.names.any fun x => x.1 == y && (x.2 == .local || x.2 == .cell))) : Sem Bool) = pure true
            rw [hb]
          obtain ⟨hb, _⟩ := and_t hb
          obtain ⟨hb, _⟩ := and_t hb
          obtain ⟨_, hb⟩ := and_t hb
          have hyl : X.env.scope.names.lookup y = some .local := by
            have : X.env.kindOf y = some .local := by simpa using hb
            exact this
          cases t with
          | name i =>
            have hy := (st_ok f h2).at_
            cases e <;> first
              | (unfold mE at h3; cases h3; done)
              | (unfold mE at h3; simp at h3; done)
              | skip
            rename_i ek el own tgg k its ifs
            have h3' := h3
            unfold mE at h3'
            split at h3'
            · rename_i w hq
              cases hq
              obtain ⟨⟨q1, q2, q3⟩, q4, ⟨q5, q6⟩, q7⟩ := dc_ok f o h3 (fun xs hx => snd_Es T j its S xs X W hx f o) (fun X' f' o' hx => snd_Es T j ifs _ _ X' WF hx f' o') (fun X' f' o' hx => snd_E T j ek _ _ X' WF hx f' o') (fun X' f' o' hx => snd_E T j el _ _ X' WF hx f' o')
              have q := ps_setDcZ (pos := pos) (spos := p) o.hc o.hN hy hyl hsw q1 q2 q3 q4 q5 q6 q7
              rw [own_map] at q
              exact q.imp fun D σ H h => name_read h
            · cases h3'
          | names is => cases h2
          | star is i => unfold tgB at h2; split at h2 <;> simp_all
      | _ =>
        refine set_plain f o h1 h2 h3 h4 ?_
        first
          | rfl
          | cases h1
    | SetComp _ _ _ _ => cases e <;> (unfold mE at h3; simp at h3)
    | _ => cases hv
theorem rep_tx (z : List Nat) (c : Nat) : Txt.replace (tx z) (tx [c]) (tx []) = tx (z.filter (· != c)) := by
  have h := replace_strikes (tx z) c
  have e : (Txt.replace (tx z) (tx [c]) (tx [])).cps.toList = z.filter (· != c) := by
    refine h.trans ?_
    rw [tx_toList]
  rw [← e, tx_of]
/-- the last two parts: len(x) <= k and f(x.replace(c, '')), x a text -/
theorem rep_in {fn : String} {v c : Nat} {k : E} {x : Str} {kx : Expr} {p0 p1 p2 p3 p4 p5 p6 p7 p8 p9 apos cpos : Pos} {j1 j2 : Nat} (f : Fit X S j) (o : Okx X W T j) (hl : glB S.sc "len" = true) (hN : S.N[v]? = some x) (hv : visB S.sc x = true) (hx : nmB x = true) (hy : glB S.sc (nm fn) = true) (hyn : nmB (nm fn) = true)
    (hf : (T.fn ("", fn)).isSome = true) (hline : (apos.endLine == cpos.line) = true) (hm : behindInMarks .LtE kx = false) (hk : mE T k S kx = true) :
    PE X (.BoolOp .And [.Compare (.Call (.Name "len" p1) [.Name x p2] [] p3) [.LtE] [kx] p4, .Call (.Name (nm fn) p5) [.Call (.Attribute (.Name x p6) "replace" apos) [.Constant (.str (tx [c])) j1 p7, .Constant (.str (tx [])) j2 p8] [] cpos] [] p9] p0)
      (rd X.K X.mg W fun env hd => match env[v]? with
        | some (some (.str z)) => if z.length ≤ Z.line then (evE ⟨T, callF T j⟩ k env hd).bind fun y hd => (cmpS ⟨T, callF T j⟩ .LtE (.int z.length) y hd).st.bind fun r hd => match r with
          | .bl t => if t then (if z.length ≤ 1000000 then callF T j ("", fn) [.str (z.filter (· != c))] [] hd else .bad) else .ok (.bl false) hd
          | _ => .bad
          else .bad
        | _ => .bad) := by
  refine ⟨fun pins s σ H Q I ⟨ρ, env, hd, re, mo, q⟩ => ?_⟩
  have gl := gl_ok f hl
  have gm := o.tb.free "len" (by decide)
  have hvN : X.N[v]? = some x := by rw [f.N]; exact hN
  have hvis : Vis X.env.scope x := by rw [f.sc]; exact vis_ok hv
  obtain ⟨d1, d2⟩ := nm_ok hx
  have pv : ∀ {p : Pos}, PE X (.Name x p) (tVar v) := fun {p} => pe_var hvN hvis d1 d2
  dsimp only at q
  split at q
  · rename_i z e
    split at q
    · rename_i hz
      obtain ⟨u0, e0, r0⟩ := re.at_ v _ e
      cases r0
      -- len(x) <= k: a token is out
      refine BoolOp_and (wpAny_mono (Q := fun u s1 => 1 ≤ s1.toks ∧ ∃ H1 ρ1 h1 t, Inv X pins σ H1 s1 ∧ u = Value.bool t ∧ REnv X.K X.mg ρ1 H1 env σ ∧ MOk X.K X.mg ρ1 H1 h1 ∧ Kt X.K X.mg W σ ρ1 H1 (if t then (if z.length ≤ 1000000 then callF T j ("", fn) [.str (z.filter (· != c))] [] h1 else .bad) else .ok (.bl false) h1) (fun d h ρ' H' => ∀ v, RD X.K X.mg ρ' H' d v → Q v H')) (wpAny_Compare1 ?_ hm) (fun u s1 q1 => ?_) fun _ _ z => z)
      · refine wpAny_mono (Q := fun u s1 => 1 ≤ s1.toks ∧ Inv X pins σ H s1 ∧ RelV (.int z.length) u) (wpAny_Call_Name_kw (ld_blt I gl gm boot_len (PyProof.Rows.callWith_builtin1 (rest := []) ?_ (ns_cons fun y p z => by cases z) rfl) (by decide) (by decide))) (fun u s1 ⟨h0, I1, r1⟩ => ?_) fun _ _ z => z
        · show wpAny _ _ (spliced (backTo _ (starEach [.Name x p2] X.env))) _ _ _
          rw [ns_cons (es := []) (env := X.env) (e := .Name x p2) fun y p z => by cases z]
          refine Calls.spliced_cons (thn ((pv (p := p2)).run pins s σ H (fun w H' => w = .str (tx z) ∧ H' = H) I ⟨_, e0, rfl, rfl⟩) fun u s1 ⟨w, H', I1, r1, ew, eh⟩ => ?_)
          subst ew eh
          obtain ⟨tk, rfl⟩ := (show ∃ t, u = Value.str (tx z) t from r1)
          refine Calls.spliced_nil ?_
          refine len_str (by have hz1 : (tx z).length ≤ sizeLine := hz; have := line63; omega) ⟨by show 1 ≤ s1.toks + 1 + 1; omega, I1.tok _, _, rfl⟩
        · refine wpAny_mono (wpAny_toks_of h0 ((snd_E T j k S kx X W hk f o).pe.run pins s1 σ H (fun w H' => ∃ ρ1 h1 dy, REnv X.K X.mg ρ1 H' env σ ∧ MOk X.K X.mg ρ1 H' h1 ∧ RD X.K X.mg ρ1 H' dy w ∧
            OkR (cmpS ⟨T, callF T j⟩ .LtE (.int z.length) dy h1) (fun r h2 => ∀ ρ' H2, Ext ρ1 H' ρ' H2 → MOk X.K X.mg ρ' H2 h2 → Kt X.K X.mg W σ ρ' H2 (match r with
              | .bl t => if t then (if z.length ≤ 1000000 then callF T j ("", fn) [.str (z.filter (· != c))] [] h2 else .bad) else .ok (.bl false) h2
              | _ => .bad) (fun d h ρ' H' => ∀ v, RD X.K X.mg ρ' H' d v → Q v H'))) I1 ⟨ρ, env, hd, re, mo, q.bind.imp fun y h1 ρ1 H1 ⟨e1, m1, k1⟩ w rw => ⟨ρ1, h1, y, re.ext e1, m1, rw, ?_⟩⟩)) (fun u2 s2 q2 => ?_) fun _ _ z => z.2
          · have k2 := (Kt.st (kt_bind k1))
            exact k2.imp fun r h2 k3 ρ' H2 e2 m2 => (k3 ρ' H2 e2 m2).2.2
          · obtain ⟨h2, w2, H2, I2, r2, ρ2, hh2, dy, re2, m2, rd2, k2⟩ := q2
            refine wpAny_mono (wpAny_toks_of h2 (cmpF o.gr .LtE pins s2 σ H2 (.int z.length) w2 u u2 (fun w H3 => ∃ ρ3 h3 t, w = .bl t ∧ REnv X.K X.mg ρ3 H3 env σ ∧ MOk X.K X.mg ρ3 H3 h3 ∧ Kt X.K X.mg W σ ρ3 H3 (if t then (if z.length ≤ 1000000 then callF T j ("", fn) [.str (z.filter (· != c))] [] h3 else .bad) else .ok (.bl false) h3) (fun d h ρ' H' => ∀ v, RD X.K X.mg ρ' H' d v → Q v H')) I2 r1 r2
              ⟨ρ2, hh2, .int z.length, dy, m2, .int _, rd2, k2.imp fun r h3 k3 ρ3 H3 e3 m3 w rw => ?_⟩)) (fun u3 s3 q3 => ?_) fun _ _ z => z.2
            · have k4 := k3 ρ3 H3 e3 m3
              cases r with
              | bl t =>
                cases rw
                exact ⟨ρ3, h3, t, rfl, re2.ext e3, m3, k4⟩
              | _ => exact k4.elim
            · obtain ⟨h3, w3, H3, I3, r3, ρ3, hh3, t, ew, re3, m3, k3⟩ := q3
              subst ew
              exact ⟨h3, H3, ρ3, hh3, t, I3, r3, re3, m3, k3⟩
      · obtain ⟨h0, H1, ρ1, h1, t, I1, rfl, re1, m1, k1⟩ := q1
        refine wpAny_truthy_bool ?_
        cases t with
        | false => exact ⟨.bl false, H1, I1, rfl, k1 ρ1 H1 .refl m1 _ (.bl false)⟩
        | true =>
          have k1 : Kt X.K X.mg W σ ρ1 H1 (if z.length ≤ 1000000 then callF T j ("", fn) [.str (z.filter (· != c))] [] h1 else .bad) (fun d h ρ' H' => ∀ v, RD X.K X.mg ρ' H' d v → Q v H') := k1
          split at k1
          · rename_i hz2
            obtain ⟨fd, hfd⟩ := Option.isSome_iff_exists.mp hf
            obtain ⟨a, c1, c2, c3⟩ := o.fn fn fd hfd
            refine BoolOp_one (wpAny_Call_Name_kw (ld_glob I1 (gl_ok f hy) c1 (PySem.W.callWith_K (h₀ := X.base) I1.ok.mod.kin c2 ?_ (ns_cons fun y p z => by cases z) rfl) (nm_ok hyn).1))
            show wpAny _ _ (spliced (backTo _ (starEach [_] X.env))) _ _ _
            rw [ns_cons (es := []) (env := X.env) (e := .Call (.Attribute (.Name x p6) "replace" apos) [.Constant (.str (tx [c])) j1 p7, .Constant (.str (tx [])) j2 p8] [] cpos) fun y p z => by cases z]
            obtain ⟨u1, e1, r1⟩ := re1.at_ v _ e
            cases r1
            refine Calls.spliced_cons (thn (CwR.pet_replC (pv (p := p6)) (by
              show ((⟨#[c]⟩ : Str) == (⟨#[]⟩ : Str)) = false
              rfl) rfl rfl hline pins s1 σ H1 (fun w H' => w = .str (tx (z.filter (· != c))) ∧ H' = H1) h0 I1 ⟨_, e1, tx z, rfl, by show z.length + (z.length + 1) * 0 ≤ _; omega, by rw [rep_tx], rfl⟩) fun u2 s2 ⟨w, H', I2, r2, ew, eh⟩ => Calls.spliced_nil ⟨I2.kIn, ?_⟩)
            subst ew eh
            exact c3 pins s2 σ H' [] [u2] [] [.str (tx (z.filter (· != c)))] [] ρ1 h1 [.str (z.filter (· != c))] [] Q I2 (.cons r2 .nil) .nil rfl m1 (.cons (.str _) .nil) .nil k1
          · exact k1.elim
    · exact q.elim
  · exact q.elim
theorem m_rep {fn : String} {v c : Nat} {k : E} {w : Expr} (f : Fit X S j) (o : Okx X W T j) (h : repB T fn v k c S w = true) : PE X w (rd X.K X.mg W fun env hd => repS ⟨T, callF T j⟩ fn v c (fun env hd => evE ⟨T, callF T j⟩ k env hd) env hd) := by
  unfold repB at h
  split at h
  · obtain ⟨h1, h⟩ := and_t h
    obtain ⟨h2, h⟩ := and_t h
    obtain ⟨h3, h⟩ := and_t h
    obtain ⟨h4, h⟩ := and_t h
    obtain ⟨h5, h⟩ := and_t h
    obtain ⟨h6, h⟩ := and_t h
    obtain ⟨h7, h⟩ := and_t h
    obtain ⟨h8, h⟩ := and_t h
    obtain ⟨h9, h⟩ := and_t h
    obtain ⟨h10, h⟩ := and_t h
    obtain ⟨h11, h⟩ := and_t h
    obtain ⟨h12, h⟩ := and_t h
    obtain ⟨h13, h⟩ := and_t h
    obtain ⟨h14, h⟩ := and_t h
    obtain ⟨h15, h⟩ := and_t h
    obtain ⟨h16, h⟩ := and_t h
    obtain ⟨h17, h⟩ := and_t h
    obtain ⟨h18, h⟩ := and_t h
    obtain ⟨h19, h⟩ := and_t h
    obtain ⟨h20, h⟩ := and_t h
    obtain ⟨h21, h22⟩ := and_t h
    cases dec_t h1
    cases dec_t h6
    cases dec_t h8
    cases dec_t h9
    cases dec_t h13
    cases dec_t h17
    cases dec_t h19
    cases dec_t h20
    refine (pe_andZ (isi_ok (a := .var v) (own := false) (c := "str") (W := W) f o h2 rfl h4 (dec_t h3) (show decide ("str" ∈ isNames) = true by decide) h5 (snd_val (var_ok (g := ⟨T, callF T j⟩) f (dec_t h10) h11 h12) (fun _ => rfl) (fun _ _ _ z => by cases z)))
      (rep_in f o h7 (dec_t h10) h11 h12 h14 h15 h16 h18 (by simpa using h21) h22)).imp fun σ H Q ⟨ρ, env, hd, re, mo, q⟩ => ⟨ρ, env, hd, re, mo, ?_⟩
    unfold repS at q
    dsimp only at q
    have hE : evE ⟨T, callF T j⟩ (.isi (.var v) false "str") env hd = ((match env[v]? with | some (some v) => R.ok v hd | _ => .bad) : R Z.D).bind fun x hd => (R.of (isiS ⟨T, callF T j⟩ false "str" x hd) hd).bind fun b hd => R.ok (Z.D.bl b) hd := rfl
    dsimp only
    rw [hE]
    split at q
    · rename_i x e
      rw [e]
      dsimp only [R.bind]
      cases hi : isiS ⟨T, callF T j⟩ false "str" x hd with
      | none =>
        rw [hi] at q
        exact q.elim
      | some b =>
        rw [hi] at q
        cases b with
        | false => exact q
        | true =>
          cases x with
          | str z => exact q
          | _ => exact q.elim
    · exact q.elim
  · cases h
mutual
theorem snd_S (T : Tab) (j : Nat) : ∀ (a : Z.S) (S : Sc) (st : Stmt) (X : Cx) (W : WX), mS T a S st = true → Fit X S j → OkS X W T j → PS X st (rdS X.K X.mg W (evS ⟨T, callF T j⟩ a))
  | .nope, S, st, X, W, h, f, o => ps_nope
  | .skip, S, st, X, W, h, f, o => by
    unfold mS at h
    split at h
    · exact ps_passZ
    · cases h
  | .seq _ _, S, st, X, W, h, f, o => by
    unfold mS at h
    cases h
  | .set t e, S, st, X, W, h, f, o => by
    unfold mS at h
    split at h
    · obtain ⟨h1, h⟩ := and_t h
      obtain ⟨h2, h⟩ := and_t h
      obtain ⟨h3, h4⟩ := and_t h
      exact set_ok' f o.ok h1 h2 h3 h4
    · cases h
  | .seta ob fl e, S, st, X, W, h, f, o => by
    unfold mS at h
    split at h
    · obtain ⟨h1, h⟩ := and_t h
      obtain ⟨h2, h3⟩ := and_t h
      have h1 := dec_t h1
      subst h1
      exact ps_setaZ (g := ⟨T, callF T j⟩) o.ok.tb.tf (snd_E T j e S _ X W h3 f o.ok).pe (snd_E T j ob S _ X W h2 f o.ok).pe att_no
    · cases h
  | .seti ob i e, S, st, X, W, h, f, o => by
    unfold mS at h
    split at h
    · rename_i x y ap v p
      obtain ⟨h1, h⟩ := and_t h
      obtain ⟨h2, h⟩ := and_t h
      obtain ⟨h3, h⟩ := and_t h
      obtain ⟨h4, h5⟩ := and_t h
      have h2 : isLC v = false := by simpa using h2
      refine ps_setiZ (snd_E T j e S _ X W h5 f o.ok).pe (snd_E T j ob S _ X W h3 f o.ok).pe (snd_E T j i S _ X W h4 f o.ok).pe (fun v => ?_) (sole_no h2) ?_ rfl
      · cases y <;> first
          | rfl
          | cases h1
      · unfold swappedStores
        cases v <;> rfl
    · cases h
  | .aug op i e, S, st, X, W, h, f, o => by
    unfold mS at h
    split at h
    · obtain ⟨h1, h⟩ := and_t h
      obtain ⟨h2, h⟩ := and_t h
      obtain ⟨h3, h4⟩ := and_t h
      have h1 := dec_t h1
      have h2 := dec_t h2
      subst h1
      subst h2
      exact ps_augAdd o.ok.hN (st_ok f h3) (snd_E T j e S _ X W h4 f o.ok).pe
    · cases h
  | .ifs c a b, S, st, X, W, h, f, o => by
    unfold mS at h
    split at h
    · obtain ⟨h1, h⟩ := and_t h
      obtain ⟨h2, h3⟩ := and_t h
      exact ps_ifZ (snd_E T j c S _ X W h1 f o.ok).pt (snd_Ss T j a S _ X W h2 f o) (snd_Ss T j b S _ X W h3 f o)
    · cases h
  | .for_ t k its body, S, st, X, W, h, f, o => by
    unfold mS at h
    split at h
    · obtain ⟨h1, h⟩ := and_t h
      obtain ⟨h2, h⟩ := and_t h
      obtain ⟨h3, h4⟩ := and_t h
      exact ps_forZ o.hp o.ok.hc (it_ok f o.ok h3 fun xs hx => snd_Es T j its S xs X W hx f o.ok) (tg_ok (own := tgI t) f o.ok.hN o.ok.hc h1 fun i hi => hi) (snd_Ss T j body S _ X W h4 f o) (set_ok h2)
    · cases h
  | .while_ _ _ _, S, st, X, W, h, f, o => by
    unfold mS at h
    cases h
  | .ret e, S, st, X, W, h, f, o => by
    unfold mS at h
    split at h
    · exact ps_retZ (snd_E T j e S _ X W h f o.ok).pe
    · cases h
  | .retr fn v k c, S, st, X, W, h, f, o => by
    unfold mS at h
    split at h
    · exact ps_retZ (m_rep f o.ok h)
    · cases h
  | .ret0, S, st, X, W, h, f, o => by
    unfold mS at h
    split at h
    · exact ps_retNZ
    · cases h
  | .ex e, S, st, X, W, h, f, o => by
    unfold mS at h
    split at h
    · obtain ⟨h1, h2⟩ := and_t h
      exact ps_exZ (snd_E T j e S _ X W h2 f o.ok).pe (drop_no (by simpa using h1))
    · cases h
  | .raise C (.cons e .nil), S, st, X, W, h, f, o => by
    unfold mS at h
    split at h
    · rename_i w
      cases w
      obtain ⟨h1, h⟩ := and_t h
      obtain ⟨h2, h⟩ := and_t h
      obtain ⟨h3, h⟩ := and_t h
      obtain ⟨h4, h⟩ := and_t h
      obtain ⟨h5, h6⟩ := and_t h
      have h1 := dec_t h1
      subst h1
      split at h4
      · rename_i x ex
        have ns : ∀ y, e ≠ .star y := fun y z => by
          rw [z] at h6
          unfold mE at h6
          cases h6
        obtain ⟨fl, efl⟩ : ∃ fl, x.fld = [fl] := by
          match hx : x.fld with
          | [fl] => exact ⟨fl, rfl⟩
          | [] => rw [hx] at h4; cases h4
          | _ :: _ :: _ => rw [hx] at h4; cases h4
        refine (o.ok.tb.rs C x fl ex efl X W _ (evE ⟨T, callF T j⟩ e) _ _ _ rfl rfl rfl rfl rfl o.ok.hc o.ok.tk ⟨o.ok.room.hd, by have := o.ok.room.dp; omega, by have := o.ok.room.un; omega⟩ (gl_ok f h2) (nm_ok h3).1 (ns_cons (ns_head h5).1) (snd_E T j e S _ X W h6 f o.ok).pe).imp fun E σ H ⟨ρ, env, hd, re, mo, k⟩ => ⟨ρ, env, hd, re, mo, ?_⟩
        have k : KO X.K X.mg W E ρ H ((evEs ⟨T, callF T j⟩ (.cons e .nil) env hd).to env fun xs hd => match T.exc C with
          | some x => if xs.length = 1 ∧ x.fld.length = 1 then .exc C (x.fld.zip xs) env hd else .bad
          | none => .bad) := k
        rw [evEs_cons ns, ex] at k
        dsimp only
        cases ee : evE ⟨T, callF T j⟩ e env hd with
        | bad => rw [ee] at k; exact k
        | exc C' fs h => rw [ee] at k; exact k
        | ok d h =>
          rw [ee] at k
          have k : KO X.K X.mg W E ρ H (if ([d] : List Z.D).length = 1 ∧ x.fld.length = 1 then O.exc C (x.fld.zip [d]) env h else .bad) := k
          rw [efl, if_pos ⟨rfl, rfl⟩] at k
          exact k
      · cases h4
    · cases h
  | .raise C .nil, S, st, X, W, h, f, o => by
    unfold mS at h
    split at h
    · rename_i w
      cases w
    · cases h
  | .raise C (.cons _ (.cons _ _)), S, st, X, W, h, f, o => by
    unfold mS at h
    split at h
    · rename_i w
      cases w
    · cases h
  | .try_ b, S, st, X, W, h, f, o => by
    unfold mS at h
    split at h
    · exact ps_tryZ (snd_Ss T j b S _ X.nox WF h ⟨f.sc, f.N, f.fn, f.lm⟩ o.nox)
    · cases h
  | .brk, S, st, X, W, h, f, o => by
    unfold mS at h
    split at h
    · exact ps_brkZ
    · cases h
  | .cont, S, st, X, W, h, f, o => by
    unfold mS at h
    split at h
    · exact ps_contZ
    · cases h
termination_by structural s => s
theorem snd_Ss (T : Tab) (j : Nat) : ∀ (a : Z.S) (S : Sc) (sts : List Stmt) (X : Cx) (W : WX), mSs T a S sts = true → Fit X S j → OkS X W T j → PSs X sts (rdS X.K X.mg W (evS ⟨T, callF T j⟩ a))
  | .nope, S, sts, X, W, h, f, o => pss_nope
  | .skip, S, sts, X, W, h, f, o => by
    unfold mSs at h
    split at h
    · exact pss_nilZ
    · cases h
  | .seq a b, S, sts, X, W, h, f, o => by
    unfold mSs at h
    split at h
    · obtain ⟨h1, h2⟩ := and_t h
      exact pss_consZ (snd_S T j a S _ X W h1 f o) (snd_Ss T j b S _ X W h2 f o)
    · cases h
  | .set _ _, S, sts, X, W, h, f, o => by
    unfold mSs at h
    cases h
  | .seta _ _ _, S, sts, X, W, h, f, o => by
    unfold mSs at h
    cases h
  | .seti _ _ _, S, sts, X, W, h, f, o => by
    unfold mSs at h
    cases h
  | .aug _ _ _, S, sts, X, W, h, f, o => by
    unfold mSs at h
    cases h
  | .ifs _ _ _, S, sts, X, W, h, f, o => by
    unfold mSs at h
    cases h
  | .for_ _ _ _ _, S, sts, X, W, h, f, o => by
    unfold mSs at h
    cases h
  | .while_ _ _ _, S, sts, X, W, h, f, o => by
    unfold mSs at h
    cases h
  | .ret _, S, sts, X, W, h, f, o => by
    unfold mSs at h
    cases h
  | .retr _ _ _ _, S, sts, X, W, h, f, o => by
    unfold mSs at h
    cases h
  | .ret0, S, sts, X, W, h, f, o => by
    unfold mSs at h
    cases h
  | .ex _, S, sts, X, W, h, f, o => by
    unfold mSs at h
    cases h
  | .raise _ _, S, sts, X, W, h, f, o => by
    unfold mSs at h
    cases h
  | .try_ _, S, sts, X, W, h, f, o => by
    unfold mSs at h
    cases h
  | .brk, S, sts, X, W, h, f, o => by
    unfold mSs at h
    cases h
  | .cont, S, sts, X, W, h, f, o => by
    unfold mSs at h
    cases h
termination_by structural s => s
end
end
end Z
/-! Z24: ==, !=, str, repr and bool of an instance of the table. -/
namespace ZN
open PySem PySem.W
section
variable {prog : Program} {w : World} {A : Around} {E : Value → Shared → Prop} {s : Shared} {K : Frag} {x C f : Addr} {ox : Obj} {od : Option Obj} {b tb : Value}
theorem bound {id : String} {n : Str} {us : List Value} {M : Model} {Q : Option Value → Shared → Prop} (kin : K.In s.heap) (inst : InstAt s.heap x ox C od) (at_ : findIn K (.ref C) n = some (some (.builtin id)))
    (bd : ∀ v, bindSpecial (.builtin id) v = pure (.builtin id, [v])) (run : wpAny M A (call (.builtin id) (.ref x :: us)) (fun v => Q (some v)) E s) : wpAny M A (callSpecialIfBound? (.ref x) n us) Q E s := by
  have last : wpAny M A (call (.builtin id) ([.ref x] ++ us) >>= fun v => pure (some v)) Q E s :=
    wpAny_bind (wpAny_mono run (fun v s' q => wpAny_pure q) fun _ _ q => q)
  simp only [callSpecialIfBound?, bindSpecialIfBound?]
  refine wpAny_holding (wpAny_bind (wpAny_bind (wpAny_bind (inst.type.here (Looks.here (looks_findIn kin at_) ?_)))))
  simp only [bd]
  refine wpAny_bind (wpAny_askSetting (wpAny_ite ?_))
  split
  · exact wpAny_bind (wpAny_pure (wpAny_pure last))
  · refine wpAny_tryCatch ?_
    exact wpAny_bind (wpAny_pure (wpAny_pure last))
theorem slotted {id owner n : String} {us : List Value} {M : Model} {Q : Unit → Shared → Prop} (kd : builtinKind id = some .slot) (sp : splitId id = some (owner, n)) (ar : argsOk id ⟨.ref x :: us, []⟩) (kin : K.In s.heap) (inst : InstAt s.heap x ox C od)
    (sub : mroIn K C (.type owner) = some true) (q : Q () s) : wpAny M A (checkBuiltinCall id ⟨.ref x :: us, []⟩) Q E s := by
  have li : Looks M s.heap (isInstance (.ref x) (.type owner)) true := Looks.andThen inst.type (looks_mroIn kin sub)
  simp only [checkBuiltinCall, kd, sp]
  refine wpAny_bind (li.here ?_)
  simp only [Bool.not_true, Bool.false_eq_true, if_false]
  cases sg : Manifest.signature? id with
  | none => exact wpAny_pure q
  | some t =>
    simp only [argsOk, sg] at ar
    have ar : Bind.checkArgs id t ⟨.ref x :: us, []⟩ = pure () := ar
    show wpAny M A (Bind.checkArgs id t ⟨.ref x :: us, []⟩) Q E _
    rw [ar]
    exact wpAny_pure q
theorem neBody {Q : Fin → Shared → Prop} (un : A.units < cLine) (kin : K.In s.heap) (inst : InstAt s.heap x ox C od) (eq : findIn K (.ref C) "__eq__" = some (some (.ref f))) (fn : isFn K (.ref f) = true)
    (run : wpAny (model prog w) A (call (.ref f) [.ref x, b]) (fun v s' => ∃ t, v = .bool t ∧ Q (.done (.ret (.bool (!t)))) s') E s) : wpAny (model prog w) A (Builtin.«object.__ne__» ⟨[.ref x, b], []⟩) Q E s := by
  unfold Builtin.«object.__ne__»
  refine wpAny_bind (wpAny_pure ?_)
  refine wpAny_bind (wpAny_cRoomFor un ?_)
  refine wpAny_bind (m := callSpecialIfBound? (.ref x) (Str.ofString "__eq__") [b]) (ifBound_K kin inst eq fn (wpAny_mono run (fun v s' q => ?_) fun _ _ z => z))
  obtain ⟨t, rfl, q⟩ := q
  refine wpAny_bind (wpAny_truthy_bool ?_)
  exact wpAny_pure q
theorem neK {Q : Value → Shared → Prop} (un : A.units + 1 < cLine) (kin : K.In s.heap) (inst : InstAt s.heap x ox C od) (tyb : Looks (model prog w) s.heap (typeOf b) tb) (nf : notFirst K C tb = true)
    (ne : findIn K (.ref C) "__ne__" = some (some (.builtin "object.__ne__"))) (eq : findIn K (.ref C) "__eq__" = some (some (.ref f))) (fn : isFn K (.ref f) = true) (sub : mroIn K C (.type "object") = some true)
    (run : wpAny (model prog w) A.in1 (call (.ref f) [.ref x, b]) (fun v s' => ∃ t, v = .bool t ∧ Q (.bool (!t)) s') E s) : wpAny (model prog w) A (richCompare .NotEq (.ref x) b) Q E s := by
  have core : wpAny (model prog w) A (tryCompare (.ref x) "__ne__" b) (fun r s' => ∃ v, r = some v ∧ Q v s') E s := by
    simp only [tryCompare]
    refine wpAny_bind (bound kin inst ne F.cmp_object.ne.bind (wpAny_call (codeAny_call_builtin F.cmp_object.ne.plain F.cmpEntry_ne (slotted F.cmpKind_ne F.cmpSplit_ne (F.cmpArgs_ne _ _) kin inst sub
      (neBody (A := A.in1) un kin inst eq fn (wpAny_mono run (fun v s' q => ?_) fun _ _ z => z))))))
    obtain ⟨t, rfl, q⟩ := q
    first
      | exact ⟨t, rfl, wpAny_pure ⟨_, rfl, q⟩⟩
      | exact ⟨t, rfl, ⟨_, rfl, q⟩⟩
      | exact ⟨t, rfl, wpAny_pure (wpAny_pure ⟨_, rfl, q⟩)⟩
  have fin : ∀ {r : Option Value} {s' : Shared}, (∃ v, r = some v ∧ Q v s') → wpAny (model prog w) A (match r with | some v => pure v | none => pure .none) Q E s' := fun ⟨v, e, q⟩ => by
    subst e
    exact wpAny_pure q
  unfold richCompare
  simp only [oneThing_ref]
  refine wpAny_holding (wpAny_bind (wpAny_cRoomFor (Nat.lt_of_succ_lt un) (wpAny_bind (Looks.here inst.type (wpAny_bind (tyb.here ?_))))))
  split
  · rename_i hne
    have ns : subIn K tb (.ref C) = some false := by
      have h := Bool.or_eq_true_iff.mp nf
      cases h with
      | inl h =>
        rw [beq_iff_eq.mp h] at hne
        simp at hne
      | inr h => exact beq_iff_eq.mp h
    refine wpAny_bind (Looks.here (looks_subIn kin ns) ?_)
    simp only [Bool.false_eq_true, if_false]
    exact wpAny_bind (wpAny_mono core (fun r s' ⟨v, e, q⟩ => by subst e; exact wpAny_pure q) fun _ _ z => z)
  · refine wpAny_bind (wpAny_pure ?_)
    simp only [Bool.false_eq_true, if_false]
    exact wpAny_bind (wpAny_mono core (fun r s' ⟨v, e, q⟩ => by subst e; exact wpAny_pure q) fun _ _ z => z)
/-- bool(x) by the truth of x -/
theorem boolMeets (a : Addr) : Meets (Builtin.«bool.__new__» ⟨[.type "bool", .ref a], []⟩) (fun _ R s => (∀ (M : Model) (A : Around) (E : Value → Shared → Prop) (Q : Bool → Shared → Prop), Q true s → wpAny M A (truthy (.ref a)) Q E s) ∧ R (.ok (.ret (.bool true))) s) :=
  Meets.of_wp fun prog w A R s hs => by
    obtain ⟨ht, hs⟩ := hs
    have sb := F.conv_sub_bool
    repeat (any_goals (first | assumption | (with_reducible refine ht _ _ _ _ ?_) | wp_step))
    all_goals first | exact ⟨_, rfl, hs⟩ | exact hs | skip
end
end ZN
/-! Z24b: == of two tuples, told by what is left of both (P) and by what holds once two items differed (J). -/
namespace ZN
open PySem
/-- of two lists that lie side by side: a pair and the rest, or one is at its end -/
theorem zip_cut {α β : Type} {p : α × β} {t : List (α × β)} : ∀ {us : List α} {ws : List β}, p :: t = us.zip ws → ∃ us' ws', us = p.1 :: us' ∧ ws = p.2 :: ws' ∧ t = us'.zip ws'
  | _ :: us', _ :: ws', e => by cases e; exact ⟨us', ws', rfl, rfl, rfl⟩
  | [], _, e => by cases e
  | _ :: _, [], e => by cases e
theorem zip_end {α β : Type} : ∀ {us : List α} {ws : List β}, [] = us.zip ws → us = [] ∨ ws = []
  | [], _, _ => .inl rfl
  | _ :: _, [], _ => .inr rfl
  | _ :: _, _ :: _, e => by cases e
abbrev Left2 : Type := List Value → List Value → Shared → Prop
section
variable {pr : Program} {wo : World} {Ar : Around} {P : Left2} {J : Shared → Prop} {p q : Addr} {as bs : Array Value}
theorem tups_body {R : Result → Shared → Prop} (turn : ∀ x us y ws z, P (x :: us) (y :: ws) z → wpAny (model pr wo) Ar.in1 (eqBool x y) (fun r z' => r = true ∧ P us ws z' ∨ r = false ∧ J z') (fun e z' => R (.error e) z') z)
    (stop : ∀ us ws z, P us ws z → us = [] ∨ ws = [] → R (.ok (.ret (.bool (us.length == ws.length)))) z) (odd : ∀ z, J z → R (.ok (.ret (.bool false))) z)
    {z : Shared} {o1 o2 : Obj} {m1 m2 : Nat} (e1 : o1.cls = .type "tuple" ∧ o1.data = .seq as m1) (e2 : o2.cls = .type "tuple" ∧ o2.data = .seq bs m2) (lp : z.heap.get? p = some o1) (lq : z.heap.get? q = some o2) (st : P as.toList bs.toList z) :
    wpAny (model pr wo) Ar.in1 (Builtin.«tuple.__eq__» ⟨[.ref p, .ref q], []⟩) (GQ.FinOf pr wo Ar R) (fun e z' => R (.error e) z') z := by
  obtain ⟨_, _, _, _⟩ := o1
  obtain ⟨_, _, _, _⟩ := o2
  obtain ⟨rfl, rfl⟩ := e1
  obtain ⟨rfl, rfl⟩ := e2
  have sub := AutoSeq1.sub_tuple_tuple
  have st0 := st
  cases z
  wp_walk using AutoSeq1.wpAny_loadPart' lp, AutoSeq1.wpAny_loadPart' lq,
    wpAny_forIn_list _ (fun t b z' => (∃ us ws, b.1 = none ∧ t = us.zip ws ∧ as.size + ws.length = bs.size + us.length ∧ P us ws z') ∨ (b.1 = some (.done (.ret (.bool false))) ∧ t = [] ∧ J z')) _
  case turn =>
    intro pair t b z' k
    rcases k with ⟨us, ws, e, cut, len, k⟩ | ⟨_, e, _⟩
    · obtain ⟨us', ws', rfl, rfl, rfl⟩ := zip_cut cut
      refine wpAny_bind (wpAny_mono (turn _ _ _ _ _ k) (fun r z2 k2 => ?_) fun _ _ k2 => k2)
      rcases k2 with ⟨rfl, k2⟩ | ⟨rfl, k2⟩ <;> wp_walk
      · exact .inl ⟨us', ws', rfl, rfl, by simp only [List.length_cons] at len; omega, k2⟩
      · exact odd _ k2
    · cases e
  case fin =>
    intro b z' k
    obtain ⟨b1, b2⟩ := b
    rcases k with ⟨us, ws, e, cut, len, k⟩ | ⟨e, _, k⟩
    · cases (show b1 = none from e)
      have fi := stop _ _ _ k (zip_end cut)
      have same : (us.length == ws.length) = (as.size == bs.size) := by
        rw [Bool.eq_iff_iff, beq_iff_eq, beq_iff_eq]
        omega
      rw [same] at fi
      wp_walk
      exact fi
    · cases (show b1 = _ from e)
      have fi := odd _ k
      wp_walk
      exact fi
  case h => exact .inl ⟨_, _, rfl, rfl, by simp [Nat.add_comm], st0⟩
theorem tups_eq {E : Value → Shared → Prop} {Q : Value → Shared → Prop} {z : Shared} (room : Ar.units < cLine) (tp : z.heap.IsTuple p as) (tq : z.heap.IsTuple q bs)
    (turn : ∀ x us y ws z, P (x :: us) (y :: ws) z → wpAny (model pr wo) Ar.in1 (eqBool x y) (fun r z' => r = true ∧ P us ws z' ∨ r = false ∧ J z') E z)
    (stop : ∀ us ws z, P us ws z → us = [] ∨ ws = [] → Q (.bool (us.length == ws.length)) z) (odd : ∀ z, J z → Q (.bool false) z) (st : P as.toList bs.toList z) :
    wpAny (model pr wo) Ar (richCompare .Eq (.ref p) (.ref q)) Q E z := by
  obtain ⟨o1, g1, c1, m1, d1⟩ := tp
  obtain ⟨o2, g2, c2, m2, d2⟩ := tq
  have body := tups_body (R := wants (fun v z' => v ≠ .notImplemented ∧ Q v z') E) turn (fun us ws z' k e => ⟨by simp, stop us ws z' k e⟩) (fun z' k => ⟨by simp, odd z' k⟩) ⟨c1, d1⟩ ⟨c2, d2⟩ g1 g2 st
  have t1 : z.TypeIs (.ref p) "tuple" := ⟨o1, g1, c1⟩
  have t2 : z.TypeIs (.ref q) "tuple" := ⟨o2, g2, c2⟩
  have here := GQ.call_here F.slot_tuple_eq t1 F.entry_tuple_eq (F.args_tuple_eq_2 (.ref p) (.ref q)) body
  exact wpAny_richCompare_same_room (op := .Eq) t1 t2 F.slot_tuple_eq here room
end
end ZN
/-! Z24t: == of tuples of instances. -/
namespace Z
open PySem L2 PySem.Spec PyProof.Rows
section
variable {K : PySem.W.Frag} {mg : MG} {ρ : Rh} {H : Hp}
theorem immD_ref {y : D} {a : Addr} (r : RD K mg ρ H y (.ref a)) : immD y = 4 := by
  cases r <;> rfl
mutual
theorem diff_no : ∀ (x y : D) (v : V), RD K mg ρ H x v → RD K mg ρ H y v → diffD x y = false
  | .non, y, v, r, q => by
    cases r
    cases q
    rfl
  | .bl b, y, v, r, q => by
    cases r
    cases q
    simp [diffD]
  | .int b, y, v, r, q => by
    cases r
    cases q
    simp [diffD]
  | .str b, y, v, r, q => by
    generalize hv : v = v' at q
    cases r
    cases q with
    | str c =>
      have e : tx b = tx c := by
        have := hv
        injection this
      have e : b = c := by
        have h := congrArg (fun z => z.cps.toList) e
        simpa using h
      simp [diffD, e]
    | _ => cases hv
  | .tup xs, y, v, r, q => by
    cases r with
    | tup n h p =>
      cases q with
      | tup n2 h2 p2 =>
        rw [h] at h2
        cases h2
        exact diff_nos xs _ _ p p2
      | _ => simp [diffD, immD]
  | .ins C fs, y, v, r, q => by
    cases r with
    | ins n g h p =>
      cases q with
      | ins n2 g2 h2 p2 =>
        rw [h] at h2
        cases h2
        exact diff_nof fs _ _ p p2
      | _ => simp [diffD, immD]
  | .lst _, _, _, _, _ => rfl
  | .dic _, _, _, _, _ => rfl
  | .exc _ _, _, _, _, _ => rfl
  | .glo _, _, _, _, _ => rfl
  | .ty _, _, _, _, _ => rfl
  | .obj _, _, _, _, _ => rfl
  | .row _, _, _, _, _ => rfl
theorem diff_nos : ∀ (xs ys : List D) (vs : List V), RDs K mg ρ H xs vs → RDs K mg ρ H ys vs → diffL xs ys = false
  | [], ys, vs, r, q => by
    cases r
    cases q
    rfl
  | x :: xs, ys, vs, r, q => by
    cases r with
    | cons r1 r2 =>
      cases q with
      | cons q1 q2 =>
        show (diffD x _ || diffL xs _) = false
        rw [diff_no x _ _ r1 q1, diff_nos xs _ _ r2 q2]
        rfl
theorem diff_nof : ∀ (xs ys : List (String × D)) (vs : List (PySem.Str × V)), RDf K mg ρ H xs vs → RDf K mg ρ H ys vs → diffF xs ys = false
  | [], ys, vs, r, q => rfl
  | (f, x) :: xs, ys, vs, r, q => by
    generalize hv : vs = vs' at q
    cases r with
    | cons r1 r2 =>
      cases q with
      | nil => cases hv
      | cons q1 q2 =>
        injection hv with h1 h2
        injection h1 with _ h1
        subst h1 h2
        show (diffD x _ || diffF xs _) = false
        rw [diff_no x _ _ r1 q1, diff_nof xs _ _ r2 q2]
        rfl
end
end
end Z
/-! Z24: the special methods of the table's classes. -/
namespace Z
open PySem L2 PySem.Spec PyProof.Rows
section
variable {X : Cx} {T : Tab} {j : Nat}
theorem RoomZ.in2 {k : Nat} {A : Around} (r : RoomZ k A) : RoomY k A.in1.in1 :=
  ⟨r.hd, by have := r.dp; show A.depth + 24 * k + 5 < _; omega, by have := r.un; show A.units + 1 + 1 + 128 * k + 230 < _; omega, r.g⟩
theorem callA_tb {A : Around} {p : Addr} {key : String × String} (h : ∀ fd, T.fn key = some fd → ∃ FD, Shapes fd FD ∧ ∀ i, i < j → FnZ X.prog X.w X.K X.mg X.base T i fd p FD) (hr : RoomY j A) (hA : A.frames = X.A.frames) : CallA X A p (fun ds hd => callF T j key ds [] hd) := by
  cases j with
  | zero => exact fun pins s σ H us vs ρ hd ds Q I r mo rd k => k.elim
  | succ j =>
    cases hT : T.fn key with
    | none =>
      intro pins s σ H us vs ρ hd ds Q I r mo rd k
      have k : OkR (callF T (j + 1) key ds [] hd) (Fin X.K X.mg ρ H Q) := k
      rw [callF_eq, hT] at k
      exact k.elim
    | some fd =>
      obtain ⟨FD, hs, hF⟩ := h fd hT
      exact callA_of (hF j (Nat.lt_succ_self _)) hs hT hr hA
theorem run_A {A : Around} {p : Addr} {S : List D → Hd → R D} {pins : List (Addr × Obj)} {σ : L2.St} {H : Hp} {s : Shared} {Q : VK} {E' : Value → Shared → Prop} {us : List Value} {vs : List V} {ρ : Rh} {hd : Hd} {ds : List D} (hc : CallA X A p S) (I : Inv X pins σ H s) (r : Vals vs us) (mo : MOk X.K X.mg ρ H hd) (rd : RDs X.K X.mg ρ H ds vs)
    (k : OkR (S ds hd) (Fin X.K X.mg ρ H Q)) : wpAny (model X.prog X.w) A (call (.ref p) us) (EP X pins σ Q) E' s :=
  wpAny_call (codeAny_mono (hc pins s σ H us vs ρ hd ds Q I r mo rd k) fun r s' hq => by
    cases r with
    | error e => exact hq.elim
    | ok fl => cases fl with
      | ret u => exact hq
      | _ => exact hq.elim)
/-- the methods -/
abbrev MeT (P : Program) (w : World) (K : PySem.W.Frag) (mg : MG) (base : Heap) (T : Tab) (j : Nat) : Prop := ∀ C c m, T.cl C = some c → c.own.lookup m = some .meth → ∃ a p, mg (nm C) = some (.ref a) ∧ Cls K a ∧ Meth K a (nm m) p ∧ ∀ fd, T.fn (C, m) = some fd → ∃ FD, Shapes fd FD ∧ ∀ i, i < j → FnZ P w K mg base T i fd p FD
theorem typ_ok {pins : List (Addr × Obj)} {σ : L2.St} {H : Hp} {s : Shared} {g : G} {C : String} {c : Cl} {a : Addr} {y : D} {v : V} {u : Value} {ρ : Rh} {hd : Hd} (tf : TF X.K X.mg g.T) (F : ClsF X.K X.mg C c a) (hc : g.T.cl C = some c) (I : Inv X pins σ H s) (mo : MOk X.K X.mg ρ H hd) (r : RD X.K X.mg ρ H y v) (ru : RelV v u)
    (k : cmpOk g y hd = true) : ∃ tb, PySem.W.Looks (model X.prog X.w) s.heap (typeOf u) tb ∧ PySem.W.notFirst X.K a tb = true := by
  unfold cmpOk at k
  split at k
  · rename_i t e
    obtain ⟨h1, h2⟩ := tyX_of mo r e
    obtain ⟨P, KX, hp, _⟩ := kit_of I ru h2
    exact ⟨_, KX.ty _ _ I.kIn hp, F.nf t h1⟩
  · split at k
    · rename_i C' e
      obtain ⟨b, c', dx, gs, rfl, h1, h2⟩ := ins_of mo r e
      obtain rfl : u = Value.ref b := ru
      obtain ⟨mA, O, _⟩ := ins_get I.hok h2
      obtain ⟨od, J, _⟩ := O.look
      obtain ⟨cl, hcl⟩ := Option.isSome_iff_exists.mp k
      exact ⟨_, J.type, tf.nf2 C c C' cl a c' hc hcl F.mg_ h1⟩
    · cases k
/-- an instance of the table, its method m -/
theorem own_at {m : String} {pins : List (Addr × Obj)} {σ : L2.St} {H : Hp} {s : Shared} {C : String} {c : Cl} {fs : List (String × D)} {v : V} {u : Value} {ρ : Rh} (tf : TF X.K X.mg T) (me : MeT X.prog X.w X.K X.mg X.base T j) (hc : T.cl C = some c) (hm : c.own.lookup m = some .meth) (I : Inv X pins σ H s) (r : RD X.K X.mg ρ H (.ins C fs) v) (ru : RelV v u) :
    ∃ (x a p : Addr) (od : Addr × Obj), u = .ref x ∧ v = .ref x ∧ ClsF X.K X.mg C c a ∧ Meth X.K a (nm m) p ∧ PySem.W.InstAt s.heap x (PySem.W.instObj a od.1) a (some od.2) ∧ ∀ fd, T.fn (C, m) = some fd → ∃ FD, Shapes fd FD ∧ ∀ i, i < j → FnZ X.prog X.w X.K X.mg X.base T i fd p FD := by
  obtain ⟨a, p, h1, h2, h3, h4⟩ := me C c m hc hm
  obtain ⟨a', F⟩ := tf.cl C c hc
  have e : a = a' := by
    have := h1.symm.trans F.mg_
    cases this
    rfl
  subst e
  cases r with
  | ins n g h q =>
    rename_i x ca dx gs
    have e : ca = a := by
      have := g.symm.trans h1
      cases this
      rfl
    subst e
    obtain ⟨mA, O, _⟩ := ins_get I.hok h
    obtain ⟨od, J, _⟩ := O.look
    exact ⟨x, ca, p, (dx, od), ru, rfl, F, h3, J, h4⟩
theorem own_eq (tf : TF X.K X.mg T) (me : MeT X.prog X.w X.K X.mg X.base T j) (hr : RoomZ j X.A) : OpR X (compareOp .Eq) (r2 X.K X.mg (onI2 fun x y hd => (eqS ⟨T, callF T j⟩ x y hd).bind fun b hd => .ok (.bl b) hd)) := by
  intro pins s σ H x y v u Q I rx ry ⟨ρ, hd, dx, dy, mo, r1, r2, k⟩
  unfold onI2 at k
  split at k
  · rename_i C fs
    obtain ⟨b, h1, e1, k⟩ := okR_bind k
    unfold eqS at e1
    dsimp only at e1
    split at e1
    · rename_i c hc
      split at e1
      · rename_i hh
        obtain ⟨xa, a, p, od, rfl, rfl, F, M, J, hF⟩ := own_at tf me hc hh.1 I r1 rx
        obtain ⟨tb, lk, nf⟩ := typ_ok (g := ⟨T, callF T j⟩) tf F hc I mo r2 ry hh.2
        obtain ⟨m, hFr⟩ := I.fr
        have hu : X.A.units < cLine := by have := hr.un; omega
        show wpAny _ _ (richCompare .Eq (.ref xa) u) _ _ _
        refine PySem.W.cmp_K (op := .Eq) (tb := tb) hu hFr I.ok.mod.kin J lk nf M.at_ M.fn ?_
        obtain ⟨d, h2, e2, e3⟩ := ok_bind e1
        refine wpAny_mono (run_A (Q := fun v H' => ∃ b, v = .bl b ∧ Q (.bl b) H') (callA_tb hF hr.y rfl) I (.cons rx (.cons ry .nil)) mo (.cons r1 (.cons r2 .nil)) ?_) (fun z s' hz => ?_) fun _ _ z => z
        · show OkR (callF T j (C, "__eq__") [.ins C fs, dy] [] hd) _
          rw [e2]
          intro ρ' H' e m' v rv
          split at e3
          · cases e3
            cases rv
            exact ⟨_, rfl, k ρ' H' e m' _ (.bl _)⟩
          · cases e3
        · obtain ⟨v, H', I', rz, b, ev, q⟩ := hz
          subst ev
          exact SlX.cmpback rz ⟨.bl b, H', I', rz, q⟩
      · cases e1
    · cases e1
  · exact absurd k id
theorem own_eqA (tf : TF X.K X.mg T) (me : MeT X.prog X.w X.K X.mg X.base T j) (hr : RoomZ j X.A) {pins : List (Addr × Obj)} {σ : L2.St} {H : Hp} {s : Shared} {C : String} {fs : List (String × D)} {y : D} {v w : V} {u u2 : Value} {ρ : Rh} {hd h1 : Hd} {b : Bool} {E' : Value → Shared → Prop}
    (I : Inv X pins σ H s) (rx : RelV v u) (ry : RelV w u2) (mo : MOk X.K X.mg ρ H hd) (r1 : RD X.K X.mg ρ H (.ins C fs) v) (r2 : RD X.K X.mg ρ H y w) (e1 : ownEq ⟨T, callF T j⟩ C (.ins C fs) y hd = .ok b h1) :
    wpAny (model X.prog X.w) X.A.in1 (richCompare .Eq u u2) (fun z s' => z = .bool b ∧ ∃ ρ' H', Inv X pins σ H' s' ∧ Z.Ext ρ H ρ' H' ∧ MOk X.K X.mg ρ' H' h1) E' s := by
  unfold ownEq at e1
  split at e1
  · rename_i c hc
    split at e1
    · rename_i hh
      obtain ⟨xa, a, p, od, rfl, rfl, F, M, J, hF⟩ := own_at tf me hc hh.1 I r1 rx
      obtain ⟨tb, lk, nf⟩ := typ_ok (g := ⟨T, callF T j⟩) tf F hc I mo r2 ry hh.2
      obtain ⟨m, hFr⟩ := I.fr
      have hu : X.A.in1.units < cLine := by have := hr.un; show X.A.units + 1 < cLine; omega
      refine PySem.W.cmp_K (op := .Eq) (tb := tb) hu hFr I.ok.mod.kin J lk nf M.at_ M.fn ?_
      obtain ⟨d, h2, e2, e3⟩ := ok_bind e1
      refine wpAny_mono (run_A (Q := fun v H' => v = .bl b ∧ ∃ ρ', Z.Ext ρ H ρ' H' ∧ MOk X.K X.mg ρ' H' h1) (callA_tb hF hr.in1 rfl) I (.cons rx (.cons ry .nil)) mo (.cons r1 (.cons r2 .nil)) ?_) (fun z s' hz => ?_) fun _ _ z => z
      · show OkR (callF T j (C, "__eq__") [.ins C fs, y] [] hd) _
        have e2 : callF T j (C, "__eq__") [.ins C fs, y] [] hd = .ok d h2 := e2
        rw [e2]
        intro ρ' H' e m' v rv
        split at e3
        · cases e3
          cases rv
          exact ⟨rfl, ρ', e, m'⟩
        · cases e3
      · obtain ⟨v, H', I', rz, ev, ρ', e, m'⟩ := hz
        subst ev
        obtain rfl : z = Value.bool b := rz
        exact SlX.cmpback (z := .bl b) rfl ⟨rfl, ρ', H', I', e, m'⟩
    · cases e1
  · cases e1
theorem own_eqT (tf : TF X.K X.mg T) (me : MeT X.prog X.w X.K X.mg X.base T j) (hr : RoomZ j X.A) : OpR X (compareOp .Eq) (r2 X.K X.mg (onT2 fun xs ys hd => (eqI ⟨T, callF T j⟩ xs ys hd).bind fun b hd => .ok (.bl b) hd)) := by
  intro pins s σ H x y v u Q I rx ry ⟨ρ, hd, dx, dy, mo, r1, r2, k⟩
  unfold onT2 at k
  split at k
  · rename_i xs ys
    obtain ⟨b, h1, e1, k⟩ := okR_bind k
    have kf : Fin X.K X.mg ρ H Q (.bl b) h1 := k
    cases r1 with
    | tup n1 ha p1 =>
      cases r2 with
      | tup n2 hb p2 =>
        rename_i a vs a2 ws
        obtain rfl : v = Value.ref a := rx
        obtain rfl : u = Value.ref a2 := ry
        obtain ⟨_, its, q1, t1⟩ := (show ObjOk X.prog X.w H s.heap a (.tup vs) from I.hok a _ ha)
        obtain ⟨_, its2, q2, t2⟩ := (show ObjOk X.prog X.w H s.heap a2 (.tup ws) from I.hok a2 _ hb)
        have hu : X.A.units < cLine := by have := hr.un; omega
        show wpAny _ _ (richCompare .Eq (.ref a) (.ref a2)) _ _ _
        -- what is left of both at each turn
        refine ZN.tups_eq (P := fun us ws z => ∃ ρ' H' as bs vs ws', Inv X pins σ H' z ∧ Z.Ext ρ H ρ' H' ∧ MOk X.K X.mg ρ' H' hd ∧ RDs X.K X.mg ρ' H' as vs ∧ RDs X.K X.mg ρ' H' bs ws' ∧ Vals vs us ∧ Vals ws' ws ∧ eqI ⟨T, callF T j⟩ as bs hd = .ok b h1)
          (J := fun z => ∃ ρ' H', Inv X pins σ H' z ∧ Z.Ext ρ H ρ' H' ∧ MOk X.K X.mg ρ' H' hd ∧ b = false ∧ h1 = hd) hu t1 t2 ?turn ?stop ?odd ⟨ρ, H, xs, ys, vs, ws, I, .refl, mo, p1, p2, q1, q2, e1⟩
        case odd =>
          intro z hz
          obtain ⟨ρ1, H1, I1, ex1, m1, rfl, rfl⟩ := hz
          exact ⟨.bl false, H1, I1, rfl, kf ρ1 H1 ex1 m1 _ (.bl false)⟩
        case stop =>
          intro us ws' z hz he
          obtain ⟨ρ1, H1, as, bs, vs1, ws1, I1, ex1, m1, a1, a2, v1, v2, e⟩ := hz
          have fin : b = (us.length == ws'.length) ∧ h1 = hd := by
            have g1 : as.length = us.length := a1.length.trans v1.length
            have g2 : bs.length = ws'.length := a2.length.trans v2.length
            rw [← g1, ← g2]
            rw [← List.length_eq_zero_iff, ← List.length_eq_zero_iff, ← g1, ← g2, List.length_eq_zero_iff, List.length_eq_zero_iff] at he
            cases as with
            | nil =>
              unfold eqI at e
              cases e
              cases bs <;> exact ⟨rfl, rfl⟩
            | cons x1 as =>
              cases bs with
              | nil =>
                unfold eqI at e
                cases e
                exact ⟨rfl, rfl⟩
              | cons _ _ => rcases he with he | he <;> cases he
          obtain ⟨rfl, rfl⟩ := fin
          exact ⟨.bl _, H1, I1, rfl, kf ρ1 H1 ex1 m1 _ (.bl _)⟩
        case turn =>
          intro u1 us u2 ws' s1 hz
          obtain ⟨ρ1, H1, as, bs, vs1, ws1, I1, ex1, m1, a1, a2, v1, v2, e⟩ := hz
          cases v1 with
          | cons ru1 v1 =>
            cases v2 with
            | cons ru2 v2 =>
              cases a1 with
              | cons rv1 a1 =>
                cases a2 with
                | cons rv2 a2 =>
                  unfold eqI at e
                  dsimp only at e
                  split at e
                  · rename_i C fs C' gs
                    split at e
                    · rename_i b1 h2 eo
                      split at e
                      · rename_i hh
                        obtain ⟨rfl, hb1⟩ := hh
                        have c1 := rv1
                        have c2 := rv2
                        cases c1 with
                        | ins n3 g3 ha3 q3 =>
                          cases c2 with
                          | ins n4 g4 ha4 q4 =>
                            rename_i xa c dx gs' xb c' dx' gs2
                            obtain rfl : u1 = Value.ref xa := ru1
                            obtain rfl : u2 = Value.ref xb := ru2
                            by_cases hne : xa = xb
                            · subst hne
                              have hd0 := diff_no _ _ _ rv1 rv2
                              have hb2 : b1 = true := by
                                rcases hb1 with h | h
                                · exact h
                                · rw [hd0] at h
                                  cases h
                              subst hb2
                              refine SeqAt.EqAt.same (A := X.A.in1) (s := s1) (.ref xa) X.prog X.w _ _ ?_
                              exact .inl ⟨rfl, ρ1, H1, _, _, _, _, I1, ex1, m1, a1, a2, v1, v2, e⟩
                            · refine GQ.eqBool_refG hne (wpAny_mono (own_eqA (v := .ref xa) (w := .ref xb) tf me hr I1 rfl rfl m1 rv1 rv2 eo) (fun z s2 hz => ?_) fun _ _ z => z)
                              obtain ⟨rfl, ρ2, H2, I2, ex2, m2⟩ := hz
                              refine ⟨b1, rfl, ?_⟩
                              cases b1 with
                              | true => exact .inl ⟨rfl, ρ2, H2, _, _, _, _, I2, ex1.trans ex2, m2, a1.ext ex2, a2.ext ex2, v1, v2, e⟩
                              | false =>
                                cases e
                                exact .inr ⟨rfl, ρ2, H2, I2, ex1.trans ex2, m2, rfl, rfl⟩
                      · cases e
                    · cases e
                  · cases e
  · exact absurd k id
theorem own_ne (tf : TF X.K X.mg T) (me : MeT X.prog X.w X.K X.mg X.base T j) (hr : RoomZ j X.A) : OpR X (compareOp .NotEq) (r2 X.K X.mg (onI2 fun x y hd => (eqS ⟨T, callF T j⟩ x y hd).bind fun b hd => .ok (.bl (!b)) hd)) := by
  intro pins s σ H x y v u Q I rx ry ⟨ρ, hd, dx, dy, mo, r1, r2, k⟩
  unfold onI2 at k
  split at k
  · rename_i C fs
    obtain ⟨b, h1, e1, k⟩ := okR_bind k
    unfold eqS at e1
    dsimp only at e1
    split at e1
    · rename_i c hc
      split at e1
      · rename_i hh
        obtain ⟨xa, a, p, od, rfl, rfl, F, M, J, hF⟩ := own_at tf me hc hh.1 I r1 rx
        obtain ⟨tb, lk, nf⟩ := typ_ok (g := ⟨T, callF T j⟩) tf F hc I mo r2 ry hh.2
        have hu : X.A.units + 1 < cLine := by have := hr.un; omega
        show wpAny _ _ (richCompare .NotEq (.ref xa) u) _ _ _
        refine ZN.neK hu I.kIn J lk nf (F.ne hh.1) M.at_ M.fn F.cmo ?_
        obtain ⟨d, h2, e2, e3⟩ := ok_bind e1
        refine wpAny_mono (run_A (Q := fun v H' => ∃ b, v = .bl b ∧ Q (.bl (!b)) H') (callA_tb hF hr.in1 rfl) I (.cons rx (.cons ry .nil)) mo (.cons r1 (.cons r2 .nil)) ?_) (fun z s' hz => ?_) fun _ _ z => z
        · show OkR (callF T j (C, "__eq__") [.ins C fs, dy] [] hd) _
          rw [e2]
          intro ρ' H' e m' v rv
          split at e3
          · cases e3
            cases rv
            exact ⟨_, rfl, k ρ' H' e m' _ (.bl _)⟩
          · cases e3
        · obtain ⟨v, H', I', rz, b, ev, q⟩ := hz
          subst ev
          obtain rfl : z = Value.bool b := rz
          exact ⟨b, rfl, .bl (!b), H', I', rfl, q⟩
      · cases e1
    · cases e1
  · exact absurd k id
theorem own_str (tf : TF X.K X.mg T) (me : MeT X.prog X.w X.K X.mg X.base T j) (hr : RoomZ j X.A) : CallR X (.type "str") (rN X.K X.mg (on1 (onI (strS ⟨T, callF T j⟩ false)))) := by
  intro pins s σ H xs us Q I rx h
  obtain ⟨x, rfl, ρ, hd, d, mo, r1, k⟩ := rN1 h
  obtain ⟨u, rfl, ru⟩ := rx.one
  unfold onI at k
  split at k
  · rename_i C fs
    have k : OkR (match T.cl C with
      | some c => if c.own.lookup "__str__" = some .meth then (callF T j (C, "__str__") [.ins C fs] [] hd).bind fun v hd => match v with
          | .str z => .ok (.str z) hd
          | _ => .bad
        else .bad
      | none => .bad) (Fin X.K X.mg ρ H Q) := k
    split at k
    · rename_i c hc
      split at k
      · rename_i hh
        obtain ⟨xa, a, p, od, rfl, rfl, F, M, J, hF⟩ := own_at tf me hc hh I r1 ru
        have hu : X.A.in1.in1.units < cLine := by have := hr.un; show X.A.units + 1 + 1 < _; omega
        refine PySem.W.kso_call hu I.kIn J M.at_ M.fn ?_
        obtain ⟨d, h2, e2, e3⟩ := okR_bind k
        refine wpAny_mono (run_A (Q := fun v H' => ∃ b, v = .str b ∧ Q (.str b) H') (callA_tb hF hr.in2 rfl) I (.cons ru .nil) mo (.cons r1 .nil) ?_) (fun z s' hz => ?_) fun _ _ z => z
        · show OkR (callF T j (C, "__str__") [.ins C fs] [] hd) _
          have e2 : callF T j (C, "__str__") [.ins C fs] [] hd = .ok d h2 := e2
          rw [e2]
          intro ρ' H' e m' v rv
          split at e3
          · cases rv
            exact ⟨_, rfl, e3 ρ' H' e m' _ (.str _)⟩
          · exact absurd e3 id
        · obtain ⟨v, H', I', rz, b, ev, q⟩ := hz
          subst ev
          obtain ⟨t, rfl⟩ := (show ∃ t, z = Value.str b t from rz)
          exact ⟨.str b, H', I', rz, q⟩
      · exact absurd k id
    · exact absurd k id
  · exact absurd k id
theorem own_repr (tf : TF X.K X.mg T) (me : MeT X.prog X.w X.K X.mg X.base T j) (hr : RoomZ j X.A) : CallR X (.builtin "repr") (rN X.K X.mg (on1 (onI (strS ⟨T, callF T j⟩ true)))) := by
  intro pins s σ H xs us Q I rx h
  obtain ⟨x, rfl, ρ, hd, d, mo, r1, k⟩ := rN1 h
  obtain ⟨u, rfl, ru⟩ := rx.one
  unfold onI at k
  split at k
  · rename_i C fs
    have k : OkR (match T.cl C with
      | some c => if c.own.lookup "__repr__" = some .meth then (callF T j (C, "__repr__") [.ins C fs] [] hd).bind fun v hd => match v with
          | .str z => .ok (.str z) hd
          | _ => .bad
        else .bad
      | none => .bad) (Fin X.K X.mg ρ H Q) := k
    split at k
    · rename_i c hc
      split at k
      · rename_i hh
        obtain ⟨xa, a, p, od, rfl, rfl, F, M, J, hF⟩ := own_at tf me hc hh I r1 ru
        have hu : X.A.in1.units < cLine := by have := hr.un; show X.A.units + 1 < _; omega
        obtain ⟨m, hFr⟩ := I.fr
        refine PySem.W.repr_K hu hFr I.ok.mod.kin J M.at_ M.fn ?_
        obtain ⟨d, h2, e2, e3⟩ := okR_bind k
        refine wpAny_mono (run_A (Q := fun v H' => ∃ b, v = .str b ∧ Q (.str b) H') (callA_tb hF hr.in1 rfl) I (.cons ru .nil) mo (.cons r1 .nil) ?_) (fun z s' hz => ?_) fun _ _ z => z
        · show OkR (callF T j (C, "__repr__") [.ins C fs] [] hd) _
          have e2 : callF T j (C, "__repr__") [.ins C fs] [] hd = .ok d h2 := e2
          rw [e2]
          intro ρ' H' e m' v rv
          split at e3
          · cases rv
            exact ⟨_, rfl, e3 ρ' H' e m' _ (.str _)⟩
          · exact absurd e3 id
        · obtain ⟨v, H', I', rz, b, ev, q⟩ := hz
          subst ev
          obtain ⟨t, rfl⟩ := (show ∃ t, z = Value.str b t from rz)
          exact ⟨.str b, H', I', rz, q⟩
      · exact absurd k id
    · exact absurd k id
  · exact absurd k id
theorem own_bool (tf : TF X.K X.mg T) : CallR X (.type "bool") (rN X.K X.mg (on1 (onI (boolS ⟨T, callF T j⟩)))) := by
  intro pins s σ H xs us Q I rx h
  obtain ⟨x, rfl, ρ, hd, d, mo, r1, k⟩ := rN1 h
  obtain ⟨u, rfl, ru⟩ := rx.one
  unfold onI at k
  split at k
  · rename_i C fs
    unfold boolS at k
    dsimp only at k
    split at k
    · rename_i c hc
      split at k
      · rename_i hh
        obtain ⟨a, F⟩ := tf.cl C c hc
        cases r1 with
        | ins n g h3 q =>
          rename_i x ca dx gs
          obtain rfl : u = Value.ref x := ru
          have e : ca = a := by
            have := g.symm.trans F.mg_
            cases this
            rfl
          subst e
          obtain ⟨mA, O, _⟩ := ins_get I.hok h3
          obtain ⟨od, J, _⟩ := O.look
          obtain ⟨m, hFr⟩ := I.fr
          exact call_bool_1 (ZN.boolMeets x) ⟨fun M A E Q q => PySem.W.truthy_K0 hFr I.ok.mod.kin J (F.nb hh.1) (F.nl hh.2) q, rfl, .bl true, H, I, rfl, Fin.same mo k (.bl true)⟩
      · exact absurd k id
    · exact absurd k id
  · exact absurd k id
theorem own_of (tf : TF X.K X.mg T) (me : MeT X.prog X.w X.K X.mg X.base T j) (hr : RoomZ j X.A) : Own X ⟨T, callF T j⟩ := ⟨own_str tf me hr, own_repr tf me hr, own_bool tf, own_eq tf me hr, own_eqT tf me hr, own_ne tf me hr⟩
end
end Z
/-! Z25: the law's end: from what its def does to the claim. -/
namespace Z
open PySem L2 PySem.Spec PyProof.Rows
section
variable {P : Program} {w : World} {K : PySem.W.Frag} {mg mb : MG} {fa a : Addr} {FD : FuncData} {T : Tab} {j : Nat} {fd : Fn} {x : String} {s₁ : Shared} {vs : List Value} {ns : List Int}
/-- what the caller is told -/
abbrev Told (s₁ : Shared) (r : Result) (s' : Shared) : Prop := r = .ok (.ret (.bool true)) ∧ OldK s₁.heap s'.heap ∧ s'.os = s₁.os ∧ AllBare s'.gens
/-- the tables stand empty -/
def TabsZ (K : PySem.W.Frag) (h : Heap) : Prop := ∀ P q, (P, q) ∈ lamsK K → h.get? P = some (PySem.W.tabObj #[])
theorem lam_mem {P : Addr} {q : Str} (m : (P, q) ∈ lamsK K) : ∃ c o, K.lookup c = some o ∧ lamOf K o = some (P, q) := by
  unfold lamsK at m
  obtain ⟨p, _, e⟩ := List.mem_filterMap.mp m
  by_cases hc : isCode p.2 = true
  · rw [if_pos hc] at e
    obtain ⟨o, e1, e2⟩ := Option.bind_eq_some_iff.mp e
    exact ⟨p.1, o, e1, e2⟩
  · rw [if_neg hc] at e
    cases e
theorem lam_hd {h : Heap} {P c : Addr} {q : Str} {o : Obj} (kin : K.In h) (e1 : K.lookup c = some o) (e2 : lamOf K o = some (P, q)) : K.lookup P = none ∧ PySem.W.CodeHd h c P := by
  unfold lamOf at e2
  split at e2
  · rename_i us h1 h2
    split at e2
    · rename_i P' q' t1 f1 f2 t3 f4 t5 g1 g2 g3 g4 g5 g6
      split at e2
      · rename_i hn
        cases e2
        have hn' : K.lookup P = none := Option.isNone_iff_eq_none.mp hn
        refine ⟨hn', o, us, _, _, _, _, _, _, _, kin c o e1, h1, h2, g1, ?_, g3, g4, g5, g6, fun z => ?_⟩
        · rw [Array.getD_eq_getD_getElem?, g1]
          rfl
        · rw [z, hn'] at e1
          cases e1
      · cases e2
    · cases e2
  · cases e2
theorem lam_code {h : Heap} {P : Addr} {q : Str} (kin : K.In h) (m : (P, q) ∈ lamsK K) : K.lookup P = none ∧ ∃ c, PySem.W.CodeHd h c P := by
  obtain ⟨c, o, e1, e2⟩ := lam_mem m
  obtain ⟨h1, h2⟩ := lam_hd kin e1 e2
  exact ⟨h1, c, h2⟩
theorem tabs_in {b : Addr} (h : b ∈ (lamsK K).map (·.1)) : ∃ q, (b, q) ∈ lamsK K := by
  obtain ⟨p, hp, e⟩ := List.mem_map.mp h
  subst e
  exact ⟨p.2, hp⟩
theorem mem_tabs {b : Addr} {q : Str} (h : (b, q) ∈ lamsK K) : b ∈ (lamsK K).map (·.1) := List.mem_map.mpr ⟨_, h, rfl⟩
theorem mok_nil {H : Hp} (hT : ∀ P q, (P, q) ∈ lamsK K → H P = some (.tbl #[])) : MOk K mg ⟨[], [], lamN K⟩ H [] :=
  ⟨rfl, List.nodup_nil, fun n b o h => by simp at h, fun b h => absurd h (by simp), rfl, fun P q m => ⟨fun z => (by rcases z with z | z <;> cases z), #[], hT P q m, True.intro, fun pos u e => by
    have z : codeAmong pos [] = some u := e
    simp [codeAmong] at z⟩⟩
theorem rds_row {H : Hp} (h : SqL K H a (ns.map V.int)) : RDs K mg ⟨[], [], lamN K⟩ H [.row ns] [.ref a] := by
  refine .cons (.row ?_) .nil
  rcases h with h | h
  · exact .inl ⟨fun q => (by rcases q with q | q <;> cases q), h⟩
  · exact .inr h
theorem end_at (H : Hp) (kin : K.In s₁.heap) (gl : s₁.heap.Ns mainGlobals mg) (bl : s₁.heap.Ns builtinsNs mb) (bb : ∀ x : Str, x ≠ "__name__" → mb x = bootBuiltins x) (nl : s₁.heap.NoLimit) (gn : s₁.gens = #[]) (tabs : TabsZ K s₁.heap)
    (lst : s₁.heap.get? a = some { cls := .type "list", data := .seq vs.toArray }) (room : RoomY (j + 1) callerA) (F : ∀ base : Heap, K.In base → base.Ns mainGlobals mg → FnZ P w K mg base T j fd fa FD) (one : fd.names = [x])
    (bind : ∀ (s : Shared) (u : Value), BindsTo s FD ⟨[u], []⟩ [(nm x, u)]) (run : ∃ h, runF T j fd [.row ns] [] = .ok (.bl true) h) (only : ∀ b, H b = none ∨ (∃ q, (b, q) ∈ lamsK K) ∨ ∃ o xs, H b = some (.frz o (.lst xs))) (hT : ∀ P q, (P, q) ∈ lamsK K → H P = some (.tbl #[])) (sq : SqL K H a (ns.map V.int)) (hok : HOk P w H s₁.heap)
    (at_ : ∀ b, H b ≠ none → b = a ∨ ∃ q, (b, q) ∈ lamsK K) (new : H a ≠ none → K.lookup a = none) :
    codeAny (model P w) callerA (.call (.ref fa) ⟨[.ref a], []⟩) (Told s₁) s₁ := by
  have free : ∀ {b : Addr} {o : Obj}, s₁.heap.get? b = some o → H b = none → (hidT s₁.heap H).get? b = some o := fun {b o} g n => hidT_get g n
  have names : ∀ {b : Addr} {m : Str → Option Value}, s₁.heap.Ns b m → (hidT s₁.heap H).Ns b m := fun {b m} q => by
    obtain ⟨o, es, ep, g, d, r⟩ := q
    refine ⟨o, es, ep, free g (Classical.byContradiction fun z => ?_), d, r⟩
    rcases at_ b z with e | ⟨q, e⟩
    · rw [e, lst] at g
      cases g
      cases d
    · rw [tabs b q e] at g
      cases g
      cases d
  have kin' : K.In (hidT s₁.heap H) := fun b o lk => free (kin b o lk) (Classical.byContradiction fun z => by
    rcases at_ b z with e | ⟨q, e⟩
    · have := new (by rw [← e]; exact z)
      rw [← e, lk] at this
      cases this
    · have := (lam_code kin e).1
      rw [lk] at this
      cases this)
  obtain ⟨mc, n1, n2⟩ := nl
  have ground : Env0 P w K mg (hidT s₁.heap H) callerA [] s₁ H := {
    frames := rfl
    mod := ⟨kin', names gl, ⟨mb, names bl, bb⟩, ⟨mc, names n1, n2⟩⟩
    bs := fun b o g => of_hidT g
    bsz := Nat.le_of_eq (hidT_size _ _)
    funs := trivial
    frf := fun b q => by cases q
    hok := hok
    bare := .of_eq gn }
  obtain ⟨h, run⟩ := run
  have wish : spZ K mg T j fd [.ref a] H (fun v _ => v = .bl true) (fun _ _ _ => False) := by
    refine ⟨⟨[], [], lamN K⟩, [], [.row ns], mok_nil hT, rds_row sq, ?_⟩
    unfold KtE
    rw [run]
    intro ρ' H' e m v r
    cases r
    rfl
  have bind' := bind s₁ (.ref a)
  refine codeAny_mono (F _ kin' (names gl) callerA [] s₁ H ⟨[.ref a], []⟩ [.ref a] [.ref a] _ _ room ground (by rw [one]; exact bind') (.cons rfl .nil) (by rw [one]; rfl) wish) fun r s' q => ?_
  match r, q with
  | .error e, q =>
    obtain ⟨_, _, _, _, _, _, _, _, _, _, _, _, z⟩ := q
    exact z.elim
  | .ok (.ret u), ⟨v, H', os, bare, un, hok', rv, ev⟩ =>
    subst ev
    obtain rfl : u = Value.bool true := rv
    have key : ∀ b o, (∀ q, (b, q) ∉ lamsK K) → s₁.heap.get? b = some o → s'.heap.get? b = some o := fun b o nt g => by
      rcases only b with hb | ⟨q, hb⟩ | ⟨ob, xs, z⟩
      · exact un.keep b o g hb (fun z => by cases z) (by simp)
      · exact absurd hb (nt q)
      · have e1 := (hok b _ z).1
        have e2 := (hok' b _ (un.frzs b ob _ z)).1
        rw [g] at e1
        cases e1
        exact e2
    have grown : ∀ P q, (P, q) ∈ lamsK K → ∃ more : Array Value, s'.heap.get? P = some (PySem.W.tabObj more) := fun P q m => by
      obtain ⟨more, z⟩ := un.tbls P #[] (hT P q m)
      exact ⟨_, hok' P _ z⟩
    refine ⟨rfl, ⟨fun b o g => ?_, fun b o g => ?_⟩, os, bare⟩
    · by_cases m : ∃ q, (b, q) ∈ lamsK K
      · obtain ⟨q, m⟩ := m
        obtain ⟨more, gm⟩ := grown b q m
        obtain ⟨_, c, hd⟩ := lam_code kin m
        have g0 := tabs b q m
        rw [g0] at g
        cases g
        exact .inr (.inl ⟨(hd.tab g0).isCodeTable, rfl, #[], more, rfl, by rw [Array.empty_append]; exact gm⟩)
      · exact .inl (key b o (fun q z => m ⟨q, z⟩) g)
    · by_cases m : ∃ q, (b, q) ∈ lamsK K
      · obtain ⟨q, m⟩ := m
        obtain ⟨more, gm⟩ := grown b q m
        exact ⟨_, gm⟩
      · exact ⟨o, key b o (fun q z => m ⟨q, z⟩) g⟩
theorem law_end (kin : K.In s₁.heap) (gl : s₁.heap.Ns mainGlobals mg) (bl : s₁.heap.Ns builtinsNs mb) (bb : ∀ x : Str, x ≠ "__name__" → mb x = bootBuiltins x) (nl : s₁.heap.NoLimit) (gn : s₁.gens = #[]) (tabs : TabsZ K s₁.heap) (lst : s₁.heap.get? a = some { cls := .type "list", data := .seq vs.toArray }) (ia : IntsAre vs ns)
    (len : ns.length ≤ sizeLine) (room : RoomY (j + 1) callerA) (F : ∀ base : Heap, K.In base → base.Ns mainGlobals mg → FnZ P w K mg base T j fd fa FD) (one : fd.names = [x]) (bind : ∀ (s : Shared) (u : Value), BindsTo s FD ⟨[u], []⟩ [(nm x, u)])
    (run : ∃ h, runF T j fd [.row ns] [] = .ok (.bl true) h) : codeAny (model P w) callerA (.call (.ref fa) ⟨[.ref a], []⟩) (Told s₁) s₁ := by
  have vi := vals_ints ia
  have vl := ia.length
  have aT : a ∉ (lamsK K).map (·.1) := fun z => by
    obtain ⟨q, m⟩ := tabs_in z
    rw [tabs a q m] at lst
    cases lst
  let G : Hp := fun b => if b ∈ (lamsK K).map (·.1) then some (.tbl #[]) else none
  have gIn : ∀ b, b ∈ (lamsK K).map (·.1) → G b = some (.tbl #[]) := fun b h => if_pos h
  have gOut : ∀ b, b ∉ (lamsK K).map (·.1) → G b = none := fun b h => if_neg h
  cases e : K.lookup a with
  | some o =>
    obtain rfl := Option.some.inj ((kin a o e).symm.trans lst)
    refine end_at G kin gl bl bb nl gn tabs lst room F one bind run (fun b => ?_) (fun P q m => gIn P (mem_tabs m)) (.inr ⟨_, vs.toArray, _, e, rfl, rfl, rfl, by rw [List.size_toArray, vl]; exact len, by simpa using vi⟩) (fun b u z => ?_) (fun b z => ?_) fun z => absurd (gOut a aT) z
    · by_cases hb : b ∈ (lamsK K).map (·.1)
      · exact .inr (.inl (tabs_in hb))
      · exact .inl (gOut b hb)
    · by_cases hb : b ∈ (lamsK K).map (·.1)
      · cases (gIn b hb).symm.trans z
        obtain ⟨q, m⟩ := tabs_in hb
        exact tabs b q m
      · cases (gOut b hb).symm.trans z
    · exact .inr (tabs_in (Classical.byContradiction fun hb => z (gOut b hb)))
  | none =>
    let u : HO := .frz { cls := .type "list", data := .seq vs.toArray } (.lst (ns.map V.int))
    have here : (fun b => if b = a then some u else G b : Hp) a = some u := if_pos rfl
    have there : ∀ b, b ≠ a → (fun b => if b = a then some u else G b : Hp) b = G b := fun b n => if_neg n
    have tna : ∀ {b}, b ∈ (lamsK K).map (·.1) → b ≠ a := fun {b} hb z => aT (by rw [← z]; exact hb)
    refine end_at (fun b => if b = a then some u else G b) kin gl bl bb nl gn tabs lst room F one bind run (fun b => ?_) (fun P q m => (there P (tna (mem_tabs m))).trans (gIn P (mem_tabs m))) (.inl (.inr ⟨_, here⟩)) (fun b t z => ?_) (fun b z => ?_) fun _ => e
    · by_cases n : b = a
      · exact .inr (.inr ⟨_, _, if_pos n⟩)
      · by_cases hb : b ∈ (lamsK K).map (·.1)
        · exact .inr (.inl (tabs_in hb))
        · exact .inl ((there b n).trans (gOut b hb))
    · by_cases n : b = a
      · subst n
        have z := here.symm.trans z
        cases z
        exact ⟨lst, by rw [List.length_map]; exact len, vs, _, vi, lst⟩
      · have z := (there b n).symm.trans z
        by_cases hb : b ∈ (lamsK K).map (·.1)
        · cases (gIn b hb).symm.trans z
          obtain ⟨q, m⟩ := tabs_in hb
          exact tabs b q m
        · cases (gOut b hb).symm.trans z
    · by_cases n : b = a
      · exact .inl n
      · exact .inr (tabs_in (Classical.byContradiction fun hb => z ((there b n).trans (gOut b hb))))
end
/-- the claim's walk -/
theorem walkZ {l : PySem.W.OpenLaw} {n j : Nat} {q : Program} {loose : List Str} {XP : (Str → Option Value) → Heap → Prop} {YP : World → Heap → Prop} {d : DefRec} {x : String} (hn : l.most = some n) (hn2 : n ≤ sizeLine) (hdf : d.params.defaults = []) (room : RoomY (j + 1) callerA)
    (F : ∀ (w : World) (mg : MG) (fa : Addr) (h : Heap), YP w h → h.Ns mainGlobals mg → mg d.name = some (.ref fa) → ∃ (K : PySem.W.Frag) (T : Tab) (fd : Fn) (FD : FuncData), K.In h ∧ TabsZ K h ∧ fd.names = [x] ∧ (∀ (s : Shared) (u : Value), BindsTo s FD ⟨[u], []⟩ [(nm x, u)]) ∧
      (∀ base : Heap, K.In base → base.Ns mainGlobals mg → FnZ l.prog w K mg base T j fd fa FD) ∧ ∀ ns : List Int, ns.length ≤ n → (∀ k ∈ ns, Builtin.Int.intBits k ≤ 1048576) → ∃ h, runF T j fd [.row ns] [] = .ok (.bl true) h) :
    PySem.W.WalkO q loose XP YP l.row.toRowW d [] (fun f vs => PySem.call f vs) := by
  refine Att.attach_callB hn hdf fun w s0 s1 mg mb fa o pm cd doc a vs ns G Y h1 h2 h3 h4 h5 h6 h7 h8 h9 => ?_
  obtain ⟨K, T, fd, FD, kin, tabs, one, bind, F, run⟩ := F w mg fa _ Y G.T.g h4
  exact law_end kin G.T.g G.T.b G.T.builtins G.T.nolimit h9 tabs h5 h6 (Nat.le_trans h7 hn2) room F one bind (run ns h7 h8)
end Z
/-! Y1: try .. except <test> as n, the test told by what it matches. -/
namespace Z
open PySem PySem.Spec PyProof.Rows L2

section
variable {X : Cx}
/-- what an except clause's test makes of an exception's class: m -/
def Tst (X : Cx) (τ : Expr) (m : Value → Option Bool) : Prop := ∀ (a : Addr) (oe : Obj) (pn : List (Addr × Obj)) (σ : L2.St) (H : Hp) (s : Shared) (cls : Value) (b : Bool), m cls = some b → Inv (X.suite a ((a, oe) :: pn)) [] σ H s → s.heap.get? a = some oe → oe.cls = cls →
  ∀ (Q E : Value → Shared → Prop), (∀ c h' tk, (∀ b o, s.heap.get? b = some o → h'.get? b = some o) → PySem.W.Looks (model X.prog X.w) h' (excMatches (.ref a) c) b → Q c { s with heap := h', toks := tk }) →
    wpAny (model X.prog X.w) (X.A.mark (some (.ref a))) (eval τ X.env) Q E s
theorem names_ld {x : Str} {c : Value} {p : Pos} {a : Addr} {pn : List (Addr × Obj)} {σ : L2.St} {H : Hp} {s : Shared} {Q E : Value → Shared → Prop} (n : Names X x c) (I : Inv (X.suite a pn) [] σ H s) (q : Q c s) :
    wpAny (model X.prog X.w) (X.A.mark (some (.ref a))) (eval (.Name x p) X.env) Q E s := by
  obtain ⟨g, db, m | ⟨m, v, nn⟩⟩ := n
  · exact ld_glob (X := X.suite a pn) I g m q db
  · exact ld_blt (X := X.suite a pn) I g m v q nn db
theorem kept_ty {s : Shared} {h : Heap} {a : Addr} {oe : Obj} {cls : Value} (e : h.get? a = some oe) (ec : oe.cls = cls) : PySem.W.Looks (model X.prog X.w) h (typeOf (.ref a)) cls := fun A Q E s k q => wpAny_typeOf_ref (k _ _ e) (by rw [ec]; exact q)
theorem tst_two {x1 x2 : Str} {c1 c2 : Value} {p1 p2 tp : Pos} {k : Nat} (n1 : Names X x1 c1) (n2 : Names X x2 c2) : Tst X (.Tuple [.Name x1 p1, .Name x2 p2] k tp) fun cls => PySem.W.exmAny X.K cls [c1, c2] := by
  intro a oe pn σ H s cls b hm I ha hc Q E q
  refine wpAny_Tuple_spliced ?_
  refine Calls.spliced_cons (names_ld n1 I (Calls.spliced_cons (names_ld n2 I (Calls.spliced_nil ⟨by show 2 ≤ sizeLine; decide, ?_⟩))))
  have kp : ∀ b o, s.heap.get? b = some o → (s.heap.push { cls := .type "tuple", data := .seq [c1, c2].toArray }).get? b = some o := fun b o e => Heap.get?_push_of_some _ e
  exact q _ _ s.toks kp (PySem.W.exm_tup2 (I.kIn.keeps kp) (kept_ty (s := s) (kp _ _ ha) hc) (Heap.get?_push_size _ rfl) hm)
theorem tst_three {x1 x2 x3 : Str} {c1 c2 c3 : Value} {p1 p2 p3 tp : Pos} {k : Nat} (n1 : Names X x1 c1) (n2 : Names X x2 c2) (n3 : Names X x3 c3) : Tst X (.Tuple [.Name x1 p1, .Name x2 p2, .Name x3 p3] k tp) fun cls => PySem.W.exmAny X.K cls [c1, c2, c3] := by
  intro a oe pn σ H s cls b hm I ha hc Q E q
  refine wpAny_Tuple_spliced ?_
  refine Calls.spliced_cons (names_ld n1 I (Calls.spliced_cons (names_ld n2 I (Calls.spliced_cons (names_ld n3 I (Calls.spliced_nil ⟨by show 3 ≤ sizeLine; decide, ?_⟩))))))
  have kp : ∀ b o, s.heap.get? b = some o → (s.heap.push { cls := .type "tuple", data := .seq [c1, c2, c3].toArray }).get? b = some o := fun b o e => Heap.get?_push_of_some _ e
  exact q _ _ s.toks kp (PySem.W.exm_tup3 (I.kIn.keeps kp) (kept_ty (s := s) (kp _ _ ha) hc) (Heap.get?_push_size _ rfl) hm)
/-- an exception that is held stays so where things are added -/
theorem fly_keep {B h h' : Heap} {l : List PySem.Env} {a : Addr} {P : Obj → Prop} (f : HandSPX.FlyingZ B l a P h) (k : ∀ b o, h.get? b = some o → h'.get? b = some o) : HandSPX.FlyingZ B l a P h' := by
  obtain ⟨f1, f2, f3, oe, vs, U, oU, us, e1, e2, e3, e4, e5, e6, e7, e8, e9⟩ := f
  exact ⟨fun b o e => k b o (f1 b o e), f2, Heap.FunFrames.of_keeps (fun b o e _ => ⟨o, k b o e, rfl⟩) f3, oe, vs, U, oU, us, k _ _ e1, e2, e3, e4, e5, e6, k _ _ e7, e8, e9⟩
/-- behind a suite: the exception's name is gone -/
def goneE (i : Nat) (D : Ends) : Ends := { nx := fun σ H => D.nx (σ.set i none) H, rt := D.rt, bk := fun σ H => D.bk (σ.set i none) H, ct := fun σ H => D.ct (σ.set i none) H }
/-- each exception is caught -/
def wTst (m : Value → Option Bool) (i : Nat) (ts : Addr → Value → Option Addr → TS) (D : Ends) : WX := fun cls d σ H => m cls = some true ∧ ∀ a, H a = none → ts a cls d (goneE i D) (σ.set i (some (.ref a))) H
section
variable {n : Str} {τ : Expr} {m : Value → Option Bool} {i : Nat} {body suite : List Stmt} {b₀ : Stmt} {pos pos' : Pos} {tb : WX → TS} {ts : Addr → Value → Option Addr → TS}
theorem ps_tryT (hs : X.stack = X.env :: X.outer) (hf : X.env.frame = some X.env.locals) (hN : X.N.Nodup) (hi : X.N[i]? = some n) (hln : X.env.kindOf n = some .local) (T : Tst X τ m)
    (hb : ∀ (W : WX) (pn : List (Addr × Obj)) (xe : Value → Shared → Prop), Takes (X.tr pn xe) W → PassesOwn (model X.prog X.w) X.A X.env xe → PSs (X.tr pn xe) body (tb W))
    (hsu : ∀ (a : Addr) (oe : Obj) (cls : Value) (d : Option Addr) (pn : List (Addr × Obj)), Zc cls d oe → (∃ vs, oe.data = .fields vs) → PSs (X.suite a ((a, oe) :: pn)) (b₀ :: suite) (ts a cls d)) :
    PS X (.Try body [.ExceptHandler (some τ) (some n) (b₀ :: suite) pos'] [] [] pos) (fun D σ H => tb (wTst m i ts D) D σ H) := by
  refine ⟨fun pins s σ H D I h => wpAny_Try_except ?_⟩
  have ok := I.ok
  have frm : X.A.frames = some (X.env :: X.outer) := by rw [ok.frames, hs]
  let after : Value → Shared → Prop := fun e s₁ => wpAny (model X.prog X.w) X.A (noteFrame e X.env) (fun _ s₂ => wpAny (model X.prog X.w) X.A (setFlight e none)
    (fun _ s₃ => wpAny (model X.prog X.w) X.A (handleBy e X.env [.ExceptHandler (some τ) (some n) (b₀ :: suite) pos']) (SP X pins D) X.xe s₃) X.xe s₂) X.xe s₁
  have catch_ : Takes (X.tr (X.pn ++ pins) after) (wTst m i ts D) := by
    rintro u s' ⟨a, B, sI, pins', σ', H', cls, d, rfl, J', nb, up, sky, na, os, ag, hm, go⟩
    have J : Inv X pins σ' H' sI := J'.ofTry ok
    have air : Sky B (X.env :: X.outer) a (Zc cls d) X.env.locals s'.heap := by
      rw [← hs]
      exact sky
    -- what is known of the exception at a later heap
    have own : ∀ {h : Heap}, HandSPX.FlyingZ B (X.env :: X.outer) a (Zc cls d) h → ∃ oe vs, h.get? a = some oe ∧ Zc cls d oe ∧ oe.data = .fields vs ∧ a ≠ X.env.locals ∧ a ∉ X.fs := fun {h} fl => by
      obtain ⟨oe, vs, g1, g2, g3⟩ := fl.there
      have nf : a ∉ frs (X.env :: X.outer) := fun w => by
        obtain ⟨_, o, g, no⟩ := fl.2.2.1.mem w
        cases g1.symm.trans g
        exact no _ g3
      exact ⟨oe, vs, g1, g2, g3, fun w => nf (List.mem_filterMap.mpr ⟨X.env, List.mem_cons_self, by rw [hf, w]⟩), fun w => by
        obtain ⟨e, h1, h2⟩ := List.mem_filterMap.mp w
        exact nf (List.mem_filterMap.mpr ⟨e, List.mem_cons_of_mem _ h1, h2⟩)⟩
    refine Sky.land (E₁ := X.xe) Zc.steady frm hf air fun h3 fl3 up3 => ?_
    have J3 : Inv X pins σ' H' { s' with heap := h3 } := J.landed nb fl3.1 (up.trans up3) os ag
    obtain ⟨oe3, vs3, g3, z3, d3, nl3, nf3⟩ := own fl3
    refine wpAny_handleBy_cons (codeAny_handlers_test ?_) (by intro q; cases q)
    refine T a oe3 (X.pn ++ pins) σ' H' { s' with heap := h3 } cls true hm (J3.suite g3 d3 na nl3 nf3) g3 z3.1 _ _ fun c h4 tk kp lk => lk.here ?_
    have fl4 := fly_keep fl3 kp
    refine codeAny_handlers_suite_as (HandSPX.lands_againZ fl4 fun h5 fl5 up5 => ?_)
    have J5 : Inv X pins σ' H' { s' with heap := h5, toks := tk } := (J.landed (s' := { s' with heap := h5 }) nb fl5.1 (((up.trans up3).trans (Heap.UpToSlots.of_keeps kp)).trans up5) os ag).tok tk
    obtain ⟨oe5, vs5, g5, z5, d5, nl5, nf5⟩ := own fl5
    refine store_ok (X := X.suite a ((a, oe5) :: (X.pn ++ pins))) (v := .ref a) (J5.suite g5 d5 na nl5 nf5) hN hi (.inl hln) rfl (fun s6 S6 => ?_) (.inr hln)
    refine wpAny_mono ((hsu a oe5 cls d (X.pn ++ pins) z5 ⟨_, d5⟩).run [] s6 _ H' _ S6 (go a na)) (fun f s7 q7 => ?_) fun _ _ z => z.elim
    have last : ∀ {σ7 : L2.St} {H7 : Hp} {P : Shared → Prop}, Inv (X.suite a ((a, oe5) :: (X.pn ++ pins))) [] σ7 H7 s7 → (∀ s8, Inv X pins (σ7.set i none) H7 s8 → P s8) →
        wpAny (model X.prog X.w) X.A (do bindName X.env n .none; unbindBehindTheSuite X.env n pos') (fun _ s8 => P s8) X.xe s7 := fun S7 p => gone_ok (S7.unsuite ok) hN hi hln p
    match f, q7 with
    | .next, ⟨σ7, H7, S7, q⟩ => exact last S7 fun s8 J8 => ⟨_, _, J8, q⟩
    | .brk, ⟨σ7, H7, S7, q⟩ => exact last S7 fun s8 J8 => ⟨_, _, J8, q⟩
    | .cont, ⟨σ7, H7, S7, q⟩ => exact last S7 fun s8 J8 => ⟨_, _, J8, q⟩
    | .ret u, ⟨v7, σ7, H7, S7, r7, q⟩ => exact last S7 fun s8 J8 => ⟨_, _, _, J8, r7, q⟩
  refine wpAny_mono ((hb (wTst m i ts D) (X.pn ++ pins) after catch_ PassesOwn.looking).run [] s σ H D (I.toTry _) h) (fun f s1 q => ?_) fun e s1 q => q
  match f, q with
  | .next, ⟨σ', H', J', q⟩ => exact wpAny_execs_nil ⟨σ', H', J'.ofTry ok, q⟩
  | .brk, ⟨σ', H', J', q⟩ => exact ⟨σ', H', J'.ofTry ok, q⟩
  | .cont, ⟨σ', H', J', q⟩ => exact ⟨σ', H', J'.ofTry ok, q⟩
  | .ret u, ⟨v, σ', H', J', r, q⟩ => exact ⟨v, σ', H', J'.ofTry ok, r, q⟩
end
end
end Z
/-! Y2: what is done with a caught exception, where an exception is handled: values, a small evaluation, its check. -/
namespace Z
open PySem PySem.Spec PyProof.Rows L2

/-- what is told of the exception's class: under which classes it is, which fields it has -/
structure HP where
  is : Bool → String → Option Bool
  fl : List String
inductive HV where
  | non | bl (b : Bool) | int (i : Int) | tx (z : List Nat) | bls (l : List Bool) | txs (l : List (List Nat)) | exc | fld (f : String)
  deriving DecidableEq, Inhabited
abbrev HEnv := List (Option HV)
def hvBls : List HV → Option (List Bool)
  | [] => some []
  | .bl b :: r => (hvBls r).map (b :: ·)
  | _ :: _ => none
def hvTxs : List HV → Option (List (List Nat))
  | [] => some []
  | .tx b :: r => (hvTxs r).map (b :: ·)
  | _ :: _ => none
def hvLst (l : List HV) : Option HV := match hvBls l with
  | some bs => some (.bls bs)
  | none => (hvTxs l).map .txs
def hvAdd : HV → HV → Option HV
  | .bls a, .bls b => if a.length + b.length ≤ 1000 then some (.bls (a ++ b)) else none
  | .txs a, .txs b => if a.length + b.length ≤ 1000 then some (.txs (a ++ b)) else none
  | _, _ => none
def blD (l : List Bool) : PyData := .list (l.map .bool)
def hvEq (a b : List Bool) : Option Bool := if SeqAt.shaped (blD a) = true ∧ SeqAt.shaped (blD b) = true then some (PyData.eqv (blD a) (blD b)) else none
def hvCmp (op : CmpOp) (x y : HV) : Option HV := match op, x, y with
  | .NotEq, .int i, .int j => some (.bl (!decide (i = j)))
  | .NotEq, .bls a, .bls b => (hvEq a b).map fun c => .bl (!c)
  | .Eq, .bls a, .bls b => (hvEq a b).map .bl
  | .Eq, .tx a, .tx b => some (.bl (decide (a = b)))
  | .In, .tx z, .txs l => some (.bl (L2.inV (.str (Z.tx z)) (l.map fun z => .str (Z.tx z))))
  | .Lt, .int i, .int j => some (.bl (decide (i < j)))
  | .Gt, .int i, .int j => some (.bl (decide (j < i)))
  | _, _, _ => none
def hvMt (f : MT) (x y : HV) : Option HV := match f, x, y with
  | .count, .bls l, .bl true => some (.int (l.count true : Nat))
  | .index, .bls l, .bl true => (l.findIdx? id).map fun j => .int (j : Nat)
  | _, _, _ => none
mutual
def hvE (is : HP) : E → HEnv → Option HV
  | .var i, env => (match env[i]? with
    | some (some v) => some v
    | _ => none)
  | .con d, _ => (match d with
    | .non => some .non
    | .bl b => some (.bl b)
    | .int i => some (.int i)
    | .str z => some (.tx z)
    | _ => none)
  | .lst _ es, env => (match hvEs is es env with
    | some l => if l.length ≤ 1000 then hvLst l else none
    | none => none)
  | .bin _ op a b, env => (match op, hvE is a env, hvE is b env with
    | .Add, some x, some y => hvAdd x y
    | _, _, _ => none)
  | .isi a own c, env => (match hvE is a env with
    | some .exc => (is.is own c).map .bl
    | _ => none)
  | .mt _ f o es, env => (match es with
    | .cons e .nil => (match hvE is o env, hvE is e env with
      | some x, some y => hvMt f x y
      | _, _ => none)
    | _ => none)
  | .cmp op a b, env => (match hvE is a env, hvE is b env with
    | some x, some y => hvCmp op x y
    | _, _ => none)
  | .cmp2 o1 o2 a b c, env => (match hvE is a env, hvE is b env with
    | some x, some y => (match hvCmp o1 x y with
      | some (.bl true) => (match hvE is c env with
        | some z => hvCmp o2 y z
        | none => none)
      | some (.bl false) => some (.bl false)
      | _ => none)
    | _, _ => none)
  | .or a b, env => (match hvE is a env with
    | some (.bl true) => some (.bl true)
    | some (.bl false) => hvE is b env
    | _ => none)
  | .ite c a b, env => (match hvE is c env with
    | some (.bl true) => hvE is a env
    | some (.bl false) => hvE is b env
    | _ => none)
  | .ix a b, env => (match hvE is a env, hvE is b env with
    | some (.txs l), some (.int i) => (L2.atI l i).map .tx
    | _, _ => none)
  | .att o f, env => (match hvE is o env with
    | some .exc => if f ∈ is.fl then some (.fld f) else none
    | _ => none)
  | _, _ => none
termination_by structural e => e
def hvEs (is : HP) : Es → HEnv → Option (List HV)
  | .nil, _ => some []
  | .cons e es, env => (match hvE is e env, hvEs is es env with
    | some x, some xs => some (x :: xs)
    | _, _ => none)
termination_by structural e => e
end
inductive HO2 where
  | nx (env : HEnv)
  | rt (v : HV)
def hvS (is : HP) : S → HEnv → Option HO2
  | .skip, env => some (.nx env)
  | .seq a b, env => (match hvS is a env with
    | some (.nx env) => hvS is b env
    | o => o)
  | .set t e, env => (match t with
    | .name i => (hvE is e env).map fun v => .nx (env.set i (some v))
    | _ => none)
  | .ifs c a b, env => (match hvE is c env with
    | some (.bl true) => hvS is a env
    | some (.bl false) => hvS is b env
    | _ => none)
  | .ret e, env => (hvE is e env).map .rt
  | _, _ => none
termination_by structural s => s

/-! ### the check -/
/-- what may be asked for its truth -/
def condB : E → Bool
  | .cmp _ _ _ => true
  | .or (.cmp _ _ _) (.cmp _ _ _) => true
  | _ => false
mutual
def hmE : E → Sc → Expr → Bool
  | .var i, S, w => (match w with
    | .Name x _ => decide (S.N[i]? = some x) && (visB S.sc x && nmB x)
    | _ => false)
  | .con d, _, w => (match w with
    | .Constant c _ _ => conB d c
    | _ => false)
  | .lst _ es, S, w => (match w with
    | .List xs _ => hmEs es S xs
    | _ => false)
  | .bin _ op a b, S, w => (match w with
    | .BinOp x op' y _ => decide (op = op') && (hmE a S x && hmE b S y)
    | _ => false)
  | .isi a _ c, S, w => (match w with
    | .Call (.Name y _) [x, .Name z _] [] _ => decide (("isinstance" : Str) = y) && (glB S.sc y && (nsB [x] && (glB S.sc z && (decide (nm c = z) && (nmB z && hmE a S x)))))
    | _ => false)
  | .mt _ f o es, S, w => (match es with
    | .cons e .nil => (match w with
      | .Call (.Attribute x m apos) [y] [] cpos => decide (mtName f = m) && (abB x && (nsB [y] && ((apos.endLine == cpos.line) && (hmE o S x && hmE e S y))))
      | _ => false)
    | _ => false)
  | .cmp op a b, S, w => (match w with
    | .Compare x [op'] [y] _ => decide (op = op') && (!behindInMarks op y && (hmE a S x && hmE b S y))
    | _ => false)
  | .cmp2 o1 o2 a b c, S, w => (match w with
    | .Compare x [p1, p2] [y, z] _ => decide (o1 = p1) && (decide (o2 = p2) && (!lastMarks [o1, o2] [y, z] && (hmE a S x && (hmE b S y && hmE c S z))))
    | _ => false)
  | .or a b, S, w => (match w with
    | .BoolOp .Or [x, y] p => hmE a S x && (notBo y && hmE b S y)
    | _ => false)
  | .ite c a b, S, w => (match w with
    | .IfExp x y z _ => condB c && (hmE c S x && (hmE a S y && hmE b S z))
    | _ => false)
  | .ix a b, S, w => (match w with
    | .Subscript x y _ => notSl y && (hmE a S x && hmE b S y)
    | _ => false)
  | .att o f, S, w => (match w with
    | .Attribute x m _ => decide (nm f = m) && (abB x && hmE o S x)
    | _ => false)
  | _, _, _ => false
termination_by structural e => e
def hmEs : Es → Sc → List Expr → Bool
  | .nil, _, xs => (match xs with
    | [] => true
    | _ => false)
  | .cons e es, S, xs => (match xs with
    | [] => false
    | x :: xs => nsB [x] && (hmE e S x && hmEs es S xs))
termination_by structural e => e
end
mutual
def hmS : S → Sc → Stmt → Bool
  | .set t e, S, st => (match t, st with
    | .name i, .Assign [.Name x _] v _ => stB S i x && (!isLC v && hmE e S v)
    | _, _ => false)
  | .ifs c a b, S, st => (match st with
    | .If x y z _ => condB c && (hmE c S x && (hmSs a S y && hmSs b S z))
    | _ => false)
  | .ret e, S, st => (match st with
    | .Return (some x) _ => hmE e S x
    | _ => false)
  | _, _, _ => false
termination_by structural s => s
def hmSs : S → Sc → List Stmt → Bool
  | .skip, _, sts => (match sts with
    | [] => true
    | _ => false)
  | .seq a b, S, sts => (match sts with
    | [] => false
    | st :: sts => hmS a S st && hmSs b S sts)
  | _, _, _ => false
termination_by structural s => s
end
end Z
/-! Y3: what passes the check does what the small evaluation says, where an exception is handled. -/
namespace Z
open PySem PySem.Spec PyProof.Rows L2

/-- what stands in the heap stays -/
def HExt (H H' : Hp) : Prop := ∀ b o, H b = some o → H' b = some o
theorem HExt.refl {H : Hp} : HExt H H := fun _ _ h => h
theorem HExt.trans {H H1 H2 : Hp} (a : HExt H H1) (b : HExt H1 H2) : HExt H H2 := fun c o h => b c o (a c o h)
theorem HExt.new {H : Hp} {p : Addr} {o : HO} (h : H p = none) : HExt H (upd H p o) := fun b u e => by rw [upd_ne (ne_of_none e h)]; exact e
/-- the exception at a, its fields gs -/
def RH (a : Addr) (gs : List (PySem.Str × V)) (H : Hp) : HV → V → Prop
  | .non, v => v = .non
  | .bl b, v => v = .bl b
  | .int i, v => v = .int i
  | .tx z, v => v = .str (tx z)
  | .bls l, v => ∃ p, v = .ref p ∧ H p = some (.lst (l.map V.bl))
  | .txs l, v => ∃ p, v = .ref p ∧ H p = some (.lst (l.map fun z => V.str (tx z)))
  | .exc, v => v = .ref a
  | .fld f, v => gs.lookup (nm f) = some v
section
variable {a D : Addr} {dd : Option Addr} {gs : List (PySem.Str × V)} {H H' : Hp} {σ : L2.St} {env : HEnv} {hp : HP}
theorem RH.ext (e : HExt H H') : ∀ {r : HV} {v : V}, RH a gs H r v → RH a gs H' r v
  | .non, _, h => h
  | .bl _, _, h => h
  | .int _, _, h => h
  | .tx _, _, h => h
  | .bls _, _, ⟨p, h1, h2⟩ => ⟨p, h1, e _ _ h2⟩
  | .txs _, _, ⟨p, h1, h2⟩ => ⟨p, h1, e _ _ h2⟩
  | .exc, _, h => h
  | .fld _, _, h => h
structure HRel (a : Addr) (dd : Option Addr) (gs : List (PySem.Str × V)) (env : HEnv) (σ : L2.St) (H : Hp) : Prop where
  len : env.length = σ.length
  at_ : ∀ (i : Nat) r, env[i]? = some (some r) → ∃ v, σ[i]? = some (some v) ∧ RH a gs H r v
  xd : ∀ p, dd = some p → H p = some (.xd gs)
theorem HRel.ext (e : HExt H H') (h : HRel a dd gs env σ H) : HRel a dd gs env σ H' := ⟨h.len, fun i r q => by
  obtain ⟨v, h1, h2⟩ := h.at_ i r q
  exact ⟨v, h1, h2.ext e⟩, fun p q => e _ _ (h.xd p q)⟩
theorem HRel.set {r : HV} {v : V} (i : Nat) (h : HRel a dd gs env σ H) (k : RH a gs H r v) : HRel a dd gs (env.set i (some r)) (σ.set i (some v)) H := by
  refine ⟨by simp [h.len], fun j r' e => ?_, h.xd⟩
  by_cases hj : j = i
  · subst hj
    have hl : j < env.length := by
      have := (List.getElem?_eq_some_iff.mp e).1
      simpa using this
    rw [List.getElem?_set_self hl] at e
    cases e
    exact ⟨v, by rw [List.getElem?_set_self (by rw [← h.len]; exact hl)], k⟩
  · rw [List.getElem?_set_ne (Ne.symm hj)] at e
    obtain ⟨w, h1, h2⟩ := h.at_ j r' e
    exact ⟨w, by rw [List.getElem?_set_ne (Ne.symm hj)]; exact h1, h2⟩
/-- a reading -/
def hrd (a : Addr) (dd : Option Addr) (gs : List (PySem.Str × V)) (m : HEnv → Option HV) : TE := fun σ H Q => ∃ env r, HRel a dd gs env σ H ∧ m env = some r ∧ ∀ v H', HExt H H' → RH a gs H' r v → Q v H'
def hrdA (a : Addr) (dd : Option Addr) (gs : List (PySem.Str × V)) (m : HEnv → Option (List HV)) : TA := fun σ H Q => ∃ env r, HRel a dd gs env σ H ∧ m env = some r ∧ ∀ vs H', HExt H H' → Paired (fun v r => RH a gs H' r v) vs r → Q vs H'
/-- the class's facts -/
structure ExK (K : PySem.W.Frag) (D : Addr) : Prop where
  cl : (PySem.W.clsIn K D).isSome = true
  ga : PySem.W.findIn K (.ref D) "__getattribute__" = some (some (.builtin "BaseException.__getattribute__"))
  gt : PySem.W.findIn K (.ref D) "__getattr__" = some none
  sub : PySem.W.subIn K (.ref D) (.type "BaseException") = some true
  hd : PySem.W.hasDictIn K D = true
  ca : PySem.W.findIn K (.ref D) "__class__" = some (some (.builtin "object.__class__"))
  cs : PySem.W.specialIn K (.builtin "object.__class__") "__get__" = some (some (.builtin "getset_descriptor.__get__"))
  ct : PySem.W.takesIn K (.builtin "object.__class__") = some true
  mo : PySem.W.mroIn K D (.type "object") = some true
/-- what is told of the class at D is so -/
structure HK (K : PySem.W.Frag) (mg : MG) (D : Addr) (dd : Option Addr) (gs : List (PySem.Str × V)) (hp : HP) : Prop where
  ex : ExK K D
  blt : mg "isinstance" = none
  is_ : ∀ own c b, hp.is own c = some b → ∃ vc cv, ClsV vc cv ∧ PySem.W.kitOne K (.ref D) cv = some b ∧ (mg (nm c) = some cv ∨ (mg (nm c) = none ∧ bootBuiltins (nm c) = some cv ∧ nm c ≠ "__name__"))
  fl : ∀ f ∈ hp.fl, ∃ p v, dd = some p ∧ gs.lookup (nm f) = some v ∧ PySem.W.findIn K (.ref D) (nm f) = some none
/-- the ground where an exception of the class at D is handled -/
structure HCx (X : Cx) (a D : Addr) (dd : Option Addr) (gs : List (PySem.Str × V)) (hp : HP) : Prop where
  nd : X.N.Nodup
  un : X.A.units + 66 < cLine
  pin : ∃ oe, (a, oe) ∈ X.pn ∧ Zc (.ref D) dd oe ∧ ∃ vs, oe.data = .fields vs
  k : HK X.K X.mg D dd gs hp
theorem cls_rel {c : V} {u : Value} (k : ClsV c u) : L2.RelV c u := by
  cases k <;> rfl
section
variable {X : Cx}
theorem HCx.inst {pins : List (Addr × Obj)} {s : Shared} (c : HCx X a D dd gs hp) (I : Inv X pins σ H s) (hx : ∀ p, dd = some p → H p = some (.xd gs)) : ∃ oe od, PySem.W.InstAt s.heap a oe D od ∧ ∀ f v, gs.lookup (nm f) = some v → (∃ p, dd = some p) → PySem.W.findIn X.K (.ref D) (nm f) = some none → ∃ u, RelV v u ∧ PySem.W.findObj X.K D od (nm f) = some (.value u) := by
  obtain ⟨oe, hm, hz, vs, hv⟩ := c.pin
  have hg := (I.pin (a, oe) (List.mem_append_left _ hm)).1
  obtain ⟨oc, odt, oda, osl⟩ := oe
  obtain ⟨h1, h2⟩ := hz
  dsimp only at h1 h2 hv
  subst h1 h2 hv
  cases hdd : odt with
  | none =>
    subst hdd
    exact ⟨_, none, ⟨hg, rfl, rfl, trivial⟩, fun f v _ ⟨p, e⟩ _ => by cases e⟩
  | some p =>
    subst hdd
    have hx : ObjOk X.prog X.w H s.heap p (.xd gs) := I.hok p _ (hx p rfl)
    obtain ⟨mA, hns, hr⟩ := hx
    obtain ⟨od, ho, hl⟩ := lookIn_ns hns
    refine ⟨_, some od, ⟨hg, rfl, rfl, ho⟩, fun f v hf _ hno => ?_⟩
    obtain ⟨u, hu, ru⟩ := RelO.some_of (v := v) (o := mA (nm f)) (by rw [← hf]; exact hr (nm f))
    exact ⟨u, ru, PySem.W.findObj_own c.k.ex.hd hno rfl (by rw [hl, hu])⟩
theorem c_isH (c : HCx X a D dd gs hp) : CallR X (.builtin "isinstance") (fun xs H Q => ∃ vc cv b, xs = [.ref a, vc] ∧ (∀ p, dd = some p → H p = some (.xd gs)) ∧ ClsV vc cv ∧ PySem.W.kitOne X.K (.ref D) cv = some b ∧ Q (.bl b) H) := by
  intro pins s σ H xs us Q I r h
  obtain ⟨vc, cv, b, rfl, hx, hc, e, q⟩ := h
  obtain ⟨u1, u2, rfl, r1, r2⟩ := Vals.two r
  obtain rfl : u1 = Value.ref a := r1
  have e2 := hc.eq r2
  subst e2
  obtain ⟨oe, od, J, _⟩ := c.inst I hx
  exact PySem.W.kia_one (PySem.W.kitx_exc c.k.ex.cl c.k.ex.ga c.k.ex.gt c.k.ex.sub c.k.ex.ca c.k.ex.cs c.k.ex.ct c.k.ex.mo) I.kIn J e (fun z => nomatch z) fun tk => ⟨.bl b, H, I.tok tk, rfl, q⟩
theorem pe_attH {e : Expr} {te : TE} {pos : Pos} {f : String} (c : HCx X a D dd gs hp) (hf : f ∈ hp.fl) (he : PE X e te) (hb : attributeBase e (nm f) X.env (eval e X.env) = eval e X.env) :
    PE X (.Attribute e (nm f) pos) (fun σ H Q => te σ H fun x H1 => x = .ref a ∧ (∀ p, dd = some p → H1 p = some (.xd gs)) ∧ ∀ v, gs.lookup (nm f) = some v → Q v H1) := by
  refine ⟨fun pins s σ H Q I h => attr_of hb (thn (he.run pins s σ H _ I h) fun u s1 ⟨x, H1, I1, rx, ex, hx, q⟩ => ?_)⟩
  subst ex
  obtain rfl : u = Value.ref a := rx
  obtain ⟨p, v, e1, e2, e3⟩ := c.k.fl f hf
  obtain ⟨oe, od, J, fd⟩ := c.inst I1 hx
  obtain ⟨w, rw_, g⟩ := fd f v e2 ⟨p, e1⟩ e3
  exact HandSPX.exc_get I1.kIn J c.k.ex.ga c.k.ex.gt c.k.ex.sub g (handed_of rw_) ⟨v, H1, I1.tok _, rw_, q v e2⟩
theorem countB : ∀ {l : List Bool} {us : List Value}, Vals (l.map V.bl) us → us.countP (eqU (.bl true)) = l.count true
  | [], _, .nil => rfl
  | b :: l, u :: us, .cons r t => by
    rw [List.countP_cons, List.count_cons, countB t, eqU_of r rfl]
    cases b <;> rfl
theorem flat_bls : ∀ (l : List Bool), (l.map V.bl).all flatV = true
  | [] => rfl
  | b :: l => by
    rw [List.map_cons, List.all_cons, flat_bls l]
    rfl
theorem mt_countB : MtR X "list.count" (fun x xs H Q => ∃ (p : Addr) (l : List Bool), x = .ref p ∧ xs = [.bl true] ∧ SqL X.K H p (l.map V.bl) ∧ Q (.int (l.count true : Nat)) H) := by
  intro pins s σ H x xs v us Q I rx rxs h
  obtain ⟨p, l, rfl, rfl, hs, q⟩ := h
  cases rx
  obtain ⟨u, rfl, ru⟩ := rxs.one
  obtain ⟨its, rv, ⟨⟨cls, dd, data, sl⟩, n, ho, hc, hdn, hd⟩, hlen⟩ := I.list hs
  dsimp only at hc hd
  subst hc hd
  refine call_meets PySem.F.slot_list_count ⟨_, ho, rfl⟩ PySem.F.entry_list_count (PySem.F.args_list_count_2 _ _) (SeqAt.list_countAt p its.toArray n dd sl u (eqU (.bl true))) ⟨ho, fun y hy => mem_eqAt ru rfl rv (flat_bls l) y (by simpa using hy), ?_⟩
  refine ⟨.int (l.count true : Nat), H, I.tok _, ⟨s.toks, ?_⟩, q⟩
  rw [← countB rv]
end
end
end Z
/-! Y4: the check's soundness. -/
namespace Z
open PySem PySem.Spec PyProof.Rows L2

section
variable {X : Cx} {a D : Addr} {dd : Option Addr} {gs : List (PySem.Str × V)} {hp : HP} {S : Sc} {j : Nat} {H H1 : Hp} {σ : L2.St} {Q : VK}
/-- an operation of two values -/
def hop (a : Addr) (gs : List (PySem.Str × V)) (f : HV → HV → Option HV) : R2 := fun x y H Q => ∃ hx hy r, RH a gs H hx x ∧ RH a gs H hy y ∧ f hx hy = some r ∧ ∀ v H', HExt H H' → RH a gs H' r v → Q v H'
theorem hrd_1 {m : HEnv → Option HV} {f : HEnv → HV → Option HV} {P : V → Hp → Prop} (h : hrd a dd gs (fun env => match m env with | some x => f env x | none => none) σ H Q)
    (k : ∀ env x v H1, HRel a dd gs env σ H1 → RH a gs H1 x v → hrd a dd gs (fun _ => f env x) σ H1 Q → P v H1) : hrd a dd gs m σ H P := by
  obtain ⟨env, r, re, e, q⟩ := h
  dsimp only at e
  cases hm : m env with
  | none => rw [hm] at e; cases e
  | some x =>
    rw [hm] at e
    exact ⟨env, x, re, hm, fun v H1 x1 rv => k env x v H1 (re.ext x1) rv ⟨env, r, re.ext x1, e, fun w H2 x2 rw_ => q w H2 (x1.trans x2) rw_⟩⟩
theorem hrd_2 {m1 m2 : HEnv → Option HV} {f : HV → HV → Option HV} (h : hrd a dd gs (fun env => match m1 env, m2 env with | some x, some y => f x y | _, _ => none) σ H Q) : hrd a dd gs m1 σ H (fun v H1 => hrd a dd gs m2 σ H1 (fun u H2 => hop a gs f v u H2 Q)) := by
  obtain ⟨env, r, re, e, q⟩ := h
  dsimp only at e
  cases h1 : m1 env with
  | none => rw [h1] at e; cases e
  | some x =>
    cases h2 : m2 env with
    | none => rw [h1, h2] at e; cases e
    | some y =>
      rw [h1, h2] at e
      exact ⟨env, x, re, h1, fun v H1 x1 rv => ⟨env, y, re.ext x1, h2, fun u H2 x2 ru => ⟨x, y, r, rv.ext x2, ru, e, fun w H3 x3 rw_ => q w H3 (x1.trans (x2.trans x3)) rw_⟩⟩⟩
theorem dpA_bls : ∀ (l : List Bool), DpAll X.K H (l.map V.bl) (l.map PyData.bool)
  | [] => .nil
  | b :: l => .cons (.bl b) (dpA_bls l)
theorem dp_bls {p : Addr} {l : List Bool} (h : H p = some (.lst (l.map V.bl))) : Dp X.K H (.ref p) (blD l) := .lst (SqL.of h) (dpA_bls l)
theorem flat_txs : ∀ (l : List (List Nat)), (l.map fun z => V.str (tx z)).all flatV = true
  | [] => rfl
  | b :: l => by
    rw [List.map_cons, List.all_cons, flat_txs l]
    rfl
theorem op_hcmp (c : HCx X a D dd gs hp) (op : CmpOp) : OpR X (compareOp op) (hop a gs (hvCmp op)) := by
  intro pins s σ H x y v u Q I rx ry h
  obtain ⟨hx, hy, r, r1, r2, e, q⟩ := h
  have un : X.A.units + 64 < cLine := by have := c.un; omega
  unfold hvCmp at e
  split at e
  · cases r1; cases r2; cases e
    rename_i i j
    refine op_ne pins s σ H _ _ v u Q I rx ry ⟨rfl, ?_⟩
    have ed : decide (V.int i = V.int j) = decide (i = j) := by
      by_cases z : i = j
      · rw [z]; simp
      · rw [decide_eq_false z, decide_eq_false fun w => z (V.int.inj w)]
    rw [ed]
    exact q _ H .refl rfl
  · obtain ⟨c1, e1, e2⟩ := Option.map_eq_some_iff.mp e
    subst e2
    unfold hvEq at e1
    split at e1
    · rename_i sh
      cases e1
      obtain ⟨p1, rfl, g1⟩ := r1
      obtain ⟨p2, rfl, g2⟩ := r2
      exact op_neD un pins s σ H _ _ v u Q I rx ry ⟨_, _, dp_bls g1, dp_bls g2, sh.1, sh.2, q _ H .refl rfl⟩
    · cases e1
  · obtain ⟨c1, e1, e2⟩ := Option.map_eq_some_iff.mp e
    subst e2
    unfold hvEq at e1
    split at e1
    · rename_i sh
      cases e1
      obtain ⟨p1, rfl, g1⟩ := r1
      obtain ⟨p2, rfl, g2⟩ := r2
      exact op_eqD un pins s σ H _ _ v u Q I rx ry ⟨_, _, dp_bls g1, dp_bls g2, sh.1, sh.2, q _ H .refl rfl⟩
    · cases e1
  · cases r1; cases r2; cases e
    rename_i z1 z2
    refine op_eq pins s σ H _ _ v u Q I rx ry ⟨rfl, ?_⟩
    have ed : decide (V.str (tx z1) = V.str (tx z2)) = decide (z1 = z2) := by
      by_cases z : z1 = z2
      · rw [z]; simp
      · rw [decide_eq_false z, decide_eq_false fun w => z (by
          have := congrArg (fun v => match v with | V.str s => s.cps.toList | _ => []) w
          simpa using this)]
    rw [ed]
    exact q _ H .refl rfl
  · cases r1; cases e
    obtain ⟨p2, rfl, g2⟩ := r2
    exact op_in_seq pins s σ H _ _ v u Q I rx ry ⟨p2, _, rfl, .inl (SqL.of g2), rfl, flat_txs _, q _ H .refl rfl⟩
  · cases r1; cases r2; cases e
    exact op_lt pins s σ H _ _ v u Q I rx ry ⟨_, _, rfl, rfl, q _ H .refl rfl⟩
  · cases r1; cases r2; cases e
    exact op_gt pins s σ H _ _ v u Q I rx ry ⟨_, _, rfl, rfl, q _ H .refl rfl⟩
  · cases e
theorem op_hadd : OpR X (binaryOp .Add) (hop a gs hvAdd) := by
  intro pins s σ H x y v u Q I rx ry h
  obtain ⟨hx, hy, r, r1, r2, e, q⟩ := h
  have hl : (1000 : Nat) ≤ sizeLine := by decide
  unfold hvAdd at e
  split at e
  · split at e
    · rename_i l1 l2 hz
      cases e
      obtain ⟨p1, rfl, g1⟩ := r1
      obtain ⟨p2, rfl, g2⟩ := r2
      refine op_cat pins s σ H _ _ v u Q I rx ry ⟨p1, p2, _, _, rfl, rfl, g1, g2, by rw [List.length_map, List.length_map]; omega, fun p hp => q _ _ (.new hp) ⟨p, rfl, ?_⟩⟩
      rw [upd_same, List.map_append]
    · cases e
  · split at e
    · rename_i l1 l2 hz
      cases e
      obtain ⟨p1, rfl, g1⟩ := r1
      obtain ⟨p2, rfl, g2⟩ := r2
      refine op_cat pins s σ H _ _ v u Q I rx ry ⟨p1, p2, _, _, rfl, rfl, g1, g2, by rw [List.length_map, List.length_map]; omega, fun p hp => q _ _ (.new hp) ⟨p, rfl, ?_⟩⟩
      rw [upd_same, List.map_append]
    · cases e
  · cases e
theorem bls_of : ∀ {l : List HV} {bs : List Bool} {vs : List V}, hvBls l = some bs → Paired (fun v r => RH a gs H r v) vs l → vs = bs.map V.bl
  | [], _, _, e, .nil => by
    cases e
    rfl
  | .bl b :: l, bs, _, e, .cons r t => by
    obtain ⟨bs', e1, e2⟩ := Option.map_eq_some_iff.mp (show (hvBls l).map (b :: ·) = some bs from e)
    subst e2
    rw [bls_of e1 t, show _ = V.bl b from r]
    rfl
theorem txs_of : ∀ {l : List HV} {bs : List (List Nat)} {vs : List V}, hvTxs l = some bs → Paired (fun v r => RH a gs H r v) vs l → vs = bs.map fun z => V.str (tx z)
  | [], _, _, e, .nil => by
    cases e
    rfl
  | .tx b :: l, bs, _, e, .cons r t => by
    obtain ⟨bs', e1, e2⟩ := Option.map_eq_some_iff.mp (show (hvTxs l).map (b :: ·) = some bs from e)
    subst e2
    rw [txs_of e1 t, show _ = V.str (tx b) from r]
    rfl
theorem lst_of' {l : List HV} {r : HV} {vs : List V} {p : Addr} (e : hvLst l = some r) (h : Paired (fun v r => RH a gs H r v) vs l) : RH a gs (upd H p (.lst vs)) r (.ref p) := by
  unfold hvLst at e
  split at e
  · rename_i bs e1
    cases e
    exact ⟨p, rfl, by rw [upd_same, bls_of e1 h]⟩
  · obtain ⟨ts, e1, e2⟩ := Option.map_eq_some_iff.mp e
    subst e2
    exact ⟨p, rfl, by rw [upd_same, txs_of e1 h]⟩
theorem paired_len {α β : Type} {R : α → β → Prop} : ∀ {as : List α} {bs : List β}, Paired R as bs → as.length = bs.length
  | _, _, .nil => rfl
  | _, _, .cons _ t => congrArg Nat.succ (paired_len t)
theorem paired_ext (e : HExt H H1) : ∀ {vs : List V} {l : List HV}, Paired (fun v r => RH a gs H r v) vs l → Paired (fun v r => RH a gs H1 r v) vs l
  | _, _, .nil => .nil
  | _, _, .cons r t => .cons (r.ext e) (paired_ext e t)
theorem atV_map {α β : Type} {f : α → β} {l : List α} {i : Int} : L2.atI (l.map f) i = (L2.atI l i).map f := by
  unfold L2.atI
  rw [List.length_map]
  cases ixN l.length i with
  | none => rfl
  | some k => simp
theorem hrdT_1 {m : HEnv → Option HV} {P : Bool → Hp → Prop} (h : ∃ env b, HRel a dd gs env σ H ∧ m env = some (.bl b) ∧ ∀ H', HExt H H' → P b H') : hrd a dd gs m σ H fun v H' => ∃ k, v = .bl k ∧ P k H' := by
  obtain ⟨env, b, re, e, q⟩ := h
  exact ⟨env, .bl b, re, e, fun v H1 x1 rv => ⟨b, rv, q H1 x1⟩⟩
def hrdT (a : Addr) (dd : Option Addr) (gs : List (PySem.Str × V)) (m : HEnv → Option HV) : TT := fun σ H Q => ∃ env b, HRel a dd gs env σ H ∧ m env = some (.bl b) ∧ ∀ H', HExt H H' → Q b H'
theorem hrd_fix {m : HEnv → Option HV} {env : HEnv} (h : hrd a dd gs (fun _ => m env) σ H Q) (re : HRel a dd gs env σ H) : hrd a dd gs m σ H Q := by
  obtain ⟨env', r, _, e, q⟩ := h
  exact ⟨env, r, re, e, q⟩
theorem few_one {y : Expr} {env : PySem.Env} (h : nsB [y] = true) (cpos : Pos) : ((backTo cpos (starEach [y] env)).all (fun x => !x.1) && (backToKw cpos (keywordEach [] env)).all (fun x => x.1.isSome) && decide (([y] : List Expr).length + ([] : List Keyword).length + (if ([] : List Keyword).isEmpty then 0 else 1) < 30)) = true := by
  rw [ns_all h]
  simp [keywordEach, backToKw]
mutual
theorem hs_E (c : HCx X a D dd gs hp) (f : Fit X S j) : ∀ (e : E) (x : Expr), hmE e S x = true → PE X x (hrd a dd gs (hvE hp e))
  | .var i, x, h => by
    unfold hmE at h
    split at h
    · rename_i y p
      obtain ⟨h1, h⟩ := and_t h
      obtain ⟨h2, h3⟩ := and_t h
      have h1 := dec_t h1
      obtain ⟨d1, d2⟩ := nm_ok h3
      rw [← f.N] at h1
      rw [← f.sc] at h2
      refine (pe_var h1 (vis_ok h2) d1 d2).imp fun σ H Q ⟨env, r, re, e, q⟩ => ?_
      unfold hvE at e
      split at e
      · rename_i v' ev
        cases e
        obtain ⟨u, e1, e2⟩ := re.at_ i _ ev
        exact ⟨u, e1, q _ H .refl e2⟩
      · cases e
    · cases h
  | .con d, x, h => by
    unfold hmE at h
    split at h
    · unfold conB at h
      split at h
      · exact pe_non.imp fun σ H Q ⟨env, r, re, e, q⟩ => by
          unfold hvE at e
          cases e
          exact q _ H .refl rfl
      · have h := beq_iff_eq.mp h
        subst h
        exact pe_bl.imp fun σ H Q ⟨env, r, re, e, q⟩ => by
          unfold hvE at e
          cases e
          exact q _ H .refl rfl
      · have h := dec_t h
        subst h
        exact pe_int.imp fun σ H Q ⟨env, r, re, e, q⟩ => by
          unfold hvE at e
          cases e
          exact q _ H .refl rfl
      · have h := dec_t h
        subst h
        exact pe_str.imp fun σ H Q ⟨env, r, re, e, q⟩ => by
          unfold hvE at e
          cases e
          exact q _ H .refl rfl
      · cases h
    · cases h
  | .lst m es, x, h => by
    unfold hmE at h
    split at h
    · refine (pe_lst (hs_Es c f es _ h)).imp fun σ H Q ⟨env, r, re, e, q⟩ => ?_
      unfold hvE at e
      split at e
      · rename_i l el
        split at e
        · rename_i hl
          refine ⟨env, l, re, el, fun vs H1 x1 pr => ⟨?_, fun p np => q _ _ (x1.trans (.new np)) (lst_of' e pr)⟩⟩
          rw [paired_len pr]
          exact Nat.le_trans hl (by decide)
        · cases e
      · cases e
    · cases h
  | .bin m op a' b', x, h => by
    unfold hmE at h
    split at h
    · obtain ⟨h1, h⟩ := and_t h
      obtain ⟨h2, h3⟩ := and_t h
      have h1 := dec_t h1
      subst h1
      by_cases ho : op = .Add
      · subst ho
        refine (pe_op op_hadd (hs_E c f a' _ h2) (hs_E c f b' _ h3)).imp fun σ H Q h => hrd_2 (f := hvAdd) (m1 := hvE hp a') (m2 := hvE hp b') ?_
        obtain ⟨env, r, re, e, q⟩ := h
        refine ⟨env, r, re, ?_, q⟩
        unfold hvE at e
        dsimp only
        cases e1 : hvE hp a' env <;> cases e2 : hvE hp b' env <;> rw [e1, e2] at e <;> first | cases e | exact e
      · refine ⟨fun pins s σ H Q I ⟨env, r, re, e, q⟩ => ?_⟩
        unfold hvE at e
        exfalso
        cases op <;> first | exact ho rfl | (cases e)
    · cases h
  | .isi a' own cn, x, h => by
    unfold hmE at h
    split at h
    · obtain ⟨h1, h⟩ := and_t h
      obtain ⟨h2, h⟩ := and_t h
      obtain ⟨h3, h⟩ := and_t h
      obtain ⟨h4, h⟩ := and_t h
      obtain ⟨h5, h⟩ := and_t h
      obtain ⟨h6, h7⟩ := and_t h
      have h1 := dec_t h1
      have h5 := dec_t h5
      subst h1
      subst h5
      cases hi : hp.is own cn with
      | none =>
        refine ⟨fun pins s σ H Q I ⟨env, r, re, e, q⟩ => ?_⟩
        unfold hvE at e
        rw [hi] at e
        split at e <;> cases e
      | some b =>
        obtain ⟨vc, cv, k1, k2, k3⟩ := c.k.is_ own cn b hi
        have hx := (ns_head h3).1
        have k4 : ∀ p, PE X (.Name (nm cn) p) (tC vc) := fun p => by
          rcases k3 with k3 | ⟨k3, k5, k6⟩
          · exact pe_glob (gl_ok f h4) k3 (cls_rel k1) (nm_ok h6).1
          · exact pe_bltn (gl_ok f h4) k3 k5 (cls_rel k1) k6 (nm_ok h6).1
        refine (pe_callB (c_isH c) (gl_ok f h2) c.k.blt boot_isinstance (pa_cons (hs_E c f a' _ h7) (pa_cons (k4 _) pa_nil (ns_cons fun y p z => by cases z)) (ns_cons hx)) (by decide) (by decide) (ns_cons hx) (ns_any rfl)).imp fun σ H Q ⟨env, r, re, e, q⟩ => ?_
        unfold hvE at e
        split at e
        · rename_i ev
          rw [hi] at e
          cases e
          refine ⟨env, .exc, re, ev, fun v H1 x1 rv => ⟨vc, cv, b, ?_, fun p ep => x1 _ _ (re.xd p ep), k1, k2, q _ H1 x1 rfl⟩⟩
          rw [show v = V.ref a from rv]
        · cases e
    · cases h
  | .mt m mt o .nil, x, h => by
    unfold hmE at h
    cases h
  | .mt m mt o (.cons _ (.cons _ _)), x, h => by
    unfold hmE at h
    cases h
  | .mt m mt o (.cons y .nil), x, h => by
    unfold hmE at h
    dsimp only at h
    split at h
    · obtain ⟨h1, h⟩ := and_t h
      obtain ⟨h2, h⟩ := and_t h
      obtain ⟨h3, h⟩ := and_t h
      obtain ⟨h4, h⟩ := and_t h
      obtain ⟨h5, h6⟩ := and_t h
      have h1 := dec_t h1
      subst h1
      have pe1 := hs_E c f o _ h5
      have pe2 := hs_E c f y _ h6
      have ns := ns_cons (es := []) (env := X.env) (ns_head h3).1
      have go : ∀ {env : HEnv} {r : HV}, hvE hp (.mt m mt o (.cons y .nil)) env = some r → ∃ hx hy, hvE hp o env = some hx ∧ hvE hp y env = some hy ∧ hvMt mt hx hy = some r := fun {env r} e => by
        unfold hvE at e
        dsimp only at e
        cases e1 : hvE hp o env with
        | none => rw [e1] at e; cases e
        | some hx =>
          cases e2 : hvE hp y env with
          | none => rw [e1, e2] at e; cases e
          | some hy =>
            rw [e1, e2] at e
            exact ⟨hx, hy, rfl, rfl, e⟩
      cases mt with
      | count =>
        refine (pe_bm F.plainAttrs_list F.slot_list_count F.type_list_count mt_countB pe1 (pa_cons pe2 pa_nil ns) (ab_ok h2) (few_one h3 _) h4 ns rfl).imp fun σ H Q ⟨env, r, re, e, q⟩ => ?_
        obtain ⟨hx, hy, e1, e2, e3⟩ := go e
        refine ⟨env, hx, re, e1, fun v H1 x1 rv => ?_⟩
        unfold hvMt at e3
        split at e3
        · cases e3
          obtain ⟨p, rfl, g⟩ := rv
          refine ⟨.inl ⟨rfl, _, SqL.of g⟩, env, .bl true, re.ext x1, e2, fun u H2 x2 ru => ?_⟩
          cases ru
          exact ⟨p, _, rfl, rfl, SqL.of (x2 _ _ g), q _ H2 (x1.trans x2) rfl⟩
        · rename_i w; cases w
        · cases e3
      | index =>
        refine (pe_bm F.plainAttrs_list F.slot_list_index F.type_list_index mt_index pe1 (pa_cons pe2 pa_nil ns) (ab_ok h2) (few_one h3 _) h4 ns rfl).imp fun σ H Q ⟨env, r, re, e, q⟩ => ?_
        obtain ⟨hx, hy, e1, e2, e3⟩ := go e
        refine ⟨env, hx, re, e1, fun v H1 x1 rv => ?_⟩
        unfold hvMt at e3
        split at e3
        · rename_i w; cases w
        · rename_i l w
          obtain ⟨j, ej, er⟩ := Option.map_eq_some_iff.mp e3
          subst er
          obtain ⟨hj, hj1, hj2⟩ := List.findIdx?_eq_some_iff_getElem.mp ej
          obtain ⟨p, rfl, g⟩ := rv
          refine ⟨.inl ⟨rfl, _, SqL.of g⟩, env, .bl true, re.ext x1, e2, fun u H2 x2 ru => ?_⟩
          cases ru
          refine ⟨p, _, .bl true, j, .bl l[j], rfl, rfl, SqL.of (x2 _ _ g), rfl, flat_bls l, by simp [hj], ?_, fun m z' hm hz => ?_, q _ H2 (x1.trans x2) rfl⟩
          · have : l[j] = true := hj1
            rw [this]
            rfl
          · have hml : m < l.length := by omega
            have hz2 : V.bl l[m] = z' := by
              rw [List.getElem?_map, List.getElem?_eq_getElem hml] at hz
              exact Option.some.inj hz
            have := hj2 m hm
            rw [← hz2]
            cases hb : l[m] with
            | true => rw [hb] at this; exact absurd rfl this
            | false => rfl
        · cases e3
      | _ =>
        refine ⟨fun pins s σ H Q I ⟨env, r, re, e, q⟩ => ?_⟩
        obtain ⟨hx, hy, e1, e2, e3⟩ := go e
        unfold hvMt at e3
        exfalso
        split at e3 <;> first | (rename_i w; cases w) | cases e3
    · cases h
  | .cmp op a' b', x, h => by
    unfold hmE at h
    split at h
    · obtain ⟨h1, h⟩ := and_t h
      obtain ⟨h2, h⟩ := and_t h
      obtain ⟨h3, h4⟩ := and_t h
      have h1 := dec_t h1
      subst h1
      refine (pe_cmpR (op_hcmp c op) (hs_E c f a' _ h3) (hs_E c f b' _ h4) (by simpa using h2)).imp fun σ H Q h => hrd_2 (f := hvCmp op) (m1 := hvE hp a') (m2 := hvE hp b') ?_
      obtain ⟨env, r, re, e, q⟩ := h
      exact ⟨env, r, re, e, q⟩
    · cases h
  | .cmp2 o1 o2 a' b' c', x, h => by
    unfold hmE at h
    split at h
    · obtain ⟨h1, h⟩ := and_t h
      obtain ⟨h2, h⟩ := and_t h
      obtain ⟨h3, h⟩ := and_t h
      obtain ⟨h4, h⟩ := and_t h
      obtain ⟨h5, h6⟩ := and_t h
      have h1 := dec_t h1
      have h2 := dec_t h2
      subst h1
      subst h2
      refine (pe_chain (op_hcmp c o1) (op_hcmp c o2) (hs_E c f a' _ h4) (hs_E c f b' _ h5) (hs_E c f c' _ h6) (by simpa using h3)).imp fun σ H Q ⟨env, r, re, e, q⟩ => ?_
      unfold hvE at e
      cases e1 : hvE hp a' env with
      | none => rw [e1] at e; cases e
      | some hx =>
        cases e2 : hvE hp b' env with
        | none => rw [e1, e2] at e; cases e
        | some hy =>
          rw [e1, e2] at e
          dsimp only at e
          refine ⟨env, hx, re, e1, fun v H1 x1 rv => ⟨env, hy, re.ext x1, e2, fun u H2 x2 ru => ?_⟩⟩
          split at e
          · rename_i er
            refine ⟨hx, hy, .bl true, rv.ext x2, ru, er, fun w H3 x3 rw_ => ⟨true, rw_, ?_⟩⟩
            rw [if_pos rfl]
            split at e
            · rename_i z ez
              exact ⟨env, z, re.ext (x1.trans (x2.trans x3)), ez, fun w' H4 x4 rw' => ⟨hy, z, r, ru.ext (x3.trans x4), rw', e, fun w2 H5 x5 r5 => q w2 H5 (x1.trans (x2.trans (x3.trans (x4.trans x5)))) r5⟩⟩
            · cases e
          · rename_i er
            cases e
            refine ⟨hx, hy, .bl false, rv.ext x2, ru, er, fun w H3 x3 rw_ => ⟨false, rw_, ?_⟩⟩
            rw [if_neg Bool.false_ne_true]
            exact q _ H3 (x1.trans (x2.trans x3)) rfl
          · cases e
    · cases h
  | .or a' b', x, h => by
    unfold hmE at h
    split at h
    · obtain ⟨h1, h⟩ := and_t h
      obtain ⟨h2, h3⟩ := and_t h
      refine (pe_or (hs_E c f a' _ h1) (pe_one (hs_E c f b' _ h3))).imp fun σ H Q ⟨env, r, re, e, q⟩ => ?_
      unfold hvE at e
      split at e
      · rename_i e1
        cases e
        exact ⟨env, .bl true, re, e1, fun v H1 x1 rv => ⟨true, rv, q _ H1 x1 rfl⟩⟩
      · rename_i e1
        exact ⟨env, .bl false, re, e1, fun v H1 x1 rv => ⟨false, rv, env, r, re.ext x1, e, fun w H2 x2 rw_ => q w H2 (x1.trans x2) rw_⟩⟩
      · cases e
    · cases h
  | .ite c' a' b', x, h => by
    unfold hmE at h
    split at h
    · obtain ⟨h0, h⟩ := and_t h
      obtain ⟨h1, h⟩ := and_t h
      obtain ⟨h2, h3⟩ := and_t h
      refine (pe_ifExp (hs_T c f c' _ h0 h1) (hs_E c f a' _ h2) (hs_E c f b' _ h3)).imp fun σ H Q ⟨env, r, re, e, q⟩ => ?_
      unfold hvE at e
      split at e
      · rename_i e1
        exact ⟨env, true, re, e1, fun H1 x1 => ⟨env, r, re.ext x1, e, fun w H2 x2 rw_ => q w H2 (x1.trans x2) rw_⟩⟩
      · rename_i e1
        exact ⟨env, false, re, e1, fun H1 x1 => ⟨env, r, re.ext x1, e, fun w H2 x2 rw_ => q w H2 (x1.trans x2) rw_⟩⟩
      · cases e
    · cases h
  | .ix a' b', x, h => by
    unfold hmE at h
    split at h
    · obtain ⟨h1, h⟩ := and_t h
      obtain ⟨h2, h3⟩ := and_t h
      refine (pe_ix ix_list (hs_E c f a' _ h2) (hs_E c f b' _ h3) (ix_ok h1)).imp fun σ H Q ⟨env, r, re, e, q⟩ => ?_
      unfold hvE at e
      split at e
      · rename_i l i e1 e2
        obtain ⟨z, ez, er⟩ := Option.map_eq_some_iff.mp e
        subst er
        refine ⟨env, _, re, e1, fun v H1 x1 rv => ⟨env, _, re.ext x1, e2, fun u H2 x2 ru => ?_⟩⟩
        obtain ⟨p, rfl, g⟩ := rv
        cases ru
        exact ⟨p, _, i, .str (tx z), rfl, rfl, SqL.of (x2 _ _ g), by rw [atV_map, ez]; rfl, q _ H2 (x1.trans x2) rfl⟩
      · cases e
    · cases h
  | .att o fl, x, h => by
    unfold hmE at h
    split at h
    · obtain ⟨h1, h⟩ := and_t h
      obtain ⟨h2, h3⟩ := and_t h
      have h1 := dec_t h1
      subst h1
      by_cases hf : fl ∈ hp.fl
      · refine (pe_attH c hf (hs_E c f o _ h3) (ab_ok h2)).imp fun σ H Q ⟨env, r, re, e, q⟩ => ?_
        unfold hvE at e
        split at e
        · rename_i e1
          rw [if_pos hf] at e
          cases e
          exact ⟨env, .exc, re, e1, fun v H1 x1 rv => ⟨rv, fun p ep => x1 _ _ (re.xd p ep), fun w hw => q w H1 x1 hw⟩⟩
        · cases e
      · refine ⟨fun pins s σ H Q I ⟨env, r, re, e, q⟩ => ?_⟩
        unfold hvE at e
        rw [if_neg hf] at e
        split at e <;> cases e
    · cases h
  | .glo _, x, h => by unfold hmE at h; cases h
  | .neg _, x, h => by unfold hmE at h; cases h
  | .not _, x, h => by unfold hmE at h; cases h
  | .and _ _, x, h => by unfold hmE at h; cases h
  | .bi _ _ _, x, h => by unfold hmE at h; cases h
  | .fn _ _ _ _, x, h => by unfold hmE at h; cases h
  | .new _ _ _ _, x, h => by unfold hmE at h; cases h
  | .me _ _ _ _ _, x, h => by unfold hmE at h; cases h
  | .sl _ _ _ _, x, h => by unfold hmE at h; cases h
  | .nop, x, h => by unfold hmE at h; cases h
  | .tup _, x, h => by unfold hmE at h; cases h
  | .star _, x, h => by unfold hmE at h; cases h
  | .dic _ _, x, h => by unfold hmE at h; cases h
  | .lc _ _ _ _ _ _ _, x, h => by unfold hmE at h; cases h
  | .dc _ _ _ _ _ _ _, x, h => by unfold hmE at h; cases h
  | .fs _, x, h => by unfold hmE at h; cases h
  | .fmt _, x, h => by unfold hmE at h; cases h
  | .cm _ _ _ _ _, x, h => by unfold hmE at h; cases h
  | .newv _ _ _ _, x, h => by unfold hmE at h; cases h
termination_by structural e => e
theorem hs_T (c : HCx X a D dd gs hp) (f : Fit X S j) : ∀ (e : E) (x : Expr), condB e = true → hmE e S x = true → PT X x (hrdT a dd gs (hvE hp e))
  | .cmp op a' b', x, _, h => by
    unfold hmE at h
    split at h
    · obtain ⟨h1, h⟩ := and_t h
      obtain ⟨h2, h⟩ := and_t h
      obtain ⟨h3, h4⟩ := and_t h
      have h1 := dec_t h1
      subst h1
      refine (pt_cmpR (op_hcmp c op) (hs_E c f a' _ h3) (hs_E c f b' _ h4) (by simpa using h2)).imp fun σ H Q h => ?_
      have h2 := hrdT_1 h
      exact hrd_2 (f := hvCmp op) (m1 := hvE hp a') (m2 := hvE hp b') h2
    · cases h
  | .or (.cmp o1 a1 b1) (.cmp o2 a2 b2), x, _, h => by
    unfold hmE at h
    split at h
    · obtain ⟨h1, h⟩ := and_t h
      obtain ⟨h2, h3⟩ := and_t h
      refine (pw_or (hs_T c f (.cmp o1 a1 b1) _ rfl h1) (pw_or1 (hs_T c f (.cmp o2 a2 b2) _ rfl h3))).pt.imp fun σ H Q ⟨env, b, re, e, q⟩ => ?_
      unfold hvE at e
      split at e
      · rename_i e1
        cases e
        exact ⟨env, true, re, e1, fun H1 x1 => q H1 x1⟩
      · rename_i e1
        exact ⟨env, false, re, e1, fun H1 x1 => ⟨env, b, re.ext x1, e, fun H2 x2 => q H2 (x1.trans x2)⟩⟩
      · cases e
    · cases h
  | .var _, _, h, _ => by cases h
  | .con _, _, h, _ => by cases h
  | .lst _ _, _, h, _ => by cases h
  | .bin _ _ _ _, _, h, _ => by cases h
  | .isi _ _ _, _, h, _ => by cases h
  | .mt _ _ _ _, _, h, _ => by cases h
  | .cmp2 _ _ _ _ _, _, h, _ => by cases h
  | .ite _ _ _, _, h, _ => by cases h
  | .ix _ _, _, h, _ => by cases h
  | .att _ _, _, h, _ => by cases h
termination_by structural e => e
theorem hs_Es (c : HCx X a D dd gs hp) (f : Fit X S j) : ∀ (es : Es) (xs : List Expr), hmEs es S xs = true → PA X xs (hrdA a dd gs (hvEs hp es))
  | .nil, xs, h => by
    unfold hmEs at h
    split at h
    · exact pa_nil.imp fun σ H Q ⟨env, r, re, e, q⟩ => by
        unfold hvEs at e
        cases e
        exact q _ H .refl .nil
    · cases h
  | .cons e es, xs, h => by
    unfold hmEs at h
    split at h
    · cases h
    · obtain ⟨h1, h⟩ := and_t h
      obtain ⟨h2, h3⟩ := and_t h
      refine (pa_cons (hs_E c f e _ h2) (hs_Es c f es _ h3) (ns_cons (ns_head h1).1)).imp fun σ H Q ⟨env, r, re, e', q⟩ => ?_
      unfold hvEs at e'
      split at e'
      · rename_i x xs e1 e2
        cases e'
        exact ⟨env, x, re, e1, fun v H1 x1 rv => ⟨env, xs, re.ext x1, e2, fun vs H2 x2 rvs => q _ H2 (x1.trans x2) (.cons (rv.ext x2) rvs)⟩⟩
      · cases e'
termination_by structural es => es
end
/-- a statement's reading -/
def hrdS (a : Addr) (dd : Option Addr) (gs : List (PySem.Str × V)) (m : HEnv → Option HO2) : TS := fun D σ H => ∃ env, HRel a dd gs env σ H ∧ (match m env with
  | some (.nx env') => ∀ σ' H', HExt H H' → HRel a dd gs env' σ' H' → D.nx σ' H'
  | some (.rt r) => ∀ v H', HExt H H' → RH a gs H' r v → D.rt v H'
  | none => False)
theorem swap_no {v : Expr} {x : PySem.Str} {p : Pos} {line : Nat} {env : PySem.Env} (h : isLC v = false) : swapsWith v (some (.Name x p)) line env = pure false := by
  cases v <;> first
    | rfl
    | cases h
mutual
theorem hs_S (c : HCx X a D dd gs hp) (f : Fit X S j) : ∀ (s : Z.S) (st : Stmt), hmS s S st = true → PS X st (hrdS a dd gs (hvS hp s))
  | .set (.name i) e, st, h => by
    unfold hmS at h
    split at h
    · rename_i w
      cases w
      obtain ⟨h1, h⟩ := and_t h
      obtain ⟨h2, h3⟩ := and_t h
      have n := st_ok f h1
      refine (ps_set c.nd n.at_ n.loc (hs_E c f e _ h3) (swap_no (by simpa using h2)) n.fn).imp fun E σ H ⟨env, re, k⟩ => ?_
      unfold hvS at k
      cases e1 : hvE hp e env with
      | none => rw [e1] at k; exact k.elim
      | some r =>
        rw [e1] at k
        exact ⟨env, r, re, e1, fun v H1 x1 rv => k _ H1 x1 ((re.ext x1).set i rv)⟩
    · cases h
  | .set (.names _) _, st, h => by
    unfold hmS at h
    cases h
  | .set (.star _ _) _, st, h => by
    unfold hmS at h
    cases h
  | .ifs c' s1 s2, st, h => by
    unfold hmS at h
    split at h
    · obtain ⟨h0, h⟩ := and_t h
      obtain ⟨h1, h⟩ := and_t h
      obtain ⟨h2, h3⟩ := and_t h
      refine (ps_if (hs_T c f c' _ h0 h1) (hs_Ss c f s1 _ h2) (hs_Ss c f s2 _ h3)).imp fun E σ H ⟨env, re, k⟩ => ?_
      unfold hvS at k
      split at k
      · rename_i q
        split at q
        · rename_i e1
          refine ⟨env, true, re, e1, fun H1 x1 => ⟨env, re.ext x1, ?_⟩⟩
          rw [q]
          exact fun σ' H' x2 r2 => k σ' H' (x1.trans x2) r2
        · rename_i e1
          refine ⟨env, false, re, e1, fun H1 x1 => ⟨env, re.ext x1, ?_⟩⟩
          rw [q]
          exact fun σ' H' x2 r2 => k σ' H' (x1.trans x2) r2
        · cases q
      · rename_i q
        split at q
        · rename_i e1
          refine ⟨env, true, re, e1, fun H1 x1 => ⟨env, re.ext x1, ?_⟩⟩
          rw [q]
          exact fun v H' x2 r2 => k v H' (x1.trans x2) r2
        · rename_i e1
          refine ⟨env, false, re, e1, fun H1 x1 => ⟨env, re.ext x1, ?_⟩⟩
          rw [q]
          exact fun v H' x2 r2 => k v H' (x1.trans x2) r2
        · cases q
      · exact k.elim
    · cases h
  | .ret e, st, h => by
    unfold hmS at h
    split at h
    · refine (ps_ret (hs_E c f e _ h)).imp fun E σ H ⟨env, re, k⟩ => ?_
      unfold hvS at k
      cases e1 : hvE hp e env with
      | none => rw [e1] at k; exact k.elim
      | some r =>
        rw [e1] at k
        exact ⟨env, r, re, e1, k⟩
    · cases h
  | .skip, st, h => by unfold hmS at h; cases h
  | .seq _ _, st, h => by unfold hmS at h; cases h
  | .seta _ _ _, st, h => by unfold hmS at h; cases h
  | .seti _ _ _, st, h => by unfold hmS at h; cases h
  | .aug _ _ _, st, h => by unfold hmS at h; cases h
  | .for_ _ _ _ _, st, h => by unfold hmS at h; cases h
  | .while_ _ _ _, st, h => by unfold hmS at h; cases h
  | .ret0, st, h => by unfold hmS at h; cases h
  | .retr _ _ _ _, st, h => by unfold hmS at h; cases h
  | .ex _, st, h => by unfold hmS at h; cases h
  | .raise _ _, st, h => by unfold hmS at h; cases h
  | .try_ _, st, h => by unfold hmS at h; cases h
  | .brk, st, h => by unfold hmS at h; cases h
  | .cont, st, h => by unfold hmS at h; cases h
  | .nope, st, h => by unfold hmS at h; cases h
termination_by structural s => s
theorem hs_Ss (c : HCx X a D dd gs hp) (f : Fit X S j) : ∀ (s : Z.S) (sts : List Stmt), hmSs s S sts = true → PSs X sts (hrdS a dd gs (hvS hp s))
  | .skip, sts, h => by
    unfold hmSs at h
    split at h
    · refine pss_nil.imp fun E σ H ⟨env, re, k⟩ => ?_
      unfold hvS at k
      exact k σ H .refl re
    · cases h
  | .seq s1 s2, sts, h => by
    unfold hmSs at h
    split at h
    · cases h
    · obtain ⟨h1, h2⟩ := and_t h
      refine (pss_cons (hs_S c f s1 _ h1) (hs_Ss c f s2 _ h2)).imp fun E σ H ⟨env, re, k⟩ => ⟨env, re, ?_⟩
      unfold hvS at k
      cases e1 : hvS hp s1 env with
      | none => rw [e1] at k; exact k.elim
      | some o =>
        rw [e1] at k
        cases o with
        | nx env1 =>
          dsimp only at k ⊢
          refine fun σ1 H1 x1 re1 => ⟨env1, re1, ?_⟩
          cases e2 : hvS hp s2 env1 with
          | none => rw [e2] at k; exact k.elim
          | some o2 =>
            rw [e2] at k
            cases o2 with
            | nx env2 => exact fun σ2 H2 x2 re2 => k σ2 H2 (x1.trans x2) re2
            | rt r => exact fun v H2 x2 rv => k v H2 (x1.trans x2) rv
        | rt r => exact k
  | .set _ _, sts, h => by unfold hmSs at h; cases h
  | .seta _ _ _, sts, h => by unfold hmSs at h; cases h
  | .seti _ _ _, sts, h => by unfold hmSs at h; cases h
  | .aug _ _ _, sts, h => by unfold hmSs at h; cases h
  | .ifs _ _ _, sts, h => by unfold hmSs at h; cases h
  | .for_ _ _ _ _, sts, h => by unfold hmSs at h; cases h
  | .while_ _ _ _, sts, h => by unfold hmSs at h; cases h
  | .ret _, sts, h => by unfold hmSs at h; cases h
  | .ret0, sts, h => by unfold hmSs at h; cases h
  | .retr _ _ _ _, sts, h => by unfold hmSs at h; cases h
  | .ex _, sts, h => by unfold hmSs at h; cases h
  | .raise _ _, sts, h => by unfold hmSs at h; cases h
  | .try_ _, sts, h => by unfold hmSs at h; cases h
  | .brk, sts, h => by unfold hmSs at h; cases h
  | .cont, sts, h => by unfold hmSs at h; cases h
  | .nope, sts, h => by unfold hmSs at h; cases h
termination_by structural s => s
end
end
end Z
/-! Y5: a def of the text, called where an exception is handled. -/
namespace Z
open PySem PySem.Spec PyProof.Rows L2

/-- a def that passes the small check, as it stands -/
structure HFn (K : PySem.W.Frag) (mg : MG) (d : Df) (g : Addr) : Prop where
  mg_ : mg d.name = some (.ref g)
  kp : PySem.W.keepIn K (.ref g) = true
  at_ : ∃ oc od kV doc pm an cdv ct osl, K.lookup g = some ⟨oc, od, .func (PySem.W.fnOf d.name d.qual d.params d.body d.scope .none kV doc pm an cdv ct), osl⟩ ∧ PySem.W.codeIn K cdv d.qual = true ∧
    ∀ (s : Shared) (us : List Value), us.length = d.fd.names.length → BindsTo s (PySem.W.fnOf d.name d.qual d.params d.body d.scope .none kV doc pm an cdv ct) ⟨us, []⟩ ((d.fd.names.map nm).zip us)
  fr : FnScope (d.fd.slots.map nm) (d.fd.names.map nm) d.scope
  ok : hmSs d.fd.body d.sc d.body = true
  lm : d.lm = false
section
variable {K : PySem.W.Frag} {mg : MG} {a D : Addr} {dd : Option Addr} {gs : List (PySem.Str × V)} {hp : HP}
/-- no exception leaves -/
abbrev CXN : CXT := fun _ _ _ _ _ _ => False
theorem hrel_start {H : Hp} {d : Df} {hs : List HV} {vs : List V} (rh : Paired (fun v r => RH a gs H r v) vs hs) (hl : hs.length ≤ d.fd.slots.length) (xd : ∀ p, dd = some p → H p = some (.xd gs)) :
    HRel a dd gs (hs.map some ++ List.replicate (d.fd.slots.length - hs.length) none) (L2.start (d.fd.slots.map nm) vs) H := by
  have len := paired_len rh
  refine ⟨?_, fun i r e => ?_, xd⟩
  · unfold L2.start
    simp [len]
  · by_cases hi : i < hs.length
    · rw [List.getElem?_append_left (by simpa using hi), List.getElem?_map] at e
      have get : ∀ {vs : List V} {hs : List HV} {i : Nat} {r : HV}, Paired (fun v r => RH a gs H r v) vs hs → hs[i]? = some r → ∃ v, vs[i]? = some v ∧ RH a gs H r v := by
        intro vs hs i r p
        induction p generalizing i with
        | nil => intro h; simp at h
        | cons q t ih =>
          intro h
          cases i with
          | zero =>
            simp at h
            subst h
            exact ⟨_, rfl, q⟩
          | succ i =>
            obtain ⟨v, h1, h2⟩ := ih (by simpa using h)
            exact ⟨v, by simpa using h1, h2⟩
      cases q : hs[i]? with
      | none => rw [q] at e; cases e
      | some r' =>
        rw [q] at e
        cases e
        obtain ⟨v, h1, h2⟩ := get rh q
        refine ⟨v, ?_, h2⟩
        unfold L2.start
        rw [List.getElem?_append_left (by rw [List.length_map, len]; exact hi), List.getElem?_map, h1]
        rfl
    · rw [List.getElem?_append_right (by simpa using hi)] at e
      exact absurd e rep_none
theorem hot_run {P : Program} {w : World} {base : Heap} {A : Around} {outer : List PySem.Env} {s : Shared} {H : Hp} {d : Df} {f : Addr} {us : List Value} {vs : List V} {hs : List HV} {r : HV} {Q : VK} {oe : Obj} (F : HFn K mg d f) (dp : A.depth + 3 < recursionLimit) (un : A.units + 100 < cLine)
    (pin : L2H.PinOk outer H s (a, oe)) (hz : Zc (.ref D) dd oe) (hf : ∃ vs, oe.data = .fields vs) (e0 : Env0 P w K mg base A outer s H) (rv : Vals vs us) (rh : Paired (fun v r => RH a gs H r v) vs hs) (hl : hs.length = d.fd.names.length) (xd : ∀ p, dd = some p → H p = some (.xd gs)) (k : HK K mg D dd gs hp)
    (ev : hvS hp d.fd.body (hs.map some ++ List.replicate (d.fd.slots.length - hs.length) none) = some (.rt r)) (q : ∀ v H', HExt H H' → RH a gs H' r v → Q v H') :
    codeAny (model P w) A (.call (.ref f) ⟨us, []⟩) (CR CXN outer P w H s Q (fun _ _ _ => False)) s := by
  obtain ⟨oc, od, kV, doc, pm, an, cdv, ct, osl, lk, hcd, hb⟩ := F.at_
  have KX : K.In s.heap := e0.mod.kin.keeps fun b o e => (e0.bs b o e).1
  have lim : s.heap.NoLimit := e0.mod.nolimit.keeps fun b o e => (e0.bs b o e).1
  have S := F.fr
  have ul : us.length = d.fd.names.length := by rw [← rv.length, paired_len rh, hl]
  have hkind : ∀ y ∈ (d.fd.names.map nm).zip us, d.scope.names.lookup y.1 = some .local ∨ (d.scope.names.lookup y.1 = some .cell ∧ ((cellsFrom (s.heap.objs.size + 1) d.scope.names []).lookup y.1).isSome = true) := by
    intro ⟨n, v⟩ hy
    exact (S.par n (List.of_mem_zip hy).1).imp id fun q => ⟨q, PySem.W.cellsFrom_some _ _ _ (.inl q)⟩
  refine codeAny_call_function (show A.depth < recursionLimit by omega) (KX _ _ lk) rfl S.co S.gen rfl (PySem.W.codeRec_of KX hcd) (hb s us ul _ _ _ _ ?_)
  refine wpAny_newFunctionEnv_cells S.kind hkind fun env he s1 x => ?_
  subst he
  refine ⟨lim.keeps x.toInCall.keep, codeAny_func ?_⟩
  have I := L2H.inv_startH (CX := CXN) (E := fun _ _ _ => False) S pin e0 (by rw [List.length_map, rv.length]; exact ul) rv x
  have c : HCx (L2H.cxH CXN P w K mg base (d.fd.slots.map nm) d.qual d.scope f cdv A outer s H (fun _ _ _ => False) (a, oe)) a D dd gs hp := ⟨S.nd, by show A.units + 3 + 66 < _; omega, ⟨oe, List.mem_singleton.mpr rfl, hz, hf⟩, k⟩
  have hls : hs.length ≤ d.fd.slots.length := by
    have := congrArg List.length S.pre
    rw [List.length_take, List.length_map, List.length_map] at this
    omega
  have hrd : hrdS a dd gs (hvS hp d.fd.body) { nx := fun _ H' => Q .non H', rt := Q } (L2.start (d.fd.slots.map nm) vs) H := ⟨_, hrel_start rh hls xd, by rw [ev]; exact q⟩
  refine wpAny_mono ((hs_Ss (S := d.sc) (j := 0) c ⟨rfl, rfl, fun _ => rfl, fun z => by rw [show d.sc.lm = d.lm from rfl, F.lm] at z; cases z⟩ d.fd.body d.body F.ok).run [] s1 _ H _ I hrd) (fun fl s' hs' => ?_) fun e s' hs' => hs'
  cases fl with
  | ret u =>
    obtain ⟨v, σ', H', J, r', q'⟩ := hs'
    exact ⟨v, H', J.os, J.bare, J.base, J.hok, r', q'⟩
  | next =>
    obtain ⟨σ', H', J, q'⟩ := hs'
    exact ⟨V.non, H', J.os, J.bare, J.base, J.hok, rfl, q'⟩
  | brk =>
    obtain ⟨_, _, _, q'⟩ := hs'
    exact q'.elim
  | cont =>
    obtain ⟨_, _, _, q'⟩ := hs'
    exact q'.elim
/-- its call, where the exception is pinned -/
theorem pe_hot {X : Cx} {d : Df} {f : Addr} {e : Expr} {es : List Expr} {ta : TA} {p pos : Pos} {oe : Obj} (F : HFn X.K X.mg d f) (dp : X.A.depth + 3 < recursionLimit) (un : X.A.units + 100 < cLine) (pn : (a, oe) ∈ X.pn) (hz : Zc (.ref D) dd oe) (hf : ∃ vs, oe.data = .fields vs) (k : HK X.K X.mg D dd gs hp)
    (hg : Gl X d.name) (hdb : (d.name == ("__debug__" : PySem.Str)) = false) (ha : PA X (e :: es) ta) (he : starEach (e :: es) X.env = (false, eval e X.env) :: starEach es X.env) (hpl : (backTo pos (starEach es X.env)).any (·.1) = false) :
    PE X (.Call (.Name d.name p) (e :: es) [] pos) (fun σ H Q => ta σ H fun vs H1 => ∃ hs r, Paired (fun v r => RH a gs H1 r v) vs hs ∧ hs.length = d.fd.names.length ∧ (∀ p, dd = some p → H1 p = some (.xd gs)) ∧
      hvS hp d.fd.body (hs.map some ++ List.replicate (d.fd.slots.length - hs.length) none) = some (.rt r) ∧ ∀ v H', HExt H1 H' → RH a gs H' r v → Q v H') := by
  refine ⟨fun pins s σ H Q I h => wpAny_Call_Name_kw (ld_glob I hg F.mg_ ?_ hdb)⟩
  refine PySem.W.callWith_K (h₀ := X.base) I.ok.mod.kin F.kp (thn (ha.run pos pins s σ H _ I h) fun us s1 ⟨vs, H1, I1, r1, hs, r, rh, hl, xd, ev, q⟩ => ⟨I1.kIn, ?_⟩) he hpl
  have P1 := I1.pin (a, oe) (List.mem_append_left _ pn)
  have pin : L2H.PinOk X.stack H1 s1 (a, oe) := ⟨P1.1, P1.2.1, fun hm => (List.mem_cons.mp (I1.stkSub a hm)).elim P1.2.2.1 P1.2.2.2.1, P1.2.2.2.2⟩
  refine wpAny_call (codeAny_mono (hot_run F dp un pin hz hf I1.env0 r1 rh hl xd k ev q) fun r s' hq => ?_)
  match r, hq with
  | .error e, hq => exact (show False from hq).elim
  | .ok (.ret u), hq => exact I1.after hq
end
end Z
/-! Y6: a lambda is made; things are added. -/
namespace Z
open PySem PySem.Spec PyProof.Rows L2

section
variable {K : PySem.W.Frag} {mg : MG} {ρ : Rh} {H H' : Hp} {hd : Hd}
/-- things are added -/
theorem Ext.hext (mo : MOk K mg ρ H hd) (e : ∀ b o, H b = some o → H' b = some o) : Ext ρ H ρ H' := by
  refine ⟨⟨[], by simp⟩, fun a o h _ _ => e a o h, fun a h => ?_, fun a h n => absurd h n, fun a h => ?_, fun P t => t.keep rfl fun a o h na => ⟨na, e a o h⟩⟩
  · cases q : H a with
    | none => rfl
    | some o => rw [e a o q] at h; cases h
  · obtain ⟨o, q⟩ := (mo.hid a h).2
    rw [q, e a o q]
theorem MOk.hext (mo : MOk K mg ρ H hd) (e : ∀ b o, H b = some o → H' b = some o) : MOk K mg ρ H' hd := by
  have x := Ext.hext mo e
  refine ⟨mo.len, mo.nd, fun n a m e1 e2 => ?_, fun a h => ⟨(mo.hid a h).1, ?_⟩, mo.nm, fun P q h => x.tab P (mo.tabs P q h)⟩
  · have r := mo.at_ n a m e1 e2
    obtain ⟨o, g, _⟩ := r.at_
    exact r.ext x (by rw [g, e a o g])
  · obtain ⟨o, q⟩ := (mo.hid a h).2
    exact ⟨o, e a o q⟩
end
section
variable {X : Cx} {pins : List (Addr × Obj)} {σ : L2.St} {H : Hp} {s : Shared} {ρ : Rh} {hd : Hd}
theorem mem_look {α β : Type} [BEq α] [LawfulBEq α] {a : α} {b : β} : ∀ {l : List (α × β)}, l.lookup a = some b → (a, b) ∈ l
  | [], h => by cases h
  | (x, y) :: l, h => by
    rw [List.lookup_cons] at h
    split at h
    · rename_i q
      cases h
      rw [eq_of_beq q]
      exact List.mem_cons_self ..
    · exact List.mem_cons_of_mem _ (mem_look h)
/-- the lambda is made: nothing that is known goes -/
theorem lam_new {params : Arguments} {body : Expr} {scope : Scope} {pos : Pos} {E : Value → Shared → Prop} {Q : Value → Shared → Prop} (I : Inv X pins σ H s) (mo : MOk X.K X.mg ρ H hd) (L : LamOk X) (hdef : defaultsOf params X.env = ([], []))
    (hfree : ∀ y ∈ scope.names, y.2 = .free → ∃ c, X.env.cells.lookup y.1 = some c)
    (h : ∀ (f c' : Addr) (pm ctv : Value) (H1 : Hp) (s' : Shared), Inv X pins σ H1 s' → Ext ρ H ρ H1 → MOk X.K X.mg ρ H1 hd →
      s'.heap.get? f = some (PySem.W.kla_obj "<lambda>" (X.env.qual ++ "<lambda>") params body scope (cloFrom X.env.cells scope.names []) pm c' ctv) → H1 f = none → f ∉ frs X.stack → H1 c' = some (LamX.CodeO c' (X.env.qual ++ "<lambda>")) → Q (.ref f) s') :
    wpAny (model X.prog X.w) X.A (eval (.Lambda params body scope pos) X.env) Q E s := by
  obtain ⟨c, P, hcode, hlk, TB⟩ := L
  have tz := mo.tabs P _ (mem_look hlk)
  have hq : ρ.n P = X.env.qual ++ "<lambda>" := by
    rw [mo.nm]
    unfold lamN
    rw [hlk]
    rfl
  obtain ⟨ps, hP, ht, ha⟩ := tz.tab
  rw [hq] at ha
  refine PySem.W.kla_eval hdef ?_
  have bP : s.heap.BuiltinsAt X.mg P := TB.bm.keeps I.bk
  have hP' : s.heap.get? P = some { cls := .none, data := .fields ps } := I.hok P _ hP
  have nofr : ∀ f, s.heap.objs.size ≤ f → f ∉ frs X.stack := fun f hf z => by
    rcases List.mem_cons.mp (I.stkSub _ z) with e | e
    · have h1 := I.lt
      rw [← e] at h1
      exact absurd (Nat.lt_of_lt_of_le h1 hf) (Nat.lt_irrefl _)
    · exact I.nofs hf e
  cases hc : codeAmong pos ps.toList with
  | none =>
    refine PySem.W.kla_makeFunction (mg := X.mg) (c := c) (P := P) (ps := ps) (closure_ok hfree) I.ok.glob (I.mod.glob.keeps I.bk) hcode (TB.code.keeps I.bk) hP' ht hc TB.gP bP fun c' ctv h' tk hx hge hlt hrec htb => ?_
    obtain ⟨_, oc, vs, t, e2, hoc, hd', hv⟩ := hrec
    cases e2
    have hsz : s.heap.objs.size ≤ h'.objs.size := Nat.le_trans hge (Nat.le_of_lt hlt)
    have nC : H c' = none := I.hok.fresh hge
    have nCr : c' ∉ ρ := mo.notin nC
    have PC : P ≠ c' := fun z => by rw [z, nC] at hP; cases hP
    let more : Array Value := #[rawInt pos.line, rawInt pos.col, .ref c']
    let H1 : Hp := upd (upd H P (.tbl (ps ++ more))) c' (LamX.CodeO c' (X.env.qual ++ "<lambda>"))
    have at1 : ∀ a, a ≠ P → a ≠ c' → H1 a = H a := fun a h1 h2 => by show upd (upd H P _) c' _ a = _; rw [upd_ne h2, upd_ne h1]
    have atP : H1 P = some (.tbl (ps ++ more)) := by show upd (upd H P _) c' _ P = _; rw [upd_ne PC, upd_same]
    have atC : H1 c' = some (LamX.CodeO c' (X.env.qual ++ "<lambda>")) := upd_same
    have kp : ∀ a o, H a = some o → (∀ qs, o ≠ .tbl qs) → H1 a = some o := fun a o e n => by
      rw [at1 a (fun z => n ps (by rw [z, hP] at e; exact (Option.some.inj e).symm)) (fun z => by rw [z, nC] at e; cases e)]
      exact e
    have I1 : Inv X pins σ H1 _ := LamX.inv_table (t' := tk) (more := more) (h' := h'.push (PySem.W.kla_obj "<lambda>" (X.env.qual ++ "<lambda>") params body scope (cloFrom X.env.cells scope.names []) ((X.mg "__name__").getD .none) c' ctv)) I hP
      (fun b o hb e => Heap.get?_push_of_some _ (hx b o hb e)) (Heap.get?_push_of_some _ htb) hge ⟨oc, vs, t, Heap.get?_push_of_some _ hoc, hd', hv⟩
    have X1 : Ext ρ H ρ H1 := by
      refine ⟨⟨[], by simp⟩, fun a o e _ n => kp a o e n, fun a e => ?_, fun a h n => absurd h n, fun a e => ?_, fun P' t' => ?_⟩
      · by_cases z1 : a = c'
        · rw [z1]; exact nC
        · by_cases z2 : a = P
          · rw [z2, atP] at e; cases e
          · rw [at1 a z2 z1] at e; exact e
      · exact at1 a (fun z => tz.out (by rw [← z]; exact .inr e)) fun z => nCr (by rw [← z]; exact .inr e)
      · obtain ⟨out, ps', g1, g2, g3⟩ := t'
        have old : ∀ (pos' : Pos) (u : Value), codeAmong pos' ps'.toList = some u → ∃ c, u = .ref c ∧ c ∉ ρ ∧ H1 c = some (LamX.CodeO c (ρ.n P')) := fun pos' u e => by
          obtain ⟨c0, e1, e2, e3⟩ := g3 pos' u e
          exact ⟨c0, e1, e2, kp _ _ e3 LamX.codeO_ne⟩
        by_cases z : P' = P
        · rw [z] at g1 ⊢
          have ep : ps' = ps := by rw [hP] at g1; cases g1; rfl
          have el : (ps ++ more).toList = ps.toList ++ [rawInt pos.line, rawInt pos.col, .ref c'] := by simp [more]
          refine ⟨tz.out, _, atP, by rw [el]; exact PySem.TriplesOk_snoc _ _ _ _ ht, fun pos' u e => ?_⟩
          rw [el] at e
          rcases LamX.among_app _ ht e with e | e
          · rw [z, ep] at old
            exact old pos' u e
          · exact ⟨c', e, nCr, by rw [hq]; exact atC⟩
        · exact ⟨out, ps', by rw [at1 P' z (fun w => by rw [w, nC] at g1; cases g1)]; exact g1, g2, old⟩
    have M1 : MOk X.K X.mg ρ H1 hd := by
      have same : ∀ a, a ∈ ρ → H1 a = H a := fun a e => at1 a (fun z => tz.out (by rw [← z]; exact e)) fun z => nCr (by rw [← z]; exact e)
      exact ⟨mo.len, mo.nd, fun n a m e1 e2 => (mo.at_ n a m e1 e2).ext X1 (same a (.inl (List.mem_of_getElem? e1))), fun a e => ⟨(mo.hid a e).1, by rw [same a (.inr e)]; exact (mo.hid a e).2⟩, mo.nm, fun P q e => X1.tab P (mo.tabs P q e)⟩
    refine h h'.objs.size c' ((X.mg "__name__").getD .none) ctv H1 _ I1 X1 M1 (Heap.get?_push_size _ rfl) ?_ (nofr _ hsz) atC
    rw [at1 _ (Nat.ne_of_gt (Nat.lt_of_lt_of_le (Heap.lt_size hP') hsz)) (Nat.ne_of_gt hlt)]
    exact I.hok.fresh hsz
  | some cv =>
    obtain ⟨c', e, _, hco⟩ := ha pos cv hc
    subst e
    refine PySem.W.kla_makeFunctionHit (mg := X.mg) (c := c) (P := P) (ps := ps) (closure_ok hfree) I.ok.glob (I.mod.glob.keeps I.bk) hcode (TB.code.keeps I.bk) hP' ht hc bP fun ctv h' tk hx hsz => ?_
    have I1 : Inv X pins σ H { s with heap := h'.push (PySem.W.kla_obj "<lambda>" (X.env.qual ++ "<lambda>") params body scope (cloFrom X.env.cells scope.names []) ((X.mg "__name__").getD .none) c' ctv), toks := tk } := I.kept fun b o e => Heap.get?_push_of_some _ (hx b o e)
    exact h h'.objs.size c' ((X.mg "__name__").getD .none) ctv H _ I1 .refl mo (Heap.get?_push_size _ rfl) (I.hok.fresh hsz) (nofr _ hsz) hco
end
end Z
/-! Y7: told(lambda: e). -/
namespace Z
open PySem PySem.Spec PyProof.Rows L2

/-- the body of the def that tells: its shape -/
def tdB (sc : Scope) : List Stmt → Bool
  | [.Try [.Assign [.Name b1 _] (.Call (.Name a1 _) [] [] _) _] [.ExceptHandler (some (.Tuple [.Name x1 _, .Name x2 _, .Name x3 _] _ _)) (some e1)
      [.Assign [.Name w1 _] (.Call (.Name f1 _) [.Name e2 _] [] _) _, .Return (some (.List [.Name w2 _, .Call (.Name r1 _) [.Call (.Name f2 _) [.Name e3 _, .Name w3 _] [] _] [] _] _)) _] _] [] [] _,
     .Return (some (.List [.Constant (.str t1) _ _, .Name b2 _] _)) _] =>
    decide (a1 = ("_law_act" : PySem.Str)) && (decide (b1 = ("_law_back" : PySem.Str)) && (decide (b2 = ("_law_back" : PySem.Str)) && (decide (w1 = ("_law_word" : PySem.Str)) && (decide (w2 = ("_law_word" : PySem.Str)) && (decide (w3 = ("_law_word" : PySem.Str)) &&
    (decide (e1 = ("_law_e" : PySem.Str)) && (decide (e2 = ("_law_e" : PySem.Str)) && (decide (e3 = ("_law_e" : PySem.Str)) && (decide (x1 = ("NotRight" : PySem.Str)) && (decide (x2 = ("NotThere" : PySem.Str)) && (decide (x3 = ("CannotBe" : PySem.Str)) &&
    (decide (f1 = ("_law_error" : PySem.Str)) && (decide (f2 = ("_law_field" : PySem.Str)) && (decide (r1 = ("repr" : PySem.Str)) && (decide (t1 = tx [116, 111, 108, 100]) &&
    (["NotRight", "NotThere", "CannotBe", "_law_error", "_law_field", "repr"].all (fun x => glB sc (nm x)) && ["_law_act", "_law_back", "_law_word", "_law_e"].all (fun x => decide (sc.names.lookup (nm x) = some .local))))))))))))))))))
  | _ => false
abbrev tdN : List PySem.Str := ["_law_act", "_law_back", "_law_word", "_law_e"]
/-- what a class's exceptions answer -/
def hpOf (x : Ex) : HP := ⟨fun own c => x.asks.lookup (own, c), x.told.toList⟩
def fldOf (x : Ex) : HV := match x.told with
  | some f => .fld f
  | none => .non
/-- the ground of telling -/
structure TdOk (K : PySem.W.Frag) (mg : MG) (T : Tab) (g fE fF : Addr) (dT dE dF : Df) (c1 c2 c3 : Addr) : Prop where
  mg_ : mg "_law_told" = some (.ref g)
  kp : PySem.W.keepIn K (.ref g) = true
  nT : dT.name = "_law_told" ∧ dT.qual = "_law_told"
  at_ : ∃ oc od kV doc pm an cdv ct osl, K.lookup g = some ⟨oc, od, .func (PySem.W.fnOf dT.name dT.qual dT.params dT.body dT.scope .none kV doc pm an cdv ct), osl⟩ ∧ PySem.W.codeIn K cdv dT.qual = true ∧
    ∀ (s : Shared) (u : Value), BindsTo s (PySem.W.fnOf dT.name dT.qual dT.params dT.body dT.scope .none kV doc pm an cdv ct) ⟨[u], []⟩ [("_law_act", u)]
  fr : FnScope tdN ["_law_act"] dT.scope
  body : tdB dT.scope dT.body = true
  er : HFn K mg dE fE
  fi : HFn K mg dF fF
  nE : dE.name = "_law_error" ∧ dE.fd.names.length = 1
  nF : dF.name = "_law_field" ∧ dF.fd.names.length = 2
  rp : mg "repr" = none
  sm : SmOk K
  n1 : mg "NotRight" = some (.ref c1)
  n2 : mg "NotThere" = some (.ref c2)
  n3 : mg "CannotBe" = some (.ref c3)
  exc : ∀ C x, T.exc C = some x → ∃ D, mg (nm C) = some (.ref D) ∧ PySem.W.exmAny K (.ref D) [.ref c1, .ref c2, .ref c3] = some true ∧
    (∀ dd gs, (∀ f, x.told = some f → ∃ p v, dd = some p ∧ gs.lookup (nm f) = some v) → HK K mg D dd gs (hpOf x)) ∧
    hvS (hpOf x) dE.fd.body ([.exc].map some ++ List.replicate (dE.fd.slots.length - 1) none) = some (.rt (.tx x.word)) ∧
    hvS (hpOf x) dF.fd.body ([.exc, .tx x.word].map some ++ List.replicate (dF.fd.slots.length - 2) none) = some (.rt (fldOf x))
section
variable {K : PySem.W.Frag} {mg : MG} {ρ : Rh} {H : Hp}
theorem RDf.lookup : ∀ {fs : List (String × D)} {gs : List (PySem.Str × V)} {f : String} {d : D}, RDf K mg ρ H fs gs → fs.lookup f = some d → ∃ v, gs.lookup (nm f) = some v ∧ RD K mg ρ H d v
  | _, _, f, d, .nil, h => by cases h
  | _, _, f, d, .cons (f := g) (x := y) (v := v) r t, h => by
    rw [List.lookup_cons] at h
    by_cases e : f = g
    · subst e
      rw [show (f == f) = true from beq_self_eq_true f] at h
      cases h
      exact ⟨v, by rw [List.lookup_cons, show (nm f == nm f) = true from beq_self_eq_true _], r⟩
    · rw [show (f == g) = false from beq_eq_false_iff_ne.mpr e] at h
      obtain ⟨v', h1, h2⟩ := RDf.lookup t h
      refine ⟨v', ?_, h2⟩
      rw [List.lookup_cons, show (nm f == nm g) = false from beq_eq_false_iff_ne.mpr fun z => e (nm_inj z)]
      exact h1
end
/-- a wish of the suite -/
def tsTd (K : PySem.W.Frag) (mg : MG) (hE hF : HP → HEnv → Option HO2) (nE nF : Nat) : Addr → Value → Option Addr → TS := fun a cls d D σ H => ∃ (Dc : Addr) (gs : List (PySem.Str × V)) (hp : HP) (word : List Nat) (fo : HV), cls = .ref Dc ∧ HK K mg Dc d gs hp ∧ (∀ p, d = some p → H p = some (.xd gs)) ∧
  hE hp ([.exc].map some ++ List.replicate (nE - 1) none) = some (.rt (.tx word)) ∧ hF hp ([.exc, .tx word].map some ++ List.replicate (nF - 2) none) = some (.rt fo) ∧ σ[3]? = some (some (.ref a)) ∧ 3 < σ.length ∧
  ∀ v H1, HExt H H1 → RH a gs H1 fo v → rN K mg (on1 shwS) [v] H1 fun z H2 => ∀ p, H2 p = none → D.rt (.ref p) (upd H2 p (.lst [.str (tx word), z]))
section
variable {X : Cx} {T : Tab} {g fE fF : Addr} {dT dE dF : Df} {c1 c2 c3 : Addr}
/-- the suite's rows -/
theorem td_suite {Y : Cx} {a : Addr} {oe : Obj} {cls : Value} {d : Option Addr} {p1 p2 p3 p4 p5 p6 p7 p8 p9 p10 p11 p12 p13 p14 : Pos} (t : TdOk Y.K Y.mg T g fE fF dT dE dF c1 c2 c3) (hN : Y.N = tdN) (sc : tdB Y.env.scope dT.body = true) (pn : (a, oe) ∈ Y.pn) (hz : Zc cls d oe) (hf : ∃ vs, oe.data = .fields vs)
    (dp : Y.A.depth + 3 < recursionLimit) (un : Y.A.units + 100 < cLine) (gu : Y.A.guards = some [])
    (gE : Gl Y "_law_error") (gF : Gl Y "_law_field") (gR : Gl Y "repr") (lW : Y.env.scope.names.lookup ("_law_word" : PySem.Str) = some .local) (lE : Y.env.scope.names.lookup ("_law_e" : PySem.Str) = some .local) :
    PSs Y [.Assign [.Name "_law_word" p1] (.Call (.Name "_law_error" p2) [.Name "_law_e" p3] [] p4) p5, .Return (some (.List [.Name "_law_word" p6, .Call (.Name "repr" p7) [.Call (.Name "_law_field" p8) [.Name "_law_e" p9, .Name "_law_word" p10] [] p11] [] p12] p13)) p14]
      (tsTd Y.K Y.mg (fun hp => hvS hp dE.fd.body) (fun hp => hvS hp dF.fd.body) dE.fd.slots.length dF.fd.slots.length a cls d) := by
  refine ⟨fun pins s σ H E I ⟨Dc, gs, hp, word, fo, ec, k, xd, ev1, ev2, se, sl, q⟩ => ?_⟩
  subst ec
  have nd : Y.N.Nodup := by rw [hN]; decide
  have vE : ∀ {p : Pos}, PE Y (.Name "_law_e" p) (tVar 3) := fun {p} => pe_var (by rw [hN]; rfl) (.inl lE) (by decide) (by decide)
  have vW : ∀ {p : Pos}, PE Y (.Name "_law_word" p) (tVar 2) := fun {p} => pe_var (by rw [hN]; rfl) (.inl lW) (by decide) (by decide)
  have hE := pe_hot (pos := p4) (p := p2) t.er dp un pn hz hf k (by rw [t.nE.1]; exact gE) (by rw [t.nE.1]; decide) (pa_cons (vE (p := p3)) pa_nil (ns_cons fun y p z => by cases z)) (ns_cons fun y p z => by cases z) rfl
  have hF := pe_hot (pos := p11) (p := p8) t.fi dp un pn hz hf k (by rw [t.nF.1]; exact gF) (by rw [t.nF.1]; decide) (pa_cons (vE (p := p9)) (pa_cons (vW (p := p10)) pa_nil (ns_cons fun y p z => by cases z)) (ns_cons fun y p z => by cases z)) (ns_cons fun y p z => by cases z) rfl
  rw [t.nE.1] at hE
  rw [t.nF.1] at hF
  have hR := pe_callB (p := p7) (pos := p12) (c_repr t.sm gu (by omega)) gR t.rp boot_repr (pa_cons hF pa_nil (ns_cons fun y p z => by cases z)) (by decide) (by decide) (ns_cons fun y p z => by cases z) rfl
  have all := pss_cons (ps_set (pos := p5) (pos' := p1) (i := 2) nd (by rw [hN]; rfl) (.inl lW) hE rfl (.inr lW)) (pss_one (ps_ret (pos := p14) (pe_lst (pos := p13) (pa_cons (vW (p := p6)) (pa_cons hR pa_nil (ns_cons fun y p z => by cases z)) (ns_cons fun y p z => by cases z)))))
  refine all.run pins s σ H E I ⟨.ref a, se, [.exc], .tx word, .cons rfl .nil, t.nE.2.symm, xd, ev1, fun v H1 x1 rv => ?_⟩
  rw [show v = V.str (tx word) from rv]
  have s2 : (σ.set 2 (some (V.str (tx word))))[2]? = some (some (V.str (tx word))) := List.getElem?_set_self (by omega)
  have s3 : (σ.set 2 (some (V.str (tx word))))[3]? = some (some (V.ref a)) := by rw [List.getElem?_set_ne (by decide)]; exact se
  refine ⟨_, s2, _, s3, _, s2, [.exc, .tx word], fo, .cons rfl (.cons rfl .nil), t.nF.2.symm, fun p ep => x1 _ _ (xd p ep), ev2, fun v2 H2 x2 rv2 => ?_⟩
  have q2 := q v2 H2 (x1.trans x2) rv2
  obtain ⟨ρ, hd, ds, mo, rds, ok⟩ := q2
  exact ⟨ρ, hd, ds, mo, rds, ok.imp fun z hd' fz ρ' H3 e3 m3 w rw_ => ⟨by show 2 ≤ sizeLine; decide, fz ρ' H3 e3 m3 w rw_⟩⟩
/-- what was handed over is called: a(), in the context of the def that got it -/
theorem pe_acts {pins : List (Addr × Obj)} {σ : L2.St} {H : Hp} {s : Shared} {Ng : List PySem.Str} {qg : PySem.Str} {sg : Scope} {gg f c' : Addr} {cdg pm ctv : Value} {params : Arguments} {body : Expr} {scope : Scope} {k i : Nat} {an : PySem.Str} {pn : List (Addr × Obj)} {xe : Value → Shared → Prop} {W : WX} {E Eg : XK} {tb : TE} {CXg : CXT} {p1 p2 : Pos}
    (I : Inv X pins σ H s) (L : LamX.LamS X.env.scope scope) (hf : s.heap.get? f = some (PySem.W.kla_obj "<lambda>" (X.env.qual ++ "<lambda>") params body scope (cloFrom X.env.cells scope.names []) pm c' ctv)) (hfn : H f = none) (hfr : f ∉ frs X.stack)
    (bind : bindArgs (PySem.W.kla_fn "<lambda>" (X.env.qual ++ "<lambda>") params body scope (cloFrom X.env.cells scope.names []) pm (.ref c') ctv) ⟨[], []⟩ = pure [])
    (tk : Takes ((cxOf CXg X.prog X.w X.K X.mg X.base Ng qg sg gg cdg X.A X.stack s H Eg).tr pn xe) W) (hh : X.A.handled = none) (dp : X.A.depth + 20 < recursionLimit)
    (hbody : ∀ (s1 : Shared) (H1 : Hp), PE (LamX.lamCx X (X.A.deeper (envOfC qg sg s.heap.objs.size gg cdg)) (envOfC qg sg s.heap.objs.size gg cdg :: X.stack) s1 H1 E scope f c') body tb)
    (hN : Ng[i]? = some an) (hv : Vis sg an) (hd : (an == ("__debug__" : PySem.Str)) = false) (hcd : (an == ("__classdict__" : PySem.Str)) = false) :
    PE ((cxOf CXg X.prog X.w X.K X.mg X.base Ng qg sg gg cdg X.A X.stack s H Eg).tr pn xe) (.Call (.Name an p1) [] [] p2) (fun σ1 H1 Q => (∀ cls d H', E cls d H' → W cls d σ1 H') ∧ σ1[i]? = some (some (.ref f)) ∧ H1 c' = some (LamX.CodeO c' (X.env.qual ++ "<lambda>")) ∧ tb σ H1 Q) := by
  refine ⟨fun pins1 s1 σ1 H1 Q I1 ⟨hW, hs, hc, ht⟩ => wpAny_Call_Name_kw ?_⟩
  have read := (pe_var (X := (cxOf CXg X.prog X.w X.K X.mg X.base Ng qg sg gg cdg X.A X.stack s H Eg).tr pn xe) (pos := p1) (i := i) hN hv hd hcd).run pins1 s1 σ1 H1 (fun v H2 => v = .ref f ∧ H2 = H1) I1 ⟨.ref f, hs, rfl, rfl⟩
  refine thn read fun u s2 ⟨v, H2, I2, r2, ev, eH⟩ => ?_
  subst ev eH
  obtain rfl : u = Value.ref f := r2
  have there : s2.heap.get? f = some (PySem.W.kla_obj "<lambda>" (X.env.qual ++ "<lambda>") params body scope (cloFrom X.env.cells scope.names []) pm c' ctv) := I2.base.keep f _ hf hfn hfr (by intro z; cases z)
  refine PySem.W.callWith_F0 ⟨_, _, _, _, there⟩ ?_
  have un : Un (frs X.stack) [] H H2 s.heap s2.heap := I2.base
  obtain ⟨⟨oc, vs, t, g1, g2, g3⟩, _, _⟩ := I2.hok c' _ hc
  let Ag := X.A.deeper (envOfC qg sg s.heap.objs.size gg cdg)
  have run : codeAny (model X.prog X.w) Ag (.call (.ref f) ⟨[], []⟩) (CR (L2.CX X.prog X.w) (envOfC qg sg s.heap.objs.size gg cdg :: X.stack) X.prog X.w H2 s2 Q E) s2 := by
    refine PySem.W.kla_callFunE (show X.A.depth + 1 < recursionLimit by omega) there rfl L.co L.gen rfl ⟨c', oc, vs, t, rfl, g1, g2, g3⟩ ?_
    rw [bind]
    refine wpAny_pure (wpAny_newFunctionEnv (fun y hy => (L.own y hy).2) (fun y hy => absurd hy (by simp)) (fun h1 hns hsb => ⟨I2.nolimit.fresh _ hsb, ?_⟩) L.kind)
    have kp : ∀ b o, s2.heap.get? b = some o → h1.get? b = some o := fun b o e => hsb.extBut b o (Nat.ne_of_lt (Heap.lt_size e)) (Heap.get?_push_of_some _ e)
    have J : Inv (LamX.lamCx X Ag (envOfC qg sg s.heap.objs.size gg cdg :: X.stack) s2 H2 E scope f c') [] σ H2 { s2 with heap := h1, toks := s2.toks + ([] : List (PySem.Str × Value)).length } := LamX.lam_start2 I L I2.env0 hh un hns kp
    refine PySem.W.kla_codeExpr (wpAny_mono ((hbody s2 H2).run [] _ _ H2 Q J ht) (fun v s' hq => ?_) fun e s' hq => hq)
    obtain ⟨w', H', J', rv, q⟩ := hq
    exact ⟨w', H', J'.os, J'.bare, J'.base, J'.hok, rv, q⟩
  refine wpAny_call (codeAny_mono run fun r s' hq => ?_)
  match r, hq with
  | .error e, hq => exact tk e s' (XE.of_call I2 (fun cls d H' h => hW cls d H' h) hq)
  | .ok (.ret u), hq => exact I2.after hq
theorem len_start {f : Addr} : (L2.start tdN [.ref f]).length = 4 := rfl
theorem td_glo {sc : Scope} (h : (["NotRight", "NotThere", "CannotBe", "_law_error", "_law_field", "repr"].all fun x => glB sc (nm x)) = true) {y : String} (hy : y ∈ ["NotRight", "NotThere", "CannotBe", "_law_error", "_law_field", "repr"]) : sc.names.lookup (nm y) = some .globalImplicit := dec_t (List.all_eq_true.mp h y hy)
theorem td_loc {sc : Scope} (h : (["_law_act", "_law_back", "_law_word", "_law_e"].all fun x => decide (sc.names.lookup (nm x) = some .local)) = true) {y : String} (hy : y ∈ ["_law_act", "_law_back", "_law_word", "_law_e"]) : sc.names.lookup (nm y) = some .local := dec_t (List.all_eq_true.mp h y hy)
/-- the rows of the def that tells, run -/
theorem td_run {W : WX} {m : Env → Hd → R Z.D} {params : Arguments} {body : Expr} {scope : Scope} {pins : List (Addr × Obj)} {σ : L2.St} {s' : Shared} {H H1 : Hp} {Q : VK} {ρ : Rh} {env : Env} {hd : Hd} {f c' : Addr} {pm ctv cdv : Value}
    {p1 p2 p3 p4 p5 p6 p7 p8 p9 p10 p11 p12 p13 p14 p15 p16 p17 p18 p19 p20 p21 p22 p23 p24 p25 p26 p27 p28 : Pos} {k0 j0 : Nat} (t : TdOk X.K X.mg T g fE fF dT dE dF c1 c2 c3) (S : LamX.LamS X.env.scope scope)
    (bind : ∀ (q : PySem.Str) (cl : List (PySem.Str × Addr)) (pm cv ctv : Value), bindArgs (PySem.W.kla_fn "<lambda>" q params body scope cl pm cv ctv) ⟨[], []⟩ = pure [])
    (hh : X.A.handled = none) (dp : X.A.depth + 25 < recursionLimit) (un : X.A.units + 300 < cLine) (gu : X.A.guards = some [])
    (hbody : ∀ (e0 : PySem.Env) (outer : List PySem.Env) (s : Shared) (H : Hp) (E : XK) (f c' : Addr), PE (LamX.lamCx X (X.A.deeper e0) outer s H E scope f c') body (rd X.K X.mg (fun cls dd _ H => E cls dd H) m))
    (I1 : Inv X pins σ H1 s') (hf : s'.heap.get? f = some (PySem.W.kla_obj "<lambda>" (X.env.qual ++ "<lambda>") params body scope (cloFrom X.env.cells scope.names []) pm c' ctv)) (hfn : H1 f = none) (hfr : f ∉ frs X.stack) (hco : H1 c' = some (LamX.CodeO c' (X.env.qual ++ "<lambda>")))
    (re : REnv X.K X.mg ρ H env σ) (mo : MOk X.K X.mg ρ H hd) (x1 : Ext ρ H ρ H1) (m1 : MOk X.K X.mg ρ H1 hd) (k : Kt X.K X.mg W σ ρ H (toldS T (m env hd)) (fun d h ρ' H' => ∀ v, RD X.K X.mg ρ' H' d v → Q v H'))
    (h17 : (["NotRight", "NotThere", "CannotBe", "_law_error", "_law_field", "repr"].all fun x => glB dT.scope (nm x)) = true) (h18 : (["_law_act", "_law_back", "_law_word", "_law_e"].all fun x => decide (dT.scope.names.lookup (nm x) = some .local)) = true) (eb : tdB dT.scope dT.body = true) :
    ∃ tS, PSs (cxOf CXN X.prog X.w X.K X.mg X.base tdN dT.qual dT.scope g cdv X.A X.stack s' H1 (fun _ _ _ => False)) [.Try [.Assign [.Name "_law_back" p1] (.Call (.Name "_law_act" p2) [] [] p3) p4] [.ExceptHandler (some (.Tuple [.Name "NotRight" p5, .Name "NotThere" p6, .Name "CannotBe" p7] k0 p8)) (some "_law_e")
      [.Assign [.Name "_law_word" p9] (.Call (.Name "_law_error" p10) [.Name "_law_e" p11] [] p12) p13, .Return (some (.List [.Name "_law_word" p14, .Call (.Name "repr" p15) [.Call (.Name "_law_field" p16) [.Name "_law_e" p17, .Name "_law_word" p18] [] p19] [] p20] p21)) p22] p23] [] [] p24,
      .Return (some (.List [.Constant (.str (tx [116, 111, 108, 100])) j0 p25, .Name "_law_back" p26] p27)) p28] tS ∧ tS { nx := fun _ H' => Q .non H', rt := Q } (L2.start tdN [.ref f]) H1 := by
  let Y0 : Cx := cxOf CXN X.prog X.w X.K X.mg X.base tdN dT.qual dT.scope g cdv X.A X.stack s' H1 (fun _ _ _ => False)
  let Y : Cx := Y0.nox
  have gl : ∀ y, y ∈ ["NotRight", "NotThere", "CannotBe", "_law_error", "_law_field", "repr"] → Gl Y (nm y) := fun y hy => td_glo h17 hy
  have lo : ∀ y, y ∈ ["_law_act", "_law_back", "_law_word", "_law_e"] → dT.scope.names.lookup (nm y) = some .local := fun y hy => td_loc h18 hy
  have lBack := lo "_law_back" (.tail _ (.head _))
  have nd : tdN.Nodup := by decide
  have tst := tst_three (X := Y) (x1 := "NotRight") (x2 := "NotThere") (x3 := "CannotBe") (p1 := p5) (p2 := p6) (p3 := p7) (k := k0) (tp := p8) ⟨gl "NotRight" (.head _), by decide, .inl t.n1⟩ ⟨gl "NotThere" (.tail _ (.head _)), by decide, .inl t.n2⟩ ⟨gl "CannotBe" (.tail _ (.tail _ (.head _))), by decide, .inl t.n3⟩
  have bodyOk : ∀ (W' : WX) (pn : List (Addr × Obj)) (xe : Value → Shared → Prop), Takes (Y.tr pn xe) W' → PSs (Y.tr pn xe) [.Assign [.Name "_law_back" p1] (.Call (.Name "_law_act" p2) [] [] p3) p4]
      (fun D σ1 HH => ∃ Ech : XK, (∀ cls d H', Ech cls d H' → W' cls d σ1 H') ∧ σ1[0]? = some (some (.ref f)) ∧ HH c' = some (LamX.CodeO c' (X.env.qual ++ "<lambda>")) ∧ rd X.K X.mg (fun cls dd _ H => Ech cls dd H) m σ HH (fun v H' => D.nx (σ1.set 1 (some v)) H')) := by
    intro W' pn xe tk
    refine ⟨fun pins2 s2 σ2 H2 D2 I2 ⟨Ech, hW, g1, g2, g3⟩ => ?_⟩
    have act := pe_acts (X := X) (CXg := CXN) (Eg := fun _ _ _ => False) (Ng := tdN) (qg := dT.qual) (sg := dT.scope) (gg := g) (cdg := cdv) (i := 0) (an := "_law_act") (pn := pn) (xe := xe) (E := Ech) (k := 0) (p1 := p2) (p2 := p3) I1 S hf hfn hfr (bind _ _ _ _ _) tk hh (by omega)
      (fun s1 H1' => hbody _ _ s1 H1' Ech f c') rfl (.inl (lo "_law_act" (.head _))) (by decide) (by decide)
    have set_ := ps_set (X := Y.tr pn xe) (pos := p4) (pos' := p1) (i := 1) (x := "_law_back") nd rfl (.inl lBack) act rfl (.inr lBack)
    exact (pss_one set_).run pins2 s2 σ2 H2 D2 I2 ⟨hW, g1, g2, g3⟩
  have suiteOk := fun (a : Addr) (oe : Obj) (cls : Value) (d : Option Addr) (pn : List (Addr × Obj)) (hz : Zc cls d oe) (hfi : ∃ vs, oe.data = .fields vs) =>
    td_suite (Y := Y.suite a ((a, oe) :: pn)) (p1 := p9) (p2 := p10) (p3 := p11) (p4 := p12) (p5 := p13) (p6 := p14) (p7 := p15) (p8 := p16) (p9 := p17) (p10 := p18) (p11 := p19) (p12 := p20) (p13 := p21) (p14 := p22) t rfl eb (List.mem_cons_self ..) hz hfi
      (show X.A.depth + 1 + 3 < recursionLimit by omega) (show X.A.units + 3 + 100 < cLine by omega) gu (gl "_law_error" (.tail _ (.tail _ (.tail _ (.head _))))) (gl "_law_field" (.tail _ (.tail _ (.tail _ (.tail _ (.head _)))))) (gl "repr" (.tail _ (.tail _ (.tail _ (.tail _ (.tail _ (.head _)))))))
      (lo "_law_word" (.tail _ (.tail _ (.head _)))) (lo "_law_e" (.tail _ (.tail _ (.tail _ (.head _)))))
  have try_ := ps_tryT (X := Y) (n := "_law_e") (i := 3) (ts := tsTd X.K X.mg (fun hp => hvS hp dE.fd.body) (fun hp => hvS hp dF.fd.body) dE.fd.slots.length dF.fd.slots.length) (b₀ := .Assign [.Name "_law_word" p9] (.Call (.Name "_law_error" p10) [.Name "_law_e" p11] [] p12) p13) (pos := p24) (pos' := p23) rfl rfl nd rfl (show Y.env.scope.names.lookup ("_law_e" : PySem.Str) = some .local from lo "_law_e" (.tail _ (.tail _ (.tail _ (.head _))))) tst (fun W' pn xe tk _ => bodyOk W' pn xe tk) suiteOk
  have ret_ := ps_ret (X := Y) (pos := p28) (pe_lst (pos := p27) (pa_cons (pe_str (X := Y) (x := tx [116, 111, 108, 100]) (j := j0) (pos := p25)) (pa_cons (pe_var (X := Y) (pos := p26) (i := 1) (x := "_law_back") rfl (.inl lBack) (by decide) (by decide)) pa_nil (ns_cons fun y p z => by cases z)) (ns_cons fun y p z => by cases z)))
  refine ⟨_, (pss_cons try_ (pss_one ret_)).nox, ?_⟩
  refine ⟨fun cls dd H' => ∃ C fs h ρ', m env hd = .exc C fs h ∧ Ext ρ H ρ' H' ∧ MOk X.K X.mg ρ' H' h ∧ RX X.K X.mg ρ' H' C fs cls dd, ?_, rfl, hco, ρ, env, hd, re.ext x1, m1, ?_⟩
  · rintro cls dd H' ⟨C, fs, h, ρ', em, x2, m2, c, ec1, ec2, rx⟩
    rw [em] at k
    cases ex : T.exc C with
    | none =>
      have k : Kt X.K X.mg W σ ρ H (match T.exc C with | some x => _ | none => R.bad) _ := k
      rw [ex] at k
      exact k.elim
    | some x =>
      obtain ⟨D', n1, n2, n3, n4, n5⟩ := t.exc C x ex
      have ed : D' = c := by rw [n1] at ec1; cases ec1; rfl
      subst ed
      subst ec2
      refine ⟨n2, fun a na => ?_⟩
      have k : Kt X.K X.mg W σ ρ H (match T.exc C with
        | some x => (match x.told with
          | none => R.ok (Z.D.lst [.str x.word, .str [78, 111, 110, 101]]) h
          | some f => (match fs.lookup f with
            | some d => (shwS d h).st.bind fun z hd => R.ok (Z.D.lst [.str x.word, z]) hd
            | none => R.bad))
        | none => R.bad) _ := k
      rw [ex] at k
      dsimp only at k
      have slot : ((L2.start tdN [V.ref f]).set 3 (some (V.ref a)))[3]? = some (some (.ref a)) := rfl
      cases et : x.told with
      | none =>
        rw [et] at k
        have hk := n3 dd [] (fun f e => by rw [et] at e; cases e)
        obtain ⟨gs, hk, xd⟩ : ∃ gs, HK X.K X.mg D' dd gs (hpOf x) ∧ ∀ p, dd = some p → H' p = some (.xd gs) := by
          rcases rx with ⟨_, e⟩ | ⟨d, gs, e, _, g, _⟩
          · exact ⟨[], hk, fun p ep => by rw [e] at ep; cases ep⟩
          · exact ⟨gs, n3 dd gs (fun f e => by rw [et] at e; cases e), fun p ep => by rw [e] at ep; cases ep; exact g⟩
        refine ⟨D', gs, hpOf x, x.word, .non, rfl, hk, xd, n4, ?_, slot, (by rw [List.length_set]; exact (show 3 < 4 by decide)), fun v H2 x3 rv => ?_⟩
        · have := n5
          unfold fldOf at this
          rw [et] at this
          exact this
        · have e3 := Ext.hext m2 x3
          refine ⟨ρ', h, [.non], m2.hext x3, .cons (by rw [show v = V.non from rv]; exact .non) .nil, ?_⟩
          refine (show OkR (R.ok (Z.D.str [78, 111, 110, 101]) h) _ from fun ρ4 H4 e4 m4 w rw4 p hp => ?_)
          cases rw4
          have e5 := e3.trans (e4.trans (Ext.new (o := .lst [.str (tx x.word), .str (tx [78, 111, 110, 101])]) hp (m4.notin hp)))
          exact k ρ4 _ (x2.trans e5) (m4.new hp) _ (.lst (m4.notin hp) upd_same (.cons (.str _) (.cons (.str _) .nil)))
      | some f' =>
        rw [et] at k
        dsimp only at k
        cases el : fs.lookup f' with
        | none => rw [el] at k; exact k.elim
        | some d' =>
          rw [el] at k
          rcases rx with ⟨e, _⟩ | ⟨d, gs, e, nd', g, rf⟩
          · rw [e] at el; cases el
          · obtain ⟨v0, l1, l2⟩ := rf.lookup el
            have hk := n3 dd gs (fun f2 e2 => by rw [et] at e2; cases e2; exact ⟨d, v0, e, l1⟩)
            refine ⟨D', gs, hpOf x, x.word, .fld f', rfl, hk, fun p ep => by rw [e] at ep; cases ep; exact g, n4, ?_, slot, (by rw [List.length_set]; exact (show 3 < 4 by decide)), fun v H2 x3 rv => ?_⟩
            · have := n5
              unfold fldOf at this
              rw [et] at this
              exact this
            · have e3 := Ext.hext m2 x3
              have ev : v = v0 := by
                have rv : gs.lookup (nm f') = some v := rv
                rw [l1] at rv
                cases rv
                rfl
              subst ev
              refine ⟨ρ', h, [d'], m2.hext x3, .cons (l2.ext e3) .nil, ?_⟩
              refine (Kt.st (Kt.bind k)).imp fun z h4 kz ρ4 H4 e4 m4 w rw4 p hp => ?_
              obtain ⟨_, _, kz⟩ := kz ρ4 H4 ((x2.trans e3).trans e4) m4
              exact kz ρ4 _ (Ext.new hp (m4.notin hp)) (m4.new hp) _ (.lst (m4.notin hp) upd_same (.cons (.str _) (.cons (rw4.ext (Ext.new hp (m4.notin hp))) .nil)))
  · cases em : m env hd with
    | bad => rw [em] at k; exact k.elim
    | exc C fs h => exact fun ρ' H' cls dd x2 m2 rx => ⟨C, fs, h, ρ', rfl, x1.trans x2, m2, rx⟩
    | ok d h =>
      rw [em] at k
      intro ρ' H' x2 m2 v rv
      refine ⟨v, rfl, by show 2 ≤ sizeLine; decide, fun p hp => ?_⟩
      have x3 := Ext.new (o := .lst [.str (tx [116, 111, 108, 100]), v]) hp (m2.notin hp)
      exact k ρ' _ ((x1.trans x2).trans x3) (m2.new hp) _ (.lst (m2.notin hp) upd_same (.cons (.str _) (.cons (rv.ext x3) .nil)))
/-- told(lambda: e), by what e does in its own context -/
theorem pe_told {W : WX} {m : Env → Hd → R Z.D} {params : Arguments} {body : Expr} {scope : Scope} {p lpos pos : Pos} (t : TdOk X.K X.mg T g fE fF dT dE dF c1 c2 c3) (hg : Gl X "_law_told") (L : LamOk X) (S : LamX.LamS X.env.scope scope) (np : noPar params = true)
    (hh : X.A.handled = none) (dp : X.A.depth + 25 < recursionLimit) (un : X.A.units + 300 < cLine) (gu : X.A.guards = some [])
    (hbody : ∀ (e0 : PySem.Env) (outer : List PySem.Env) (s : Shared) (H : Hp) (E : XK) (f c' : Addr), PE (LamX.lamCx X (X.A.deeper e0) outer s H E scope f c') body (rd X.K X.mg (fun cls dd _ H => E cls dd H) m)) :
    PE X (.Call (.Name "_law_told" p) [.Lambda params body scope lpos] [] pos) (rd X.K X.mg W fun env hd => toldS T (m env hd)) := by
  refine ⟨fun pins s σ H Q I ⟨ρ, env, hd, re, mo, k⟩ => ?_⟩
  have hdef : defaultsOf params X.env = ([], []) := by
    unfold noPar at np
    split at np
    · rfl
    · cases np
  have bind : ∀ (q : PySem.Str) (cl : List (PySem.Str × Addr)) (pm cv ctv : Value), bindArgs (PySem.W.kla_fn "<lambda>" q params body scope cl pm cv ctv) ⟨[], []⟩ = pure [] := fun q cl pm cv ctv => by
    unfold noPar at np
    split at np
    · rfl
    · cases np
  obtain ⟨oc, od, kV, doc, pm0, an, cdv, ct, osl, lk, hcd, hb⟩ := t.at_
  refine wpAny_Call_Name_kw (ld_glob I hg t.mg_ ?_ (by decide))
  refine PySem.W.callWith_K (h₀ := X.base) I.ok.mod.kin t.kp ?_ (by rfl) (by rfl)
  show wpAny _ _ (spliced ((false, eval (.Lambda params body scope lpos) X.env) :: backTo pos (starEach [] X.env))) _ _ s
  refine Calls.spliced_cons (lam_new I mo L hdef (S.has I.ok) fun f c' pm ctv H1 s' I1 x1 m1 hf hfn hfr hco => Calls.spliced_nil ⟨I1.kIn, ?_⟩)
  have run : codeAny (model X.prog X.w) X.A (.call (.ref g) ⟨[.ref f], []⟩) (CR CXN X.stack X.prog X.w H1 s' Q (fun _ _ _ => False)) s' := by
    refine LamX.run_ofS (k := 0) (N := tdN) (ps := ["_law_act"]) (us := [.ref f]) (vs := [.ref f]) lk hcd t.fr ⟨hh, by omega, by omega⟩ I1.env0 (hb s' (.ref f)) (.cons rfl .nil) rfl fun hr' => ?_
    have eb := t.body
    have tb := t.body
    revert tb
    generalize dT.body = bs
    intro tb
    unfold tdB at tb
    split at tb
    · obtain ⟨h1, tb⟩ := and_t tb
      obtain ⟨h2, tb⟩ := and_t tb
      obtain ⟨h3, tb⟩ := and_t tb
      obtain ⟨h4, tb⟩ := and_t tb
      obtain ⟨h5, tb⟩ := and_t tb
      obtain ⟨h6, tb⟩ := and_t tb
      obtain ⟨h7, tb⟩ := and_t tb
      obtain ⟨h8, tb⟩ := and_t tb
      obtain ⟨h9, tb⟩ := and_t tb
      obtain ⟨h10, tb⟩ := and_t tb
      obtain ⟨h11, tb⟩ := and_t tb
      obtain ⟨h12, tb⟩ := and_t tb
      obtain ⟨h13, tb⟩ := and_t tb
      obtain ⟨h14, tb⟩ := and_t tb
      obtain ⟨h15, tb⟩ := and_t tb
      obtain ⟨h16, tb⟩ := and_t tb
      obtain ⟨h17, h18⟩ := and_t tb
      cases dec_t h1
      cases dec_t h2
      cases dec_t h3
      cases dec_t h4
      cases dec_t h5
      cases dec_t h6
      cases dec_t h7
      cases dec_t h8
      cases dec_t h9
      cases dec_t h10
      cases dec_t h11
      cases dec_t h12
      cases dec_t h13
      cases dec_t h14
      cases dec_t h15
      cases dec_t h16
      exact td_run t S bind hh dp un gu hbody I1 hf hfn hfr hco re mo x1 m1 k h17 h18 eb
    · cases tb
  refine wpAny_call (codeAny_mono run fun r s2 hq => ?_)
  match r, hq with
  | .error e, hq => exact (show False from hq).elim
  | .ok (.ret u), hq => exact I1.after hq
end
end Z
/-! Y8: raise C(e). -/
namespace Z
open PySem PySem.Spec PyProof.Rows L2

theorem td_rule {K : PySem.W.Frag} {mg : MG} {T : Tab} {g fE fF : Addr} {dT dE dF : Df} {c1 c2 c3 : Addr} (t : TdOk K mg T g fE fF dT dE dF c1 c2 c3) : TdRule K mg T := by
  intro X W m params body scope p lpos pos eK emg hg L S np hh dp un gu hb
  subst eK emg
  exact pe_told t hg L S np hh dp un gu hb
/-- an exception class with one field, as it stands -/
structure RsF (K : PySem.W.Frag) (mg : MG) (C f : String) (D fI : Addr) (d : Df) : Prop where
  mg_ : mg (nm C) = some (.ref D)
  ox : OexC K D
  init : PySem.W.findIn K (.ref D) "__init__" = some (some (.ref fI))
  ty : PySem.W.typeIn K (.ref fI) = some (.type "function")
  no : PySem.W.findIn K (.ref D) (nm f) = some none
  at_ : ∃ oc od kV doc pm an cdv ct osl, K.lookup fI = some ⟨oc, od, .func (PySem.W.fnOf d.name d.qual d.params d.body d.scope .none kV doc pm an cdv ct), osl⟩ ∧ PySem.W.codeIn K cdv d.qual = true ∧
    ∀ (s : Shared) (us : List Value), us.length = 2 → BindsTo s (PySem.W.fnOf d.name d.qual d.params d.body d.scope .none kV doc pm an cdv ct) ⟨us, []⟩ ((["self", nm f] : List PySem.Str).zip us)
  fr : FnScope ["self", nm f] ["self", nm f] d.scope
  body : ∃ p1 p2 p3 p4, d.body = [.Assign [.Attribute (.Name "self" p1) (nm f) p2] (.Name (nm f) p3) p4]
  nf : nmB (nm f) = true
/-- what its __init__ does -/
def spRs (D : Addr) (f : String) : Sp := fun vs H Q _ => ∃ a y, vs = [.ref a, y] ∧ H a = some (exo a D none) ∧ ∀ dx, H dx = none → dx ≠ a → Q .non (upd (upd H dx (exd dx [(nm f, y)])) a (exo a D (some dx)))
theorem rs_rule {P : Program} {w : World} {K : PySem.W.Frag} {mg : MG} {base : Heap} {C f : String} {D fI : Addr} {d : Df} (F : RsF K mg C f D fI d) : RsRule P w K mg base C f := by
  intro X W e me p p1 pos eP ew eK emg eb hc tk hr hg hdb hs he
  subst eP ew eK emg eb
  obtain ⟨oc, od, kV, doc, pm, an, cdv, ct, osl, lk, hcd, hb⟩ := F.at_
  obtain ⟨q1, q2, q3, q4, eb⟩ := F.body
  obtain ⟨d1, d2⟩ := nm_ok F.nf
  have F1 : FnOk X.prog X.w X.K X.mg X.base CXN 1 fI (PySem.W.fnOf d.name d.qual d.params d.body d.scope .none kV doc pm an cdv ct) ["self", nm f] (spRs D f) := by
    refine fn_of lk hcd F.fr (fun vs H Q E ⟨a, y, e, _⟩ => by rw [e]; rfl) fun A outer s H vs Q E hr' ⟨a, y, ev, ha, q⟩ => ?_
    subst ev
    have vis : ∀ x, x ∈ (["self", nm f] : List PySem.Str) → Vis d.scope x := fun x hx => (F.fr.par x hx).imp id .inl
    have nd := F.fr.nd
    rw [eb]
    refine ⟨_, pss_one (ps_ost (pe_var (i := 0) rfl (vis "self" (.head _)) (by decide) (by decide)) (pe_var (i := 1) rfl (vis (nm f) (.tail _ (.head _))) d1 d2)), ?_⟩
    exact ⟨y, rfl, .ref a, rfl, a, D, rfl, F.ox, F.no, .inl ⟨ha, q⟩⟩
  have mk := pmk_oex (X := X) (x := nm C) (p := p) (pos := p1) (dvs := []) (ds := []) F.ox F.init F.ty F1 hr (fun s us _ hl => by rw [List.append_nil] at hl ⊢; exact hb s us hl) .nil (fun _ _ _ _ _ _ _ h => h.elim) hg F.mg_ (pa_cons he pa_nil hs) hdb hs rfl
  refine (ps_raise hc tk mk).imp fun E σ H ⟨ρ, env, hd, re, mo, k⟩ => ?_
  refine ⟨ρ, env, hd, re, mo, (KO.to re k).imp fun y h ρ1 H1 ⟨e1, m1, k1⟩ v rv => ⟨by show 1 ≤ 1000; decide, fun a na => ⟨a, v, rfl, upd_same, fun dx ndx ne => ⟨rfl, dx, [(nm f, v)], upd_same, by rw [upd_ne ne, upd_same], ?_, ?_⟩⟩⟩⟩
  · rw [upd_ne ne] at ndx
    exact ndx
  · have ndx' : H1 dx = none := by
      rw [upd_ne ne] at ndx
      exact ndx
    have eH : upd (del (upd (upd (upd H1 a (exo a D none)) dx (exd dx [(nm f, v)])) a (exo a D (some dx))) a) dx (.xd [(nm f, v)]) = upd H1 dx (.xd [(nm f, v)]) := by
      funext b
      by_cases h1 : b = dx
      · rw [h1, upd_same, upd_same]
      · rw [upd_ne h1, upd_ne h1]
        by_cases h2 : b = a
        · rw [h2, del_same, na]
        · rw [del_ne h2, upd_ne h2, upd_ne h1, upd_ne h2]
    rw [eH]
    have x1 := Ext.new (o := .xd [(nm f, v)]) ndx' (m1.notin ndx')
    exact k1 σ ρ1 _ (.ref D) (some dx) x1 (m1.new ndx') ((re.ext e1).ext x1) ⟨D, F.mg_, rfl, .inr ⟨dx, [(nm f, v)], rfl, m1.notin ndx', upd_same, .cons (rv.ext x1) .nil⟩⟩
end Z
/-! Z26: the text of a law: its defs, classes, constants; what the head looks at; each def does what its small tree does, at every level. -/
namespace Z
open PySem L2 PySem.Spec PyProof.Rows

/-- a class of exceptions; its __init__, where it is raised -/
structure Xc where
  ex : Ex
  ini : Option Df
structure Txt where
  defs : List Df
  cls : List (String × Cl)
  cons : List (String × D)
  exc : List (String × Xc) := []
  told : Option (Df × Df × Df) := none
def Txt.tab (t : Txt) : Tab where
  fn := fun k => (t.defs.find? fun d => d.key == k).map (·.fd)
  cl := fun C => t.cls.lookup C
  con := fun x => t.cons.lookup x
  exc := fun C => (t.exc.lookup C).map (·.ex)
  lam := t.told.isSome
def toldL : Option (Df × Df × Df) → List Df
  | some (a, b, c) => [a, b, c]
  | none => []
def iniL : List (String × Xc) → List Df
  | [] => []
  | p :: r => match p.2.ini with
    | some d => d :: iniL r
    | none => iniL r
/-- the defs that are looked at -/
def Txt.every (t : Txt) : List Df := t.defs ++ (toldL t.told ++ iniL t.exc)

/-! ### what the head looks at -/
def pAd (K : PySem.W.Frag) (p : Addr) : Addr := match PySem.W.recIn K p "property" with
  | some (.ref g :: _) => g
  | _ => 0
def cAd (K : PySem.W.Frag) (p : Addr) : Addr := match PySem.W.recIn K p "classmethod" with
  | some (.ref g :: _) => g
  | _ => 0
def clsAd (K : PySem.W.Frag) (C : String) : Addr := He.ga K (nm C)
def memAd (K : PySem.W.Frag) (C m : String) : Addr := He.ma K (clsAd K C) (nm m)
def Df.adr (K : PySem.W.Frag) (d : Df) : Addr := if d.key.1 == "" then He.ga K (nm d.key.2) else match d.kd with
  | .prop => pAd K (memAd K d.key.1 d.key.2)
  | .cls => cAd K (memAd K d.key.1 d.key.2)
  | _ => memAd K d.key.1 d.key.2
abbrev Seen : Type := Option (Str × Str × Arguments × FuncBody × Scope × Addr × List (Str × Addr) × Addr)
def Df.seen (K : PySem.W.Frag) (d : Df) : Seen := match K.lookup (d.adr K) with
  | some ⟨_, _, .func u, _⟩ => some (u.name, u.qualname, u.params, u.body, u.scope, u.globals, u.closure, u.builtins)
  | _ => none
def Df.due (d : Df) : Seen := some (d.name, d.qual, d.params, .stmts d.body, d.scope, mainGlobals, [], builtinsNs)
def Df.fine (K : PySem.W.Frag) (d : Df) : Bool := PySem.W.keepIn K (.ref (d.adr K)) && ((if d.key.1 == "" then (He.Fa.glo (nm d.key.2)).ok K else true) && (match K.lookup (d.adr K) with
  | some ⟨_, _, .func u, _⟩ => PySem.W.codeIn K u.code d.qual && (match u.defaults with
    | .none => true
    | _ => false)
  | _ => false))
def conF (K : PySem.W.Frag) (p : String × D) : Bool := match PySem.W.nsIn K mainGlobals (nm p.1), p.2 with
  | some (some (.int j _)), .int i => decide (j = i)
  | some (some (.str y _)), .str z => decide (y = tx z)
  | some (some (.bool b)), .bl c => b == c
  | some (some .none), .non => true
  | _, _ => false
/-- m of the class at C is the classmethod at p -/
def cmB (K : PySem.W.Frag) (C : Addr) (m : Str) (p : Addr) : Bool := match PySem.W.findCls K (.ref C) (.type "type") m with
  | some (.get g a o t) => decide (g = .builtin "classmethod.__get__") && (decide (a = .ref p) && (decide (o = .none) && decide (t = .ref C)))
  | _ => false
def ownF (K : PySem.W.Frag) (C : String) (p : String × Kind) : Bool := match p.2 with
  | .meth => (He.Fa.meth (nm C) (nm p.1)).ok K
  | .prop => He.eqO (PySem.W.findIn K (.ref (clsAd K C)) (nm p.1)) (some (some (.ref (memAd K C p.1)))) && (He.eqO (PySem.W.specialIn K (.ref (memAd K C p.1)) "__get__") (some (some (.builtin "property.__get__"))) &&
    (decide (PySem.W.takesIn K (.ref (memAd K C p.1)) = some true) && (match PySem.W.recIn K (memAd K C p.1) "property" with
      | some (.ref _ :: _) => true
      | _ => false)))
  | .cls => cmB K (clsAd K C) (nm p.1) (memAd K C p.1) && (PySem.W.readsIn K (clsAd K C) (.type "type") && (He.eqO (PySem.W.specialIn K (.ref (clsAd K C)) "__getattribute__") (some (some (.builtin "type.__getattribute__"))) &&
    (match PySem.W.recIn K (memAd K C p.1) "classmethod" with
      | some (.ref g :: _) => PySem.W.fnIn K g
      | _ => false)))
def clsF (K : PySem.W.Frag) (p : String × Cl) : Bool := (He.Fa.glo (nm p.1)).ok K && ((He.Fa.cls (nm p.1)).ok K && ((He.Fa.mkr (nm p.1)).ok K && (He.eqO (PySem.W.findIn K (.ref (clsAd K p.1)) "__class__") (some (some (.builtin "object.__class__"))) &&
  (He.eqO (PySem.W.specialIn K (.builtin "object.__class__") "__get__") (some (some (.builtin "getset_descriptor.__get__"))) && (decide (PySem.W.takesIn K (.builtin "object.__class__") = some true) && (decide (PySem.W.mroIn K (clsAd K p.1) (.type "object") = some true) &&
  ((tyNames.all fun t => decide (PySem.W.kitOne K (.type t) (.ref (clsAd K p.1)) = some false)) && ((isNames.all fun n => decide (PySem.W.kitOne K (.ref (clsAd K p.1)) (.type n) = some false)) &&
  ((p.2.flds.all fun f => (p.2.own.lookup f).isSome || (He.Fa.noat (nm p.1) (nm f)).ok K) && ((tyNames.all fun t => PySem.W.notFirst K (clsAd K p.1) (.type t)) && (((p.2.own.lookup "__bool__").isSome || (He.Fa.noat (nm p.1) "__bool__").ok K) &&
  (((p.2.own.lookup "__len__").isSome || (He.Fa.noat (nm p.1) "__len__").ok K) && ((decide (p.2.own.lookup "__eq__" ≠ some .meth) || He.eqO (PySem.W.findIn K (.ref (clsAd K p.1)) "__ne__") (some (some (.builtin "object.__ne__")))) && p.2.own.all (ownF K p.1))))))))))))))
def twoF (K : PySem.W.Frag) (C C' : String) : Bool := decide (PySem.W.kitOne K (.ref (clsAd K C)) (.ref (clsAd K C')) = some (C == C')) && PySem.W.notFirst K (clsAd K C) (.ref (clsAd K C'))
/-! exceptions -/
def lamF (K : PySem.W.Frag) (d : Df) : Bool := match K.lookup (d.adr K) with
  | some ⟨_, _, .func u, _⟩ => (match u.code with
    | .ref c => (match (K.lookup c).bind (lamOf K) with
      | some (P, _) => decide ((lamsK K).lookup P = some (d.qual ++ ".<locals>." ++ "<lambda>"))
      | none => false)
    | _ => false)
  | _ => false
def bmF (K : PySem.W.Frag) : Bool := match PySem.W.nsIn K mainGlobals "__builtins__" with
  | some (some (.ref bm)) => (match K.lookup bm with
    | some ⟨.type c, some d, .plain, _⟩ => decide (c = "module") && (decide (d = builtinsNs) && (decide (bm ≠ builtinsNs) && decide (bm ≠ mainGlobals)))
    | _ => false)
  | _ => false
/-- the class's facts -/
def exkF (K : PySem.W.Frag) (D : Addr) : Bool := (PySem.W.clsIn K D).isSome && (He.eqO (PySem.W.findIn K (.ref D) "__getattribute__") (some (some (.builtin "BaseException.__getattribute__"))) && (He.eqO (PySem.W.findIn K (.ref D) "__getattr__") (some none) &&
  (decide (PySem.W.subIn K (.ref D) (.type "BaseException") = some true) && (PySem.W.hasDictIn K D && (He.eqO (PySem.W.findIn K (.ref D) "__class__") (some (some (.builtin "object.__class__"))) &&
  (He.eqO (PySem.W.specialIn K (.builtin "object.__class__") "__get__") (some (some (.builtin "getset_descriptor.__get__"))) && (decide (PySem.W.takesIn K (.builtin "object.__class__") = some true) && decide (PySem.W.mroIn K D (.type "object") = some true))))))))
def askF (K : PySem.W.Frag) (D : Addr) (p : (Bool × String) × Bool) : Bool := match p.1.1 with
  | true => (He.Fa.glo (nm p.1.2)).ok K && decide (PySem.W.kitOne K (.ref D) (.ref (clsAd K p.1.2)) = some p.2)
  | false => (He.Fa.free (nm p.1.2)).ok K && decide (PySem.W.kitOne K (.ref D) (.type p.1.2) = some p.2)
/-- an own class over ValueError, made by its own __init__ -/
def oexF (K : PySem.W.Frag) (C : Addr) : Bool := (match K.lookup C with
  | some ⟨.type "type", _, .cls cd, sl⟩ => (match cd.mro, sl.toList with
    | .ref C' :: bm, [_, _, _, _, some (.builtin n), _] => decide (C' = C) && (decide (n = "ValueError.__new__") && (!cd.hasDel && (cd.hasDict && PySem.HandSPX.refsVE bm)))
    | _, _ => false)
  | _ => false) && (He.eqO (PySem.W.findIn K (.ref C) "__setattr__") (some (some (.builtin "object.__setattr__"))) && (decide (PySem.W.subIn K (.ref C) (.type "BaseException") = some true) && (decide (PySem.W.typeIn K (.ref C) = some (.type "type")) && PySem.W.keepIn K (.ref C))))
def iniF (K : PySem.W.Frag) (D : Addr) (f : String) (d : Df) : Bool := oexF K D && (He.eqO (PySem.W.findIn K (.ref D) "__init__") (some (some (.ref (d.adr K)))) && (decide (PySem.W.typeIn K (.ref (d.adr K)) = some (.type "function")) && He.eqO (PySem.W.findIn K (.ref D) (nm f)) (some none)))
def excF (K : PySem.W.Frag) (p : String × Xc) : Bool := (He.Fa.glo (nm p.1)).ok K && (exkF K (clsAd K p.1) && (decide (PySem.W.exmAny K (.ref (clsAd K p.1)) [.ref (clsAd K "NotRight"), .ref (clsAd K "NotThere"), .ref (clsAd K "CannotBe")] = some true) &&
  (p.2.ex.asks.all (askF K (clsAd K p.1)) && ((match p.2.ex.told with
    | some f => He.eqO (PySem.W.findIn K (.ref (clsAd K p.1)) (nm f)) (some none)
    | none => true) && (match p.2.ex.fld, p.2.ini with
    | [f], some d => iniF K (clsAd K p.1) f d
    | _, _ => true)))))
def smF (K : PySem.W.Frag) : Bool := match K.lookup sysModules with
  | some ⟨.type c, _, _, _⟩ => decide (c ≠ "list")
  | _ => false
theorem sm_of {K : PySem.W.Frag} (h : smF K = true) : SmOk K := by
  unfold smF at h
  split at h
  · rename_i c d dt sl e
    exact ⟨_, e, fun z => dec_t h (by cases z; rfl)⟩
  · cases h
def Txt.facts (t : Txt) (K : PySem.W.Frag) : Bool := smF K && ((bNames.all fun y => (He.Fa.free y).ok K) && (t.cons.all (conF K) && (t.every.all (Df.fine K) && (t.cls.all (clsF K) && ((t.cls.all fun p => t.cls.all fun q => twoF K p.1 q.1) &&
  (t.exc.all (excF K) && (t.told.isNone || (bmF K && ((["NotRight", "NotThere", "CannotBe"].all fun x => (He.Fa.glo (nm x)).ok K) && t.defs.all fun d => !d.lm || lamF K d))))))))) 
abbrev Looked : Type := Bool × List Seen
def Txt.look (t : Txt) (K : PySem.W.Frag) : Looked := (t.facts K, t.every.map (Df.seen K))
def Txt.good (t : Txt) : Looked := (true, t.every.map Df.due)
/-! the part of the heap that is looked at; empty tables stand outside of it -/
def emptyB : Obj → Bool
  | ⟨.none, none, .fields us, sl⟩ => us.toList.isEmpty && sl.toList.isEmpty
  | _ => false
theorem empty_ok {o : Obj} (h : emptyB o = true) : o = PySem.W.tabObj #[] := by
  unfold emptyB at h
  split at h
  · rename_i us sl
    obtain ⟨h1, h2⟩ := and_t h
    obtain ⟨us⟩ := us
    obtain ⟨sl⟩ := sl
    have e1 : us = [] := List.isEmpty_iff.mp h1
    have e2 : sl = [] := List.isEmpty_iff.mp h2
    subst e1 e2
    rfl
  · cases h
def outG (g : Addr → Option Obj) (a : Addr) : Option Obj := match g a with
  | some o => if emptyB o = true then none else some o
  | none => none
def part (n : Nat) (g : Addr → Option Obj) : PySem.W.Frag := He.frG (outG g) (He.asD g n)
theorem part_in {h : Heap} {as : List Addr} : (He.frG (outG h.get?) as).In h := fun a o e => by
  have q := He.frG_at as e
  unfold outG at q
  split at q
  · rename_i u eu
    split at q
    · cases q
    · cases q
      exact eu
  · cases q
def tabsF (K : PySem.W.Frag) (g : Addr → Option Obj) : Bool := (lamsK K).all fun p => match g p.1 with
  | some o => emptyB o
  | none => false
theorem tabs_ok {K : PySem.W.Frag} {h : Heap} (e : tabsF K h.get? = true) : TabsZ K h := fun P q m => by
  have z := List.all_eq_true.mp e (P, q) m
  dsimp only at z
  split at z
  · rename_i o eo
    rw [eo, empty_ok z]
  · cases z
abbrev Looked2 : Type := Looked × Bool
def Txt.sees (t : Txt) (K : PySem.W.Frag) (g : Addr → Option Obj) : Looked2 := (t.look K, tabsF K g)
def Txt.says (t : Txt) (hp : Heap) : Prop := ∃ K : PySem.W.Frag, K.In hp ∧ TabsZ K hp ∧ t.look K = t.good
def Txt.hook (t : Txt) (n : Nat) : PySem.W.Hook where
  α := Looked2
  obs := fun z => t.sees (part n z.heap.get?) z.heap.get?
  val := fun _ => (t.good, true)
  says := fun _ hp => t.says hp
  of := fun _ _ q => ⟨_, part_in, tabs_ok (congrArg (·.2) q), congrArg (·.1) q⟩
  keeps := fun _ _ _ q k => by
    obtain ⟨F, kin, q0, q⟩ := q
    exact ⟨F, PySem.W.Frag.In.keeps kin k, fun P x m => k _ _ (q0 P x m), q⟩

/-! ### what they mean -/
section
variable {t : Txt} {K : PySem.W.Frag} {h : Heap} {mg : MG}
structure Sure (t : Txt) (K : PySem.W.Frag) (mg : MG) : Prop where
  sm : SmOk K
  free : ∀ y ∈ bNames, mg y = none
  con : ∀ x d, t.tab.con x = some d → ∃ v u, mg (nm x) = some u ∧ RelV v u ∧ ∀ ρ H, RD K mg ρ H d v
  df : ∀ d ∈ t.every, PySem.W.keepIn K (.ref (d.adr K)) = true ∧ (d.key.1 = "" → mg (nm d.key.2) = some (.ref (d.adr K))) ∧
    ∃ oc od kV doc pm an cdv ct osl, K.lookup (d.adr K) = some ⟨oc, od, .func (PySem.W.fnOf d.name d.qual d.params d.body d.scope .none kV doc pm an cdv ct), osl⟩ ∧ PySem.W.codeIn K cdv d.qual = true
  tf : TF K mg t.tab
  exc : ∀ C x, t.exc.lookup C = some x → mg (nm C) = some (.ref (clsAd K C)) ∧ excF K (C, x) = true
  ask : ∀ C x, t.exc.lookup C = some x → ∀ own c b, x.ex.asks.lookup (own, c) = some b → ∃ vc cv, ClsV vc cv ∧ PySem.W.kitOne K (.ref (clsAd K C)) cv = some b ∧ (mg (nm c) = some cv ∨ (mg (nm c) = none ∧ cv = .type c ∧ own = false))
  bm : t.told ≠ none → ∃ bm ob, mg "__builtins__" = some (.ref bm) ∧ K.lookup bm = some ob ∧ ob.cls = .type "module" ∧ ob.dict = some builtinsNs ∧ ob.data = .plain ∧ bm ≠ builtinsNs ∧ bm ≠ mainGlobals ∧ K.lookup mainGlobals ≠ none
  base : t.told ≠ none → ∀ x ∈ (["NotRight", "NotThere", "CannotBe"] : List String), mg (nm x) = some (.ref (clsAd K x))
  lam : t.told ≠ none → ∀ d ∈ t.defs, d.lm = true → lamF K d = true
  cl : ∀ C c, t.tab.cl C = some c → mg (nm C) = some (.ref (clsAd K C)) ∧ Cls K (clsAd K C) ∧ Mk K (clsAd K C) (memAd K C "__init__") ∧ (∀ m, c.own.lookup m = some .meth → Meth K (clsAd K C) (nm m) (memAd K C m)) ∧
    (∀ m, c.own.lookup m = some .prop → PropOf K (clsAd K C) (nm m) (memAd K C m) (pAd K (memAd K C m))) ∧ ∀ m, c.own.lookup m = some .cls → CmAt K (clsAd K C) (memAd K C m) (cAd K (memAd K C m)) (nm m)
theorem look_mem {α : Type} {β : Type} [BEq α] [LawfulBEq α] {a : α} {b : β} : ∀ {l : List (α × β)}, l.lookup a = some b → (a, b) ∈ l
  | [], e => by simp at e
  | (x, y) :: l, e => by
    rw [List.lookup_cons] at e
    by_cases q : a == x
    · rw [q] at e
      cases e
      rw [eq_of_beq q]
      exact List.mem_cons_self ..
    · rw [Bool.not_eq_true] at q
      rw [q] at e
      exact List.mem_cons_of_mem _ (look_mem e)
theorem or_t {a b : Bool} (h : (a || b) = true) : a = true ∨ b = true := Bool.or_eq_true_iff.mp h
theorem con_sure (X : K.In h) (G : h.Ns mainGlobals mg) {x : String} {d : D} (c : conF K (x, d) = true) : ∃ v u, mg (nm x) = some u ∧ RelV v u ∧ ∀ ρ H, RD K mg ρ H d v := by
  unfold conF at c
  dsimp only at c
  split at c
  · rename_i j tk i e
    have c := dec_t c
    subst c
    exact ⟨.int j, _, PySem.W.mg_of X G e, ⟨_, rfl⟩, fun _ _ => .int _⟩
  · rename_i y tk z e
    have c := dec_t c
    subst c
    exact ⟨.str (tx z), _, PySem.W.mg_of X G e, ⟨_, rfl⟩, fun _ _ => .str _⟩
  · rename_i b cc e
    have c := beq_iff_eq.mp c
    subst c
    exact ⟨.bl b, _, PySem.W.mg_of X G e, rfl, fun _ _ => .bl _⟩
  · rename_i e
    exact ⟨.non, _, PySem.W.mg_of X G e, rfl, fun _ _ => .non⟩
  · cases c
theorem df_sure (X : K.In h) (G : h.Ns mainGlobals mg) {d : Df} (c : d.fine K = true) (e : d.seen K = d.due) : PySem.W.keepIn K (.ref (d.adr K)) = true ∧ (d.key.1 = "" → mg (nm d.key.2) = some (.ref (d.adr K))) ∧
    ∃ oc od kV doc pm an cdv ct osl, K.lookup (d.adr K) = some ⟨oc, od, .func (PySem.W.fnOf d.name d.qual d.params d.body d.scope .none kV doc pm an cdv ct), osl⟩ ∧ PySem.W.codeIn K cdv d.qual = true := by
  unfold Df.fine at c
  obtain ⟨c1, c⟩ := and_t c
  obtain ⟨c2, c3⟩ := and_t c
  refine ⟨c1, fun hk => ?_, ?_⟩
  · rw [if_pos (by rw [hk]; rfl)] at c2
    have q := He.glo_ok X G c2
    unfold Df.adr
    rw [if_pos (by rw [hk]; rfl)]
    exact q
  · unfold Df.seen at e
    split at c3
    · rename_i oc od u osl lk
      rw [lk] at e
      obtain ⟨c4, c5⟩ := and_t c3
      obtain ⟨n1, n2, n3, n4, n5, n6, n7, n8, n9, n10, n11, n12, n13, n14, n15⟩ := u
      have e : (some (n1, n2, n3, n4, n5, n6, n7, n15) : Seen) = some (d.name, d.qual, d.params, .stmts d.body, d.scope, mainGlobals, [], builtinsNs) := e
      simp only [Option.some.injEq, Prod.mk.injEq] at e
      obtain ⟨rfl, rfl, rfl, rfl, rfl, rfl, rfl, rfl⟩ := e
      dsimp only at c5
      split at c5
      · exact ⟨_, _, _, _, _, _, _, _, _, lk, c4⟩
      · cases c5
    · cases c3
theorem cm_sure {C p : Addr} {m : Str} (h : cmB K C m p = true) : PySem.W.findCls K (.ref C) (.type "type") m = some (.get (.builtin "classmethod.__get__") (.ref p) .none (.ref C)) := by
  unfold cmB at h
  split at h
  · rename_i e
    obtain ⟨h1, h⟩ := and_t h
    obtain ⟨h2, h⟩ := and_t h
    obtain ⟨h3, h4⟩ := and_t h
    rw [e, dec_t h1, dec_t h2, dec_t h3, dec_t h4]
  · cases h
theorem own_sure {C : String} {p : String × Kind} (c : ownF K C p = true) : (p.2 = .meth → Meth K (clsAd K C) (nm p.1) (memAd K C p.1)) ∧ (p.2 = .prop → PropOf K (clsAd K C) (nm p.1) (memAd K C p.1) (pAd K (memAd K C p.1))) ∧
    (p.2 = .cls → CmAt K (clsAd K C) (memAd K C p.1) (cAd K (memAd K C p.1)) (nm p.1)) := by
  unfold ownF at c
  refine ⟨fun e => ?_, fun e => ?_, fun e => ?_⟩
  · rw [e] at c
    exact He.meth_ok c
  · rw [e] at c
    obtain ⟨c1, c⟩ := and_t c
    obtain ⟨c2, c⟩ := and_t c
    obtain ⟨c3, c4⟩ := and_t c
    refine ⟨He.eqO_ok c1, He.eqO_ok c2, dec_t c3, ?_⟩
    unfold pAd
    split at c4
    · rename_i g r e2
      exact ⟨r, by rw [e2]⟩
    · cases c4
  · rw [e] at c
    obtain ⟨c1, c⟩ := and_t c
    obtain ⟨c2, c⟩ := and_t c
    obtain ⟨c3, c4⟩ := and_t c
    split at c4
    · rename_i g r e2
      have e3 : cAd K (memAd K C p.1) = g := by
        unfold cAd
        rw [e2]
      rw [e3]
      exact ⟨⟨c2, He.eqO_ok c3⟩, ⟨cm_sure c1, ⟨r, e2⟩, c4⟩⟩
    · cases c4
theorem cls_sure (X : K.In h) (G : h.Ns mainGlobals mg) {C : String} {c : Cl} (q : clsF K (C, c) = true) : ClsF K mg C c (clsAd K C) ∧ Mk K (clsAd K C) (memAd K C "__init__") ∧ (∀ m, c.own.lookup m = some .meth → Meth K (clsAd K C) (nm m) (memAd K C m)) ∧
    (∀ m, c.own.lookup m = some .prop → PropOf K (clsAd K C) (nm m) (memAd K C m) (pAd K (memAd K C m))) ∧ ∀ m, c.own.lookup m = some .cls → CmAt K (clsAd K C) (memAd K C m) (cAd K (memAd K C m)) (nm m) := by
  unfold clsF at q
  obtain ⟨q1, q⟩ := and_t q
  obtain ⟨q2, q⟩ := and_t q
  obtain ⟨q3, q⟩ := and_t q
  obtain ⟨q4, q⟩ := and_t q
  obtain ⟨q5, q⟩ := and_t q
  obtain ⟨q6, q⟩ := and_t q
  obtain ⟨q7, q⟩ := and_t q
  obtain ⟨q8, q⟩ := and_t q
  obtain ⟨q9, q⟩ := and_t q
  obtain ⟨q10, q⟩ := and_t q
  obtain ⟨q11, q⟩ := and_t q
  obtain ⟨q12, q⟩ := and_t q
  obtain ⟨q13, q⟩ := and_t q
  obtain ⟨q14, q15⟩ := and_t q
  have no : ∀ {f : String} {b : Bool} {n : Str}, (((c.own.lookup f).isSome || b) = true) → c.own.lookup f = none → b = true := fun q e => by
    rw [e] at q
    exact q
  refine ⟨{ mg_ := He.glo_ok X G q1, cls := He.cls_ok q2, cga := He.eqO_ok q4, cgs := He.eqO_ok q5, ctk := dec_t q6, cmo := dec_t q7, isT := fun t ht => dec_t (List.all_eq_true.mp q8 t ht), tyI := fun n hn => dec_t (List.all_eq_true.mp q9 n hn),
            noat := fun f hf hn => He.noat_ok (no (n := nm f) (List.all_eq_true.mp q10 f hf) hn), nf := fun t ht => List.all_eq_true.mp q11 t ht, nb := fun e => He.noat_ok (no (n := "x") q12 e), nl := fun e => He.noat_ok (no (n := "x") q13 e),
            ne := fun e => ?_ }, He.mkr_ok q3, fun m hm => ?_, fun m hm => ?_, fun m hm => ?_⟩
  · rcases or_t q14 with z | z
    · exact absurd e (dec_t z)
    · exact He.eqO_ok z
  · exact (own_sure (List.all_eq_true.mp q15 _ (look_mem hm))).1 rfl
  · exact (own_sure (List.all_eq_true.mp q15 _ (look_mem hm))).2.1 rfl
  · exact (own_sure (List.all_eq_true.mp q15 _ (look_mem hm))).2.2 rfl
theorem ask_sure (X : K.In h) (G : h.Ns mainGlobals mg) {D : Addr} {own : Bool} {c : String} {b : Bool} (q : askF K D ((own, c), b) = true) : ∃ vc cv, ClsV vc cv ∧ PySem.W.kitOne K (.ref D) cv = some b ∧ (mg (nm c) = some cv ∨ (mg (nm c) = none ∧ cv = .type c ∧ own = false)) := by
  unfold askF at q
  cases own with
  | true =>
    obtain ⟨q1, q2⟩ := and_t q
    exact ⟨_, _, .own (clsAd K c), dec_t q2, .inl (He.glo_ok X G q1)⟩
  | false =>
    obtain ⟨q1, q2⟩ := and_t q
    exact ⟨_, _, .ty c, dec_t q2, .inr ⟨He.free_ok X G q1, rfl, rfl⟩⟩
theorem bm_sure (X : K.In h) (G : h.Ns mainGlobals mg) (q : bmF K = true) : ∃ bm ob, mg "__builtins__" = some (.ref bm) ∧ K.lookup bm = some ob ∧ ob.cls = .type "module" ∧ ob.dict = some builtinsNs ∧ ob.data = .plain ∧ bm ≠ builtinsNs ∧ bm ≠ mainGlobals ∧ K.lookup mainGlobals ≠ none := by
  unfold bmF at q
  split at q
  · rename_i bm e
    split at q
    · rename_i c d sl lk
      obtain ⟨q1, q⟩ := and_t q
      obtain ⟨q2, q⟩ := and_t q
      obtain ⟨q3, q4⟩ := and_t q
      refine ⟨bm, _, PySem.W.mg_of X G e, lk, congrArg _ (dec_t q1), congrArg _ (dec_t q2), rfl, dec_t q3, dec_t q4, fun z => ?_⟩
      unfold PySem.W.nsIn at e
      rw [z] at e
      cases e
    · cases q
  · cases q
theorem Txt.sure (X : K.In h) (G : h.Ns mainGlobals mg) (e : t.look K = t.good) : Sure t K mg := by
  have e1 : t.facts K = true := congrArg (·.1) e
  have e2 : t.every.map (Df.seen K) = t.every.map Df.due := congrArg (·.2) e
  unfold Txt.facts at e1
  obtain ⟨f0, e1⟩ := and_t e1
  obtain ⟨f1, e1⟩ := and_t e1
  obtain ⟨f2, e1⟩ := and_t e1
  obtain ⟨f3, e1⟩ := and_t e1
  obtain ⟨f4, e1⟩ := and_t e1
  obtain ⟨f5, e1⟩ := and_t e1
  obtain ⟨f6, f7⟩ := and_t e1
  have ft : t.told ≠ none → (bmF K && ((["NotRight", "NotThere", "CannotBe"].all fun x => (He.Fa.glo (nm x)).ok K) && t.defs.all fun d => !d.lm || lamF K d)) = true := fun n => by
    rcases or_t f7 with z | z
    · exact absurd (Option.isNone_iff_eq_none.mp z) n
    · exact z
  have fc : ∀ C c, t.tab.cl C = some c → _ := fun C c q => cls_sure X G (List.all_eq_true.mp f4 _ (look_mem q))
  have two : ∀ C c C' c', t.tab.cl C = some c → t.tab.cl C' = some c' → twoF K C C' = true := fun C c C' c' q q' => List.all_eq_true.mp (List.all_eq_true.mp f5 _ (look_mem q)) _ (look_mem q')
  refine ⟨sm_of f0, fun y hy => He.free_ok X G (List.all_eq_true.mp f1 y hy), fun x d q => con_sure X G (List.all_eq_true.mp f2 _ (look_mem q)), fun d hd => ?_, ⟨fun C c q => ⟨_, (fc C c q).1⟩, fun C c C' c' a a' q q' g g' => ?_, fun C c C' c' a a' q q' g g' => ?_⟩, fun C x q => ⟨He.glo_ok X G (and_t (List.all_eq_true.mp f6 _ (look_mem q))).1, List.all_eq_true.mp f6 _ (look_mem q)⟩, fun C x q own c b qa => ?_, fun n => bm_sure X G (and_t (ft n)).1, fun n x hx => He.glo_ok X G (List.all_eq_true.mp (and_t (and_t (ft n)).2).1 x hx), fun n d hd lm => ?_, fun C c q => ?_⟩
  · refine df_sure X G (List.all_eq_true.mp f3 d hd) ?_
    exact (List.map_inj_left.mp e2) d hd
  · have r := (and_t (two C c C' c' q q')).1
    cases (fc C c q).1.mg_.symm.trans g
    cases (fc C' c' q').1.mg_.symm.trans g'
    exact dec_t r
  · have r := (and_t (two C c C' c' q q')).2
    cases (fc C c q).1.mg_.symm.trans g
    cases (fc C' c' q').1.mg_.symm.trans g'
    exact r
  · obtain ⟨_, r⟩ := and_t (List.all_eq_true.mp f6 _ (look_mem q))
    obtain ⟨_, r⟩ := and_t r
    obtain ⟨_, r⟩ := and_t r
    obtain ⟨r, _⟩ := and_t r
    exact ask_sure X G (List.all_eq_true.mp r _ (look_mem qa))
  · rcases or_t (List.all_eq_true.mp (and_t (and_t (ft n)).2).2 d hd) with z | z
    · rw [lm] at z
      cases z
    · exact z
  · obtain ⟨r1, r2, r3, r4⟩ := fc C c q
    exact ⟨r1.mg_, r1.cls, r2, r3, r4⟩
end
end Z
/-! Z27: each def of the text does what its small tree does, at every level. -/
namespace Z
open PySem L2 PySem.Spec PyProof.Rows

def locB (sc : Scope) (x : Str) : Bool := match sc.names.lookup x with
  | some .local => true
  | some .cell => true
  | _ => false
def frameB (d : Df) : Bool := (match d.scope.kind with
  | .function => true
  | _ => false) && (!d.scope.isCoroutine && (!d.scope.isGenerator && (decide (d.fd.slots.map nm).Nodup && (decide ((d.fd.slots.map nm).take (d.fd.names.map nm).length = d.fd.names.map nm) && ((d.fd.names.map nm).all (locB d.scope) && d.scope.names.all fun y => match y.2 with
  | .free => false
  | _ => true)))))
/-- the def's rows and its small tree -/
structure DfOk (T : Tab) (d : Df) : Prop where
  fr : frameB d = true
  body : mSs T d.fd.body d.sc d.body = true
  shp : ∀ kV doc pm an cdv ct, Shapes d.fd (PySem.W.fnOf d.name d.qual d.params d.body d.scope .none kV doc pm an cdv ct)
section
variable {P : Program} {w : World} {K : PySem.W.Frag} {mg : MG} {base : Heap} {t : Txt} {j : Nat}
theorem frame_ok {d : Df} (h : frameB d = true) : FnScope (d.fd.slots.map nm) (d.fd.names.map nm) d.scope := by
  unfold frameB at h
  obtain ⟨h1, h⟩ := and_t h
  obtain ⟨h2, h⟩ := and_t h
  obtain ⟨h3, h⟩ := and_t h
  obtain ⟨h4, h⟩ := and_t h
  obtain ⟨h5, h⟩ := and_t h
  obtain ⟨h6, h7⟩ := and_t h
  refine ⟨?_, by simpa using h2, by simpa using h3, dec_t h4, dec_t h5, fun x hx => ?_, fun y hy e => ?_⟩
  · split at h1
    · assumption
    · cases h1
  · have q := List.all_eq_true.mp h6 x hx
    unfold locB at q
    split at q
    · rename_i e
      exact .inl e
    · rename_i e
      exact .inr e
    · cases q
  · have q := List.all_eq_true.mp h7 y hy
    rw [e] at q
    cases q
theorem every_mem {d : Df} (h : d ∈ t.defs) : d ∈ t.every := List.mem_append_left _ h
/-! ### telling, and raising -/
def hvB (b c : Df) (p : String × Xc) : Bool := (match hvS (hpOf p.2.ex) b.fd.body ([.exc].map some ++ List.replicate (b.fd.slots.length - 1) none) with
  | some (.rt (.tx w)) => decide (w = p.2.ex.word)
  | _ => false) && ((match hvS (hpOf p.2.ex) c.fd.body ([.exc, .tx p.2.ex.word].map some ++ List.replicate (c.fd.slots.length - 2) none) with
  | some (.rt v) => decide (v = fldOf p.2.ex)
  | _ => false) && p.2.ex.asks.all fun q => q.1.1 || (decide (bootBuiltins (nm q.1.2) = some (.type q.1.2)) && decide (nm q.1.2 ≠ "__name__")))
def fsB (d : Df) (f : String) (n : Nat) : Bool := decide (d.key = ("", f)) && (decide (d.name = nm f) && (frameB d && (hmSs d.fd.body d.sc d.body && (!d.lm && (decide (d.fd.names.length = n) && decide ((n, []) ∈ d.fd.shapes))))))
def toldB (t : Txt) (a b c : Df) : Bool := decide (a.key = ("", "_law_told")) && (decide (a.name = nm "_law_told") && (decide (a.qual = nm "_law_told") && (frameB a && (decide (a.fd.slots = ["_law_act", "_law_back", "_law_word", "_law_e"]) && (decide (a.fd.names = ["_law_act"]) &&
  (decide ((1, []) ∈ a.fd.shapes) && (tdB a.scope a.body && (fsB b "_law_error" 1 && (fsB c "_law_field" 2 && t.exc.all (hvB b c))))))))))
def Bnd (d : Df) : Prop := ∀ kV doc pm an cdv ct, Shapes d.fd (PySem.W.fnOf d.name d.qual d.params d.body d.scope .none kV doc pm an cdv ct)
structure ToldOk (t : Txt) (a b c : Df) : Prop where
  ch : toldB t a b c = true
  sa : Bnd a
  sb : Bnd b
  sc : Bnd c
def iniB (f : String) (d : Df) : Bool := frameB d && (decide (d.fd.slots = ["self", f]) && (decide (d.fd.names = ["self", f]) && (decide ((2, []) ∈ d.fd.shapes) && (nmB (nm f) && match d.body with
  | [.Assign [.Attribute (.Name s _) g _] (.Name h _) _] => decide (s = "self") && (decide (g = nm f) && decide (h = nm f))
  | _ => false))))
structure TxtOk (t : Txt) : Prop where
  ok : ∀ d ∈ t.defs, DfOk t.tab d
  told : ∀ a b c, t.told = some (a, b, c) → ToldOk t a b c
  ini : ∀ C x f, t.exc.lookup C = some x → x.ex.fld = [f] → ∃ d, x.ini = some d ∧ iniB f d = true ∧ Bnd d
theorem bind_all {α : Type} : ∀ {ns : List String} {us : List α}, us.length = ns.length → bindG ns us [] = some us
  | [], [], _ => rfl
  | [], _ :: _, h => by cases h
  | _ :: _, [], h => by cases h
  | n :: ns, u :: us, h => by
    simp only [bindG]
    rw [bind_all (Nat.succ.inj h)]
    rfl
theorem Bnd.at_ {d : Df} {n : Nat} (b : Bnd d) (hs : (n, []) ∈ d.fd.shapes) (hn : d.fd.names.length = n) {kV doc pm cdv ct : Value} {an : Option Addr} (s : Shared) (us : List Value) (hl : us.length = n) :
    BindsTo s (PySem.W.fnOf d.name d.qual d.params d.body d.scope .none kV doc pm an cdv ct) ⟨us, []⟩ ((d.fd.names.map nm).zip us) :=
  b kV doc pm an cdv ct n [] hs s us [] us hl rfl (bind_all (hl.trans hn.symm))
theorem ini_mem {d : Df} : ∀ {l : List (String × Xc)} {C : String} {x : Xc}, l.lookup C = some x → x.ini = some d → d ∈ iniL l
  | [], _, _, e, _ => by cases e
  | (D, y) :: l, C, x, e, q => by
    rw [List.lookup_cons] at e
    unfold iniL
    by_cases h : C == D
    · rw [h] at e
      cases e
      dsimp only
      rw [q]
      exact List.mem_cons_self ..
    · rw [Bool.not_eq_true] at h
      rw [h] at e
      have ih := ini_mem e q
      dsimp only
      cases y.ini with
      | none => exact ih
      | some u => exact List.mem_cons_of_mem _ ih
theorem hfn_of (su : Sure t K mg) {d : Df} {f : String} {n : Nat} (hd : d ∈ t.every) (q : fsB d f n = true) (b : Bnd d) : HFn K mg d (d.adr K) ∧ d.name = nm f ∧ d.fd.names.length = n := by
  unfold fsB at q
  obtain ⟨q1, q⟩ := and_t q
  obtain ⟨q2, q⟩ := and_t q
  obtain ⟨q3, q⟩ := and_t q
  obtain ⟨q4, q⟩ := and_t q
  obtain ⟨q5, q⟩ := and_t q
  obtain ⟨q6, q7⟩ := and_t q
  have q1 := dec_t q1
  have q6 := dec_t q6
  obtain ⟨s1, s2, oc, od, kV, doc, pm, an, cdv, ct, osl, lk, hcd⟩ := su.df d hd
  refine ⟨⟨?_, s1, ⟨oc, od, kV, doc, pm, an, cdv, ct, osl, lk, hcd, fun s us hl => b.at_ (n := n) (dec_t q7) q6 s us (hl.trans q6)⟩, frame_ok q3, q4, by simpa using q5⟩, dec_t q2, q6⟩
  rw [dec_t q2]
  have := s2 (by rw [q1])
  rw [q1] at this
  exact this
theorem exk_of {K : PySem.W.Frag} {D : Addr} (h : exkF K D = true) : ExK K D := by
  unfold exkF at h
  obtain ⟨h1, h⟩ := and_t h
  obtain ⟨h2, h⟩ := and_t h
  obtain ⟨h3, h⟩ := and_t h
  obtain ⟨h4, h⟩ := and_t h
  obtain ⟨h5, h⟩ := and_t h
  obtain ⟨h6, h⟩ := and_t h
  obtain ⟨h7, h⟩ := and_t h
  obtain ⟨h8, h9⟩ := and_t h
  exact ⟨h1, He.eqO_ok h2, He.eqO_ok h3, dec_t h4, h5, He.eqO_ok h6, He.eqO_ok h7, dec_t h8, dec_t h9⟩
theorem td_of (su : Sure t K mg) (ok : TxtOk t) (hl : t.tab.lam = true) : TdRule K mg t.tab := by
  have hl : t.told.isSome = true := hl
  obtain ⟨⟨a, b, c⟩, ht⟩ := Option.isSome_iff_exists.mp hl
  have o := ok.told a b c ht
  have q := o.ch
  unfold toldB at q
  obtain ⟨q1, q⟩ := and_t q
  obtain ⟨q2, q⟩ := and_t q
  obtain ⟨q3, q⟩ := and_t q
  obtain ⟨q4, q⟩ := and_t q
  obtain ⟨q5, q⟩ := and_t q
  obtain ⟨q6, q⟩ := and_t q
  obtain ⟨q7, q⟩ := and_t q
  obtain ⟨q8, q⟩ := and_t q
  obtain ⟨q9, q⟩ := and_t q
  obtain ⟨q10, q11⟩ := and_t q
  have q1 := dec_t q1
  have nt : t.told ≠ none := by rw [ht]; exact fun z => by cases z
  have ma : ∀ d, d ∈ [a, b, c] → d ∈ t.every := fun d hd => by
    unfold Txt.every
    refine List.mem_append_right _ (List.mem_append_left _ ?_)
    rw [ht]
    exact hd
  obtain ⟨s1, s2, oc, od, kV, doc, pm, an, cdv, ct, osl, lk, hcd⟩ := su.df a (ma a (List.mem_cons_self ..))
  obtain ⟨e1, e2, e3⟩ := hfn_of su (ma b (.tail _ (.head _))) q9 o.sb
  obtain ⟨f1, f2, f3⟩ := hfn_of su (ma c (.tail _ (.tail _ (.head _)))) q10 o.sc
  have fr := frame_ok q4
  rw [dec_t q5, dec_t q6] at fr
  refine td_rule (g := a.adr K) (fE := b.adr K) (fF := c.adr K) (dT := a) (dE := b) (dF := c) (c1 := clsAd K "NotRight") (c2 := clsAd K "NotThere") (c3 := clsAd K "CannotBe") {
    mg_ := ?_
    kp := s1
    nT := ⟨dec_t q2, dec_t q3⟩
    at_ := ⟨oc, od, kV, doc, pm, an, cdv, ct, osl, lk, hcd, fun s u => ?_⟩
    fr := fr
    body := q8
    er := e1
    fi := f1
    nE := ⟨e2, e3⟩
    nF := ⟨f2, f3⟩
    rp := su.free _ (by decide)
    sm := su.sm
    n1 := su.base nt "NotRight" (.head _)
    n2 := su.base nt "NotThere" (.tail _ (.head _))
    n3 := su.base nt "CannotBe" (.tail _ (.tail _ (.head _)))
    exc := fun C x hx => ?_ }
  · have := s2 (by rw [q1])
    rw [q1] at this
    exact this
  · have z := o.sa.at_ (n := 1) (dec_t q7) (by rw [dec_t q6]; rfl) (kV := kV) (doc := doc) (pm := pm) (an := an) (cdv := cdv) (ct := ct) s [u] rfl
    rw [dec_t q6] at z
    exact z
  · obtain ⟨xc, hxc, rfl⟩ := Option.map_eq_some_iff.mp (show (t.exc.lookup C).map (·.ex) = some x from hx)
    obtain ⟨m1, m2⟩ := su.exc C xc hxc
    have hv := List.all_eq_true.mp q11 _ (look_mem hxc)
    unfold hvB at hv
    obtain ⟨v1, hv⟩ := and_t hv
    obtain ⟨v2, v3⟩ := and_t hv
    unfold excF at m2
    obtain ⟨_, m2⟩ := and_t m2
    obtain ⟨m3, m2⟩ := and_t m2
    obtain ⟨m4, m2⟩ := and_t m2
    obtain ⟨m5, m2⟩ := and_t m2
    obtain ⟨m6, m7⟩ := and_t m2
    refine ⟨clsAd K C, m1, dec_t m4, fun dd gs hg => ⟨exk_of m3, su.free _ (by decide), fun own cn r ha => ?_, fun f hf => ?_⟩, ?_, ?_⟩
    · have ha : xc.ex.asks.lookup (own, cn) = some r := ha
      obtain ⟨vc, cv, h1, h2, h3⟩ := su.ask C xc hxc own cn r ha
      refine ⟨vc, cv, h1, h2, h3.imp id fun ⟨h4, h5, h6⟩ => ?_⟩
      have z := List.all_eq_true.mp v3 _ (look_mem ha)
      subst h5 h6
      obtain ⟨z1, z2⟩ := and_t (show (decide (bootBuiltins (nm cn) = some (.type cn)) && decide (nm cn ≠ "__name__")) = true from z)
      exact ⟨h4, dec_t z1, dec_t z2⟩
    · have hf : f ∈ xc.ex.told.toList := hf
      have ef : xc.ex.told = some f := by simpa using hf
      obtain ⟨p, v, h1, h2⟩ := hg f ef
      rw [ef] at m6
      exact ⟨p, v, h1, h2, He.eqO_ok m6⟩
    · split at v1
      · rename_i w ew
        rw [ew, dec_t v1]
      · cases v1
    · split at v2
      · rename_i v ev
        rw [ev, dec_t v2]
      · cases v2
theorem oex_of {K : PySem.W.Frag} {C : Addr} (h : oexF K C = true) : OexC K C := by
  unfold oexF at h
  obtain ⟨h1, h⟩ := and_t h
  obtain ⟨h2, h⟩ := and_t h
  obtain ⟨h3, h⟩ := and_t h
  obtain ⟨h4, h5⟩ := and_t h
  refine ⟨?_, He.eqO_ok h2, dec_t h3, dec_t h4, h5⟩
  split at h1
  · rename_i dd cd sl lk
    split at h1
    · rename_i C' bm k0 k1 k2 k3 n k5 hm hs
      obtain ⟨a1, h1⟩ := and_t h1
      obtain ⟨a2, h1⟩ := and_t h1
      obtain ⟨a3, h1⟩ := and_t h1
      obtain ⟨a4, a5⟩ := and_t h1
      have a1 := dec_t a1
      have a2 := dec_t a2
      subst a1 a2
      obtain ⟨nm, bs, mro, ns, qn, hd, sn, sub, ab, col, del⟩ := cd
      dsimp only at hm a3 a4
      have a3 : del = false := by cases del with
        | true => cases a3
        | false => rfl
      subst hm
      subst a3
      subst a4
      have hsl : sl = #[k0, k1, k2, k3, some (.builtin "ValueError.__new__"), k5] := by
        obtain ⟨l⟩ := sl
        have hs : l = _ := hs
        rw [hs]
      subst hsl
      exact ⟨nm, qn, ns, bs, bm, sn, sub, ab, col, dd, k0, k1, k2, k3, k5, lk, a5⟩
    · cases h1
  · cases h1
theorem rs_of (su : Sure t K mg) (ok : TxtOk t) {C f : String} {x : Ex} (hx : t.tab.exc C = some x) (hf : x.fld = [f]) : RsRule P w K mg base C f := by
  obtain ⟨xc, hxc, rfl⟩ := Option.map_eq_some_iff.mp (show (t.exc.lookup C).map (·.ex) = some x from hx)
  obtain ⟨m1, m2⟩ := su.exc C xc hxc
  obtain ⟨d, hd, hi, hb⟩ := ok.ini C xc f hxc hf
  have dm : d ∈ t.every := by
    unfold Txt.every
    exact List.mem_append_right _ (List.mem_append_right _ (ini_mem hxc hd))
  obtain ⟨s1, s2, oc, od, kV, doc, pm, an, cdv, ct, osl, lk, hcd⟩ := su.df d dm
  unfold excF at m2
  obtain ⟨_, m2⟩ := and_t m2
  obtain ⟨_, m2⟩ := and_t m2
  obtain ⟨_, m2⟩ := and_t m2
  obtain ⟨_, m2⟩ := and_t m2
  obtain ⟨_, m7⟩ := and_t m2
  dsimp only at m7
  rw [hf, hd] at m7
  have m7 : iniF K (clsAd K C) f d = true := m7
  unfold iniF at m7
  obtain ⟨n1, m7⟩ := and_t m7
  obtain ⟨n2, m7⟩ := and_t m7
  obtain ⟨n3, n4⟩ := and_t m7
  unfold iniB at hi
  obtain ⟨i1, hi⟩ := and_t hi
  obtain ⟨i2, hi⟩ := and_t hi
  obtain ⟨i3, hi⟩ := and_t hi
  obtain ⟨i4, hi⟩ := and_t hi
  obtain ⟨i5, i6⟩ := and_t hi
  have fr := frame_ok i1
  rw [dec_t i2, dec_t i3] at fr
  refine rs_rule (D := clsAd K C) (fI := d.adr K) (d := d) {
    mg_ := m1
    ox := oex_of n1
    init := He.eqO_ok n2
    ty := dec_t n3
    no := He.eqO_ok n4
    at_ := ⟨oc, od, kV, doc, pm, an, cdv, ct, osl, lk, hcd, fun s us hl => ?_⟩
    fr := fr
    body := ?_
    nf := i5 }
  · have z := hb.at_ (n := 2) (dec_t i4) (by rw [dec_t i3]; rfl) (kV := kV) (doc := doc) (pm := pm) (an := an) (cdv := cdv) (ct := ct) s us hl
    rw [dec_t i3] at z
    exact z
  · split at i6
    · rename_i s p1 g p2 h p3 p4 eb
      obtain ⟨j1, i6⟩ := and_t i6
      obtain ⟨j2, j3⟩ := and_t i6
      rw [eb, dec_t j1, dec_t j2, dec_t j3]
      exact ⟨_, _, _, _, rfl⟩
    · cases i6
/-- the def's own table -/
theorem lam_ok (su : Sure t K mg) (kb : K.In base) (nt : t.told ≠ none) {d : Df} (hd : d ∈ t.defs) (lm : d.lm = true) {oc od kV doc pm an cdv ct osl} (lk : K.lookup (d.adr K) = some ⟨oc, od, .func (PySem.W.fnOf d.name d.qual d.params d.body d.scope .none kV doc pm an cdv ct), osl⟩) :
    ∃ c P, cdv = .ref c ∧ (lamsK K).lookup P = some (d.qual ++ ".<locals>." ++ "<lambda>") ∧ LamX.TabB base mg c P := by
  have q := su.lam nt d hd lm
  unfold lamF at q
  rw [lk] at q
  dsimp only at q
  split at q
  · rename_i c
    split at q
    · rename_i P n e
      obtain ⟨o, e1, e2⟩ := Option.bind_eq_some_iff.mp e
      obtain ⟨h1, h2⟩ := lam_hd kb e1 e2
      obtain ⟨bm, ob, b1, b2, b3, b4, b5, b6, b7, b8⟩ := su.bm nt
      refine ⟨c, P, rfl, dec_t q, h2, ⟨bm, ob, b1, b6, b7, fun z => ?_, kb _ _ b2, b3, b4, b5⟩, fun z => ?_⟩
      · rw [z, h1] at b2
        cases b2
      · rw [z] at b8
        exact b8 h1
    · cases q
  · cases q
/-- the functions at the levels below j -/
def Lv (P : Program) (w : World) (K : PySem.W.Frag) (mg : MG) (base : Heap) (t : Txt) (j : Nat) : Prop := ∀ d ∈ t.defs, ∀ oc od FD osl, K.lookup (d.adr K) = some ⟨oc, od, .func FD, osl⟩ → FnZ P w K mg base t.tab j d.fd (d.adr K) FD
theorem fn_def {k : String × String} {fd : Fn} (e : t.tab.fn k = some fd) : ∃ d ∈ t.defs, d.key = k ∧ d.fd = fd := by
  obtain ⟨d, h1, h2⟩ := Option.map_eq_some_iff.mp e
  have q := List.find?_some (p := fun d : Df => d.key == k) h1
  exact ⟨d, List.mem_of_find?_eq_some h1, eq_of_beq q, h2⟩
theorem kd_ok (hk : ∀ d ∈ t.defs, d.key.1 ≠ "" → ∀ c, t.tab.cl d.key.1 = some c → c.own.lookup d.key.2 = some d.kd) {C m : String} {c : Cl} {d : Df} (hd : d ∈ t.defs) (e : d.key = (C, m)) (hC : C ≠ "") (hc : t.tab.cl C = some c) :
    c.own.lookup m = some d.kd ∧ d.adr K = match d.kd with
      | .prop => pAd K (memAd K C m)
      | .cls => cAd K (memAd K C m)
      | .meth => memAd K C m := by
  have q := hk d hd (by rw [e]; exact hC) c (by rw [e]; exact hc)
  unfold Df.adr
  rw [e] at q ⊢
  refine ⟨q, ?_⟩
  have ne : ¬ ((C == "") = true) := fun z => hC (eq_of_beq z)
  dsimp only at q ⊢
  rw [if_neg ne]
  cases d.kd <;> rfl
theorem tbl_of (su : Sure t K mg) (ok : TxtOk t) (kb : K.In base) (hk : ∀ d ∈ t.defs, d.key.1 ≠ "" → ∀ c, t.tab.cl d.key.1 = some c → c.own.lookup d.key.2 = some d.kd) (hC : ∀ c, t.tab.cl "" ≠ some c) (hI : ∀ C c, t.tab.cl C = some c → c.own.lookup "__init__" ≠ some .prop ∧ c.own.lookup "__init__" ≠ some .cls)
    (ih : ∀ i, i < j → Lv P w K mg base t i) : Tbl P w K mg base t.tab j := by
  have both : ∀ d ∈ t.defs, ∃ FD, Shapes d.fd FD ∧ ∀ i, i < j → FnZ P w K mg base t.tab i d.fd (d.adr K) FD := fun d hd => by
    obtain ⟨_, _, oc, od, kV, doc, pm, an, cdv, ct, osl, lk, _⟩ := su.df d (every_mem hd)
    exact ⟨_, (ok.ok d hd).shp kV doc pm an cdv ct, fun i hi => ih i hi d hd _ _ _ _ lk⟩
  have me : ∀ C c m, t.tab.cl C = some c → (c.own.lookup m ≠ some .prop ∧ c.own.lookup m ≠ some .cls) → ∀ fd, t.tab.fn (C, m) = some fd → ∃ FD, Shapes fd FD ∧ ∀ i, i < j → FnZ P w K mg base t.tab i fd (memAd K C m) FD := fun C c m hc hm fd hf => by
    obtain ⟨d, hd, e1, e2⟩ := fn_def hf
    obtain ⟨el, e⟩ := kd_ok (K := K) hk hd e1 (fun z => by subst z; exact hC _ hc) hc
    rw [el] at hm
    rw [show d.kd = .meth from match hd : d.kd with | .meth => rfl | .prop => absurd (congrArg some hd) hm.1 | .cls => absurd (congrArg some hd) hm.2] at e
    dsimp only at e
    subst e2
    rw [← e]
    exact both d hd
  have meT : MeT P w K mg base t.tab j := fun C c m hc hm => by
    obtain ⟨q1, q2, q3, q4, q5, q6⟩ := su.cl C c hc
    exact ⟨_, _, q1, q2, q4 m hm, me C c m hc ⟨fun z => (by rw [hm] at z; cases z), fun z => by rw [hm] at z; cases z⟩⟩
  exact {
    tf := su.tf
    sm := su.sm
    free := su.free
    con := su.con
    fn := fun f fd hf => by
      obtain ⟨d, hd, e1, e2⟩ := fn_def hf
      obtain ⟨s1, s2, _⟩ := su.df d (every_mem hd)
      obtain ⟨FD, b1, b2⟩ := both d hd
      subst e2
      exact ⟨_, FD, by rw [← s2 (by rw [e1]), e1], s1, b1, b2⟩
    me := meT
    pr := fun C c m hc hm => by
      obtain ⟨q1, q2, q3, q4, q5, q6⟩ := su.cl C c hc
      refine ⟨_, _, _, q1, q2, q5 m hm, fun fd hf => ?_⟩
      obtain ⟨d, hd, e1, e2⟩ := fn_def hf
      obtain ⟨el, e⟩ := kd_ok (K := K) hk hd e1 (fun z => by subst z; exact hC _ hc) hc
      rw [show d.kd = .prop from Option.some.inj (el.symm.trans hm)] at e
      dsimp only at e
      subst e2
      rw [← e]
      exact both d hd
    mak := fun C c hc => by
      obtain ⟨q1, q2, q3, q4, q5, q6⟩ := su.cl C c hc
      exact ⟨_, _, q1, q3, me C c "__init__" hc (hI C c hc)⟩
    cm := fun C c m hc hm => by
      obtain ⟨q1, q2, q3, q4, q5, q6⟩ := su.cl C c hc
      refine ⟨_, _, _, q1, q6 m hm, fun fd hf => ?_⟩
      obtain ⟨d, hd, e1, e2⟩ := fn_def hf
      obtain ⟨el, e⟩ := kd_ok (K := K) hk hd e1 (fun z => by subst z; exact hC _ hc) hc
      rw [show d.kd = .cls from Option.some.inj (el.symm.trans hm)] at e
      dsimp only at e
      subst e2
      rw [← e]
      exact both d hd
    own := fun X e1 e2 e3 e4 e5 hr _ => by
      subst e1 e2 e3 e4 e5
      exact own_of su.tf meT hr
    td := td_of su ok
    rs := fun C x f hx hf => rs_of su ok hx hf }
theorem lvl (su : Sure t K mg) (ok : TxtOk t) (kb : K.In base) (hk : ∀ d ∈ t.defs, d.key.1 ≠ "" → ∀ c, t.tab.cl d.key.1 = some c → c.own.lookup d.key.2 = some d.kd) (hC : ∀ c, t.tab.cl "" ≠ some c) (hI : ∀ C c, t.tab.cl C = some c → c.own.lookup "__init__" ≠ some .prop ∧ c.own.lookup "__init__" ≠ some .cls) (lmT : ∀ d ∈ t.defs, d.lm = true → t.told ≠ none) :
    ∀ (n j : Nat), j < n → Lv P w K mg base t j
  | 0, _, h => absurd h (Nat.not_lt_zero _)
  | n + 1, j, h => fun d hd oc od FD osl lk => by
    have tb : Tbl P w K mg base t.tab j := tbl_of su ok kb hk hC hI fun i hi => lvl su ok kb hk hC hI lmT n i (Nat.lt_of_lt_of_le hi (Nat.le_of_lt_succ h))
    obtain ⟨_, _, oc', od', kV, doc, pm, an, cdv, ct, osl', lk', hcd⟩ := su.df d (every_mem hd)
    have z := lk.symm.trans lk'
    cases z
    have S := frame_ok (ok.ok d hd).fr
    refine fnz_of lk hcd S fun A outer s H E hr => ?_
    refine snd_Ss t.tab j d.fd.body d.sc d.body _ _ (ok.ok d hd).body ⟨rfl, rfl, fun _ => rfl, fun lm => ⟨?_, hr⟩⟩ ⟨⟨hr.z, rfl, S.nd, takes_of rfl rfl rfl rfl, tb⟩, passes_of rfl⟩
    obtain ⟨c, P, h1, h2, h3⟩ := lam_ok su kb (lmT d hd lm) hd lm lk
    exact ⟨c, P, h1, h2, h3⟩
end
end Z
/-! Z28: how a tree is walked by hand. -/
namespace Z
open PySem (Operator CmpOp)
section
variable {g : G} {env : Env} {hd : Hd}
@[simp] theorem evE_var {i : Nat} : evE g (.var i) env hd = match env[i]? with
    | some (some v) => .ok v hd
    | _ => .bad := rfl
@[simp] theorem evE_con {d : D} : evE g (.con d) env hd = .ok d hd := rfl
@[simp] theorem evE_glo {x : String} : evE g (.glo x) env hd = match g.T.con x with
    | some d => .ok d hd
    | none => match g.T.cl x with
      | some _ => .ok (.glo x) hd
      | none => .bad := rfl
@[simp] theorem evE_bin {m : Bool} {op : Operator} {a b : E} : evE g (.bin m op a b) env hd = (evE g a env hd).bind fun x hd => (evE g b env hd).bind fun y hd => (binS m op x y hd).st := rfl
@[simp] theorem evE_neg {a : E} : evE g (.neg a) env hd = (evE g a env hd).bind fun x hd => match x with
    | .int i => .ok (.int (-i)) hd
    | _ => .bad := rfl
@[simp] theorem evE_not {a : E} : evE g (.not a) env hd = (truthR (evE g a env hd)).bind fun b hd => .ok (.bl (!b)) hd := rfl
@[simp] theorem evE_and {a b : E} : evE g (.and a b) env hd = (evE g a env hd).bind fun x hd => (R.of (truth hd x) hd).bind fun c hd => if c then evE g b env hd else .ok x hd := rfl
@[simp] theorem evE_or {a b : E} : evE g (.or a b) env hd = (evE g a env hd).bind fun x hd => (R.of (truth hd x) hd).bind fun c hd => if c then .ok x hd else evE g b env hd := rfl
@[simp] theorem evE_ite {c a b : E} : evE g (.ite c a b) env hd = (truthR (evE g c env hd)).bind fun k hd => if k then evE g a env hd else evE g b env hd := rfl
@[simp] theorem evE_cmp {op : CmpOp} {a b : E} : evE g (.cmp op a b) env hd = (evE g a env hd).bind fun x hd => (evE g b env hd).bind fun y hd => (cmpS g op x y hd).st := rfl
@[simp] theorem evE_cmp2 {o1 o2 : CmpOp} {a b c : E} : evE g (.cmp2 o1 o2 a b c) env hd = (evE g a env hd).bind fun x hd => (evE g b env hd).bind fun y hd => (cmpS g o1 x y hd).st.bind fun r hd => match r with
    | .bl k => if k then (evE g c env hd).bind fun z hd => (cmpS g o2 y z hd).st else .ok (.bl false) hd
    | _ => .bad := rfl
@[simp] theorem evE_bi {m : Bool} {f : BI} {es : Es} : evE g (.bi m f es) env hd = (evEs g es env hd).bind fun xs hd => (biS g m f xs hd).st := rfl
@[simp] theorem evE_isi {a : E} {own : Bool} {c : String} : evE g (.isi a own c) env hd = (evE g a env hd).bind fun x hd => (R.of (isiS g own c x hd) hd).bind fun b hd => .ok (.bl b) hd := rfl
@[simp] theorem evE_mt {m : Bool} {f : MT} {o : E} {es : Es} : evE g (.mt m f o es) env hd = (evE g o env hd).bind fun x hd => if tyOk f x hd = true then (evEs g es env hd).bind fun xs hd => (mtS m f x xs hd).st else .bad := rfl
@[simp] theorem evE_fn {f : String} {es : Es} {ks : List String} {kes : Es} : evE g (.fn f es ks kes) env hd = (evEs g es env hd).bind fun xs hd => (evEs g kes env hd).bind fun ys hd => if ys.length = ks.length then g.call ("", f) xs (ks.zip ys) hd else .bad := rfl
@[simp] theorem evE_new {C : String} {es : Es} {ks : List String} {kes : Es} : evE g (.new C es ks kes) env hd = (evEs g es env hd).bind fun xs hd => (evEs g kes env hd).bind fun ys hd => if ys.length = ks.length then newS g C xs (ks.zip ys) hd else .bad := rfl
@[simp] theorem evE_me {f : String} {o : E} {es : Es} {ks : List String} {kes : Es} : evE g (.me f o es ks kes) env hd = (evE g o env hd).bind fun x hd => match meK g f x hd with
    | some C => (evEs g es env hd).bind fun xs hd => (evEs g kes env hd).bind fun ys hd => if ys.length = ks.length then g.call (C, f) (x :: xs) (ks.zip ys) hd else .bad
    | none => .bad := rfl
@[simp] theorem evE_att {o : E} {f : String} : evE g (.att o f) env hd = (evE g o env hd).bind fun x hd => (attS g x f hd).st := rfl
@[simp] theorem evE_ix {a b : E} : evE g (.ix a b) env hd = (evE g a env hd).bind fun x hd => (evE g b env hd).bind fun y hd => (ixS x y hd).st := rfl
@[simp] theorem evE_tup {es : Es} : evE g (.tup es) env hd = (evEs g es env hd).bind fun xs hd => if xs.length ≤ line then .ok (.tup xs) hd else .bad := rfl
@[simp] theorem evE_lst {m : Bool} {es : Es} : evE g (.lst m es) env hd = (evEs g es env hd).bind fun xs hd => if xs.length ≤ line then mkL m xs hd else .bad := rfl
@[simp] theorem evE_dic : evE g (.dic .nil .nil) env hd = .ok (.dic []) hd := rfl
@[simp] theorem evE_lc {m : Bool} {elt : E} {own : List Nat} {tg : Tg} {k : IK} {its ifs : Es} : evE g (.lc m elt own tg k its ifs) env hd = (evEs g its env hd).bind fun xs hd => match iterS k xs hd with
    | some (.inl vs) => (lcV (storeS tg) (fun env hd => evAll g ifs env hd) (fun env hd => evE g elt env hd) (wipe env own) vs [] hd).bind fun ys hd => mkL m ys hd
    | some (.inr a) => match hd[a]? with
      | some (.lst us) => (lcO (storeS tg) (fun env hd => evAll g ifs env hd) (fun env hd => evE g elt env hd) (wipe env own) a us.length us.length [] hd).bind fun ys hd => mkL m ys hd
      | _ => .bad
    | none => .bad := rfl
@[simp] theorem evE_dc {kx vx : E} {own : List Nat} {tg : Tg} {k : IK} {its ifs : Es} : evE g (.dc kx vx own tg k its ifs) env hd = (evEs g its env hd).bind fun xs hd => match iterS k xs hd with
    | some (.inl vs) => (dcV (storeS tg) (fun env hd => evAll g ifs env hd) (fun env hd => evE g kx env hd) (fun env hd => evE g vx env hd) (wipe env own) vs [] hd).bind fun kvs hd => .ok (.dic kvs) hd
    | _ => .bad := rfl
@[simp] theorem evE_fs {es : Es} : evE g (.fs es) env hd = evF g es [] env hd := rfl
@[simp] theorem evE_cm {C f : String} {es kes : Es} {ks : List String} : evE g (.cm C f es ks kes) env hd = (evEs g es env hd).bind fun xs hd => (evEs g kes env hd).bind fun ys hd => if ys.length = ks.length then g.call (C, f) (.glo C :: xs) (ks.zip ys) hd else .bad := rfl
@[simp] theorem evE_newv {i : Nat} {es kes : Es} {ks : List String} : evE g (.newv i es ks kes) env hd = match env[i]? with
    | some (some (.glo C)) => if (g.T.cl C).isSome then (evEs g es env hd).bind fun xs hd => (evEs g kes env hd).bind fun ys hd => if ys.length = ks.length then newS g C xs (ks.zip ys) hd else .bad else .bad
    | _ => .bad := rfl
@[simp] theorem evE_fmt {a : E} : evE g (.fmt a) env hd = (evE g a env hd).bind fmtS := rfl
/-- a slice -/
@[simp] theorem evE_sl11 {m : Bool} {a lo hi : E} (h1 : lo ≠ .nop) (h2 : hi ≠ .nop) : evE g (.sl m a lo hi) env hd = (evE g a env hd).bind fun x hd => ((evE g lo env hd).bind intS).bind fun l hd => ((evE g hi env hd).bind intS).bind fun u hd => (slS m x l u hd).st := by
  conv => lhs; unfold evE
  cases lo <;> first
    | exact absurd rfl h1
    | (cases hi <;> first
        | exact absurd rfl h2
        | rfl)
@[simp] theorem evE_sl01 {m : Bool} {a hi : E} (h2 : hi ≠ .nop) : evE g (.sl m a .nop hi) env hd = (evE g a env hd).bind fun x hd => ((evE g hi env hd).bind intS).bind fun u hd => (slS m x .non u hd).st := by
  conv => lhs; unfold evE
  cases hi <;> first
    | exact absurd rfl h2
    | rfl
@[simp] theorem evE_sl10 {m : Bool} {a lo : E} (h1 : lo ≠ .nop) : evE g (.sl m a lo .nop) env hd = (evE g a env hd).bind fun x hd => ((evE g lo env hd).bind intS).bind fun l hd => (slS m x l .non hd).st := by
  conv => lhs; unfold evE
  cases lo <;> first
    | exact absurd rfl h1
    | rfl
@[simp] theorem evEs_nil : evEs g .nil env hd = .ok [] hd := rfl
@[simp] theorem evEs_star {e : E} {es : Es} : evEs g (.cons (.star e) es) env hd = (evE g e env hd).bind fun x hd => match items hd x with
    | some xs => (evEs g es env hd).bind fun ys hd => .ok (xs ++ ys) hd
    | none => .bad := rfl
@[simp] theorem evEs_more {e : E} {es : Es} (h : ∀ y, e ≠ .star y) : evEs g (.cons e es) env hd = (evE g e env hd).bind fun x hd => (evEs g es env hd).bind fun xs hd => .ok (x :: xs) hd := by
  cases e <;> first
    | exact absurd rfl (h _)
    | rfl
@[simp] theorem evAll_nil : evAll g .nil env hd = .ok true hd := rfl
@[simp] theorem evAll_cons {e : E} {es : Es} : evAll g (.cons e es) env hd = (truthR (evE g e env hd)).bind fun b hd => if b then evAll g es env hd else .ok false hd := rfl
@[simp] theorem evF_nil {acc : List Nat} : evF g .nil acc env hd = .ok (.str acc) hd := rfl
@[simp] theorem evF_cons {e : E} {es : Es} {acc : List Nat} : evF g (.cons e es) acc env hd = (evE g e env hd).bind fun x hd => match x with
    | .str z => if acc.length + z.length ≤ line then evF g es (acc ++ z) env hd else .bad
    | _ => .bad := rfl
@[simp] theorem evS_skip : evS g .skip env hd = .nx env hd := rfl
@[simp] theorem evS_seq {a b : S} : evS g (.seq a b) env hd = (evS g a env hd).then_ fun env hd => evS g b env hd := rfl
@[simp] theorem evS_set {t : Tg} {e : E} : evS g (.set t e) env hd = (evE g e env hd).to env fun v hd => match storeS t v env hd with
    | some env => .nx env hd
    | none => .bad := rfl
@[simp] theorem evS_seta {o : E} {f : String} {e : E} : evS g (.seta o f e) env hd = (evE g e env hd).to env fun v hd => (evE g o env hd).to env fun x hd => match setaS g x f v hd with
    | some hd => .nx env hd
    | none => .bad := rfl
@[simp] theorem evS_seti {o i e : E} : evS g (.seti o i e) env hd = (evE g e env hd).to env fun v hd => (evE g o env hd).to env fun x hd => (evE g i env hd).to env fun j hd => match setiS x j v hd with
    | some hd => .nx env hd
    | none => .bad := rfl
@[simp] theorem evS_ifs {c : E} {a b : S} : evS g (.ifs c a b) env hd = (truthR (evE g c env hd)).to env fun k hd => if k then evS g a env hd else evS g b env hd := rfl
@[simp] theorem evS_for {t : Tg} {k : IK} {its : Es} {body : S} : evS g (.for_ t k its body) env hd = (evEs g its env hd).to env fun xs hd => match iterS k xs hd with
    | some (.inl vs) => forV (storeS t) (fun env hd => evS g body env hd) vs env hd
    | some (.inr a) => (match hd[a]? with
      | some (.lst us) => forO (storeS t) (fun env hd => evS g body env hd) a us.length us.length env hd
      | _ => .bad)
    | none => .bad := rfl
@[simp] theorem evS_ret {e : E} : evS g (.ret e) env hd = (evE g e env hd).to env fun v hd => .rt v hd := rfl
@[simp] theorem evS_ret0 : evS g .ret0 env hd = .rt .non hd := rfl
@[simp] theorem evS_try {b : S} : evS g (.try_ b) env hd = (evS g b env hd).calmO := rfl
@[simp] theorem calmO_nx : (O.nx env hd).calmO = .nx env hd := rfl
@[simp] theorem calmO_rt {d : D} : (O.rt d hd).calmO = .rt d hd := rfl
@[simp] theorem evS_retr {f : String} {v : Nat} {k : E} {c : Nat} : evS g (.retr f v k c) env hd = (repS g f v c (fun env hd => evE g k env hd) env hd).to env fun v hd => .rt v hd := rfl
@[simp] theorem evS_ex {e : E} : evS g (.ex e) env hd = (evE g e env hd).to env fun _ hd => .nx env hd := rfl
@[simp] theorem evS_nope : evS g .nope env hd = .bad := rfl
end
/-! ### only the part that comes next -/
theorem bind_next {α β : Type} {m m' : R α} {f : α → Hd → R β} (h : m = m') : m.bind f = m'.bind f := by rw [h]
theorem to_next {α : Type} {m m' : R α} {env : Env} {f : α → Hd → O} (h : m = m') : m.to env f = m'.to env f := by rw [h]
theorem then_next {o o' : O} {f : Env → Hd → O} (h : o = o') : o.then_ f = o'.then_ f := by rw [h]
@[simp] theorem st_exc {α : Type} (C : String) (fs : List (String × D)) (h : Hd) : (R.exc C fs h : R α).st = .bad := rfl
section
variable {g : G} {hd : Hd} {m : Bool}
@[simp] theorem add_int {a b : Int} : binS m .Add (.int a) (.int b) hd = .ok (.int (a + b)) hd := rfl
@[simp] theorem sub_int {a b : Int} : binS m .Sub (.int a) (.int b) hd = .ok (.int (a - b)) hd := rfl
theorem mul_int {a b : Int} (h : (-big < a ∧ a < big) ∨ (-big < b ∧ b < big)) : binS m .Mult (.int a) (.int b) hd = .ok (.int (a * b)) hd := if_pos h
theorem mod_int {a b : Int} (h : 0 < b) : binS m .Mod (.int a) (.int b) hd = .ok (.int (a % b)) hd := if_pos h
theorem div_int {a b : Int} (h : 0 < b ∧ b < 1073741824) : binS m .FloorDiv (.int a) (.int b) hd = .ok (.int (a / b)) hd := if_pos h
theorem add_str {a b : List Nat} (h : a.length + b.length ≤ line) : binS m .Add (.str a) (.str b) hd = .ok (.str (a ++ b)) hd := if_pos h
theorem add_tup {a b : List D} (h : a.length + b.length ≤ line) : binS m .Add (.tup a) (.tup b) hd = .ok (.tup (a ++ b)) hd := if_pos h
theorem add_lst {a b : List D} (h : a.length + b.length ≤ line) : binS false .Add (.lst a) (.lst b) hd = .ok (.lst (a ++ b)) hd := if_pos h
@[simp] theorem int_int {a : Int} : biS g m .int [.int a] hd = .ok (.int a) hd := rfl
@[simp] theorem lt_int {a b : Int} : cmpS g .Lt (.int a) (.int b) hd = .ok (.bl (decide (a < b))) hd := rfl
@[simp] theorem le_int {a b : Int} : cmpS g .LtE (.int a) (.int b) hd = .ok (.bl (decide (a ≤ b))) hd := rfl
@[simp] theorem gt_int {a b : Int} : cmpS g .Gt (.int a) (.int b) hd = .ok (.bl (decide (b < a))) hd := rfl
@[simp] theorem ge_int {a b : Int} : cmpS g .GtE (.int a) (.int b) hd = .ok (.bl (decide (b ≤ a))) hd := rfl
@[simp] theorem truth_bl {b : Bool} : truth hd (.bl b) = some b := rfl
@[simp] theorem truth_int {b : Int} : truth hd (.int b) = some (b != 0) := rfl
@[simp] theorem truth_non : truth hd .non = some false := rfl
@[simp] theorem truth_tup {b : List D} : truth hd (.tup b) = some (!b.isEmpty) := rfl
@[simp] theorem truth_lst {b : List D} : truth hd (.lst b) = some (!b.isEmpty) := rfl
@[simp] theorem truth_row {b : List Int} : truth hd (.row b) = some (!b.isEmpty) := rfl
theorem truth_str {z : List Nat} (h : z.length ≤ line) : truth hd (.str z) = some (!z.isEmpty) := if_pos h
@[simp] theorem items_tup {b : List D} : items hd (.tup b) = some b := rfl
@[simp] theorem items_lst {b : List D} : items hd (.lst b) = some b := rfl
@[simp] theorem items_row {b : List Int} : items hd (.row b) = some (b.map .int) := rfl
theorem items_obj {n : Nat} {b : List D} (h : hd[n]? = some (.lst b)) : items hd (.obj n) = some b := by
  show (match hd[n]? with
    | some (.lst xs) => some xs
    | _ => none) = _
  rw [h]
theorem ix_items {x : D} {i : Int} {xs : List D} {v : D} (hx : items hd x = some xs) (h : atI xs i = some v) : ixS x (.int i) hd = .ok v hd := by
  cases x <;> first
    | (cases hx; done)
    | (unfold ixS
       simp only [hx, h, R.of_some])
theorem ix_str {z : List Nat} {i : Int} {c : Nat} (hz : z.length ≤ line) (h : atI z i = some c) : ixS (.str z) (.int i) hd = .ok (.str [c]) hd := by
  unfold ixS
  simp only [if_pos hz, h, Option.map_some, R.of_some]
theorem seti_obj {n : Nat} {i : Int} {v : D} {xs : List D} {j : Nat} (h : hd[n]? = some (.lst xs)) (hj : ixn xs.length i = some j) : setiS (.obj n) (.int i) v hd = some (hd.set n (.lst (xs.set j v))) := by
  show (match hd[n]? with
    | some (.lst xs) => match ixn xs.length i with
      | some j => some (hd.set n (.lst (xs.set j v)))
      | none => none
    | _ => none) = _
  rw [h]
  show (match ixn xs.length i with
      | some j => some (hd.set n (.lst (xs.set j v)))
      | none => none) = _
  rw [hj]
@[simp] theorem store_name {i : Nat} {v : D} {env : Env} : storeS (.name i) v env hd = some (env.set i (some v)) := rfl
theorem store_names {is : List Nat} {v : D} {env : Env} {xs : List D} (hx : items hd v = some xs) (hl : xs.length = is.length) : storeS (.names is) v env hd = some (setAll env is xs) := by
  show (match items hd v with
    | some xs => if xs.length = is.length then some (setAll env is xs) else none
    | none => none) = _
  rw [hx]
  exact if_pos hl
@[simp] theorem is_non {x : D} (h : ∀ C fs, x ≠ .exc C fs) : cmpS g .Is x .non hd = .ok (.bl (isNon x)) hd := by
  cases x <;> first
    | rfl
    | exact absurd rfl (h _ _)
@[simp] theorem isNot_non {x : D} (h : ∀ C fs, x ≠ .exc C fs) : cmpS g .IsNot x .non hd = .ok (.bl (!isNon x)) hd := by
  cases x <;> first
    | rfl
    | exact absurd rfl (h _ _)
theorem eqd_int {a b : Int} : eqd hd (.int a) (.int b) = some (decide (a = b)) := by
  show (if (PySem.PyData.int a).plain = true ∧ (PySem.PyData.int b).plain = true ∧ min (PySem.PyData.int a).depth (PySem.PyData.int b).depth ≤ 64 then some (PySem.PyData.eqv (.int a) (.int b)) else none) = _
  rw [if_pos ⟨rfl, rfl, by simp [PySem.PyData.depth]⟩]
  have : PySem.PyData.eqv (.int a) (.int b) = decide (a = b) := by
    simp only [PySem.PyData.eqv]
    by_cases e : a = b <;> simp [e]
  rw [this]
theorem txt_inj {a b : List Nat} : ((⟨a.toArray⟩ : PySem.Str) = ⟨b.toArray⟩) ↔ a = b := by
  constructor
  · intro h
    have := congrArg (fun z => z.cps.toList) h
    simpa using this
  · intro h
    rw [h]
theorem eqd_str {a b : List Nat} : eqd hd (.str a) (.str b) = some (decide (a = b)) := by
  show (if (PySem.PyData.str ⟨a.toArray⟩).plain = true ∧ (PySem.PyData.str ⟨b.toArray⟩).plain = true ∧ min (PySem.PyData.str ⟨a.toArray⟩).depth (PySem.PyData.str ⟨b.toArray⟩).depth ≤ 64 then some (PySem.PyData.eqv (.str ⟨a.toArray⟩) (.str ⟨b.toArray⟩)) else none) = _
  rw [if_pos ⟨rfl, rfl, by simp [PySem.PyData.depth]⟩]
  congr 1
  by_cases e : a = b
  · subst e
    simp [PySem.PyData.eqv]
  · have n : ¬ ((⟨a.toArray⟩ : PySem.Str) = ⟨b.toArray⟩) := fun q => e (txt_inj.mp q)
    simp [PySem.PyData.eqv, e]
theorem eqd_bl {a b : Bool} : eqd hd (.bl a) (.bl b) = some (a == b) := by
  show (if (PySem.PyData.bool a).plain = true ∧ (PySem.PyData.bool b).plain = true ∧ min (PySem.PyData.bool a).depth (PySem.PyData.bool b).depth ≤ 64 then some (PySem.PyData.eqv (.bool a) (.bool b)) else none) = _
  rw [if_pos ⟨rfl, rfl, by simp [PySem.PyData.depth]⟩]
  cases a <;> cases b <;> rfl
@[simp] theorem eq_int {a b : Int} : cmpS g .Eq (.int a) (.int b) hd = .ok (.bl (decide (a = b))) hd := by
  unfold cmpS
  try (unfold eqS2; try dsimp only)
  unfold eqS
  dsimp only
  rw [eqd_int]
  rfl
@[simp] theorem eq_str {a b : List Nat} : cmpS g .Eq (.str a) (.str b) hd = .ok (.bl (decide (a = b))) hd := by
  unfold cmpS
  try (unfold eqS2; try dsimp only)
  unfold eqS
  dsimp only
  rw [eqd_str]
  rfl
@[simp] theorem ne_str {a b : List Nat} : cmpS g .NotEq (.str a) (.str b) hd = .ok (.bl (!decide (a = b))) hd := by
  unfold cmpS
  try (unfold eqS2; try dsimp only)
  unfold eqS
  dsimp only
  rw [eqd_str]
  rfl
@[simp] theorem eq_bl {a b : Bool} : cmpS g .Eq (.bl a) (.bl b) hd = .ok (.bl (a == b)) hd := by
  unfold cmpS
  try (unfold eqS2; try dsimp only)
  unfold eqS
  dsimp only
  rw [eqd_bl]
  rfl
@[simp] theorem ne_bl {a b : Bool} : cmpS g .NotEq (.bl a) (.bl b) hd = .ok (.bl (!(a == b))) hd := by
  unfold cmpS
  try (unfold eqS2; try dsimp only)
  unfold eqS
  dsimp only
  rw [eqd_bl]
  rfl
@[simp] theorem in_str {c : Nat} {z : List Nat} : cmpS g .In (.str [c]) (.str z) hd = .ok (.bl (decide (c ∈ z))) hd := rfl
theorem len_items {x : D} {xs : List D} (hx : items hd x = some xs) : biS g m .len [x] hd = .ok (.int xs.length) hd := by
  cases x <;> first
    | (cases hx; done)
    | (unfold biS biS1 lenS
       simp only [hx])
@[simp] theorem len_tup {xs : List D} : biS g m .len [.tup xs] hd = .ok (.int xs.length) hd := rfl
@[simp] theorem len_lst {xs : List D} : biS g m .len [.lst xs] hd = .ok (.int xs.length) hd := rfl
theorem len_str {z : List Nat} (h : z.length ≤ line) : biS g m .len [.str z] hd = .ok (.int z.length) hd := if_pos h
end
/-! ### lists that may change -/
def lsAt (hd : Hd) (n : Nat) : Option (List D) := match hd[n]? with
  | some (.lst xs) => some xs
  | _ => none
section
variable {g : G} {hd : Hd} {m : Bool} {n : Nat}
@[simp] theorem ix_obj {i : Int} : ixS (.obj n) (.int i) hd = match lsAt hd n with
    | some xs => R.of (atI xs i) hd
    | none => .bad := rfl
@[simp] theorem seti_at {i : Int} {v : D} : setiS (.obj n) (.int i) v hd = match lsAt hd n with
    | some xs => (ixn xs.length i).map fun j => hd.set n (.lst (xs.set j v))
    | none => none := by
  unfold setiS lsAt
  dsimp only
  cases e : hd[n]? with
  | none => rfl
  | some x => cases x with
    | lst xs =>
      dsimp only
      cases h : ixn xs.length i <;> rfl
    | _ => rfl
@[simp] theorem items_at : items hd (.obj n) = lsAt hd n := rfl
@[simp] theorem lst_at : lstOf hd (.obj n) = lsAt hd n := rfl
@[simp] theorem lst_lst {xs : List D} : lstOf hd (.lst xs) = some xs := rfl
@[simp] theorem len_at : biS g m .len [.obj n] hd = match lsAt hd n with
    | some xs => .ok (.int xs.length) hd
    | none => .bad := rfl
theorem at_set {l : List D} (h : n < hd.length) : lsAt (hd.set n (.lst l)) n = some l := by
  unfold lsAt
  rw [List.getElem?_set_self h]
theorem at_other {k : Nat} {x : MO} (h : k ≠ n) : lsAt (hd.set k x) n = lsAt hd n := by
  unfold lsAt
  rw [List.getElem?_set_ne h]
@[simp] theorem at_end {l : List D} : lsAt (hd ++ [.lst l]) hd.length = some l := by
  unfold lsAt
  rw [List.getElem?_append_right (Nat.le_refl _)]
  simp
theorem at_more {x : MO} (h : n < hd.length) : lsAt (hd ++ [x]) n = lsAt hd n := by
  unfold lsAt
  rw [List.getElem?_append_left h]
theorem at_lt {l : List D} (h : lsAt hd n = some l) : n < hd.length := by
  unfold lsAt at h
  split at h
  · rename_i xs e
    exact (List.getElem?_eq_some_iff.mp e).1
  · cases h
@[simp] theorem set_end {x y : MO} : (hd ++ [x]).set hd.length y = hd ++ [y] := by
  rw [List.set_append_right _ _ (Nat.le_refl _)]
  simp
theorem set_more {x y : MO} (h : n < hd.length) : (hd ++ [x]).set n y = hd.set n y ++ [x] := List.set_append_left _ _ h
theorem ty_at {f : MT} (h : isLM f = true) : tyOk f (.obj n) hd = (lsAt hd n).isSome := by
  unfold tyOk
  rw [if_pos h]
  rfl
theorem ty_tx {f : MT} {z : List Nat} (h : isLM f = false) : tyOk f (.str z) hd = true := by
  unfold tyOk
  rw [h]
  rfl
@[simp] theorem ty_pop : tyOk .pop (.obj n) hd = (lsAt hd n).isSome := rfl
@[simp] theorem ty_append : tyOk .append (.obj n) hd = (lsAt hd n).isSome := rfl
@[simp] theorem ty_extend : tyOk .extend (.obj n) hd = (lsAt hd n).isSome := rfl
@[simp] theorem ty_join {z : List Nat} : tyOk .join (.str z) hd = true := rfl
@[simp] theorem ty_split {z : List Nat} : tyOk .split (.str z) hd = true := rfl
@[simp] theorem ty_part {z : List Nat} : tyOk .partition (.str z) hd = true := rfl
@[simp] theorem ty_rpart {z : List Nat} : tyOk .rpartition (.str z) hd = true := rfl
@[simp] theorem ty_pre {z : List Nat} : tyOk .removeprefix (.str z) hd = true := rfl
@[simp] theorem ty_strip {z : List Nat} : tyOk .strip (.str z) hd = true := rfl
@[simp] theorem ty_starts {z : List Nat} : tyOk .startswith (.str z) hd = true := rfl
theorem append_at {y : D} {ys : List D} (h : lsAt hd n = some ys) (hl : ys.length < line) : mtS m .append (.obj n) [y] hd = .ok .non (hd.set n (.lst (ys ++ [y]))) := by
  unfold mtS
  unfold lsAt at h
  split at h
  · rename_i xs e
    cases h
    dsimp only
    rw [e]
    exact if_pos hl
  · cases h
theorem pop_at {ys : List D} {i : Int} {j : Nat} {v : D} (h : lsAt hd n = some ys) (hj : ixn ys.length i = some j) (hv : ys[j]? = some v) (hl : ys.length ≤ line) : mtS m .pop (.obj n) [.int i] hd = .ok v (hd.set n (.lst (ys.eraseIdx j))) := by
  unfold mtS
  unfold lsAt at h
  split at h
  · rename_i xs e
    cases h
    dsimp only
    rw [e]
    show (match ixn ys.length i with
      | some j => (match ys[j]? with
        | some v => if ys.length ≤ line then R.ok v (hd.set n (.lst (ys.eraseIdx j))) else .bad
        | none => .bad)
      | none => .bad) = _
    rw [hj]
    show (match ys[j]? with
        | some v => if ys.length ≤ line then R.ok v (hd.set n (.lst (ys.eraseIdx j))) else .bad
        | none => .bad) = _
    rw [hv]
    exact if_pos hl
  · cases h
end
/-- what a range walks -/
def rng (N : Nat) : List D := (List.range N).map fun (i : Nat) => D.int i
theorem rng_len (N : Nat) : (rng N).length = N := by simp [rng]
theorem rng_get {N j : Nat} {v : D} (q : (rng N)[j]? = some v) : j < N ∧ v = .int j := by
  unfold rng at q
  have h := (List.getElem?_eq_some_iff.mp q).1
  simp at h
  refine ⟨h, ?_⟩
  simp [h] at q
  exact q.symm
theorem it_rng {n : Int} {hd : Hd} (h1 : -4611686018427387904 ≤ n) (h2 : n < 4611686018427387904) : iterS .range [.int n] hd = some (.inl (rng n.toNat)) := by
  show (if -4611686018427387904 ≤ n ∧ n < 4611686018427387904 then some (Sum.inl ((List.range n.toNat).map fun (i : Nat) => D.int (0 + (i : Int)))) else none) = _
  rw [if_pos ⟨h1, h2⟩]
  simp [rng]
/-! ### the end of a call -/
theorem fin_same {kept : Bool} {n : Nat} {d : D} {hd : Hd} (h : hd.length = n) : fin kept n (.rt d hd) = .ok d hd := by
  show (if kept = true ∨ hd.length = n then R.ok d hd else _) = _
  rw [if_pos (.inr h)]
/-- a call of a def of the table -/
theorem call_at {T : Tab} {key : String × String} {fd : Fn} {k : Nat} {xs vs : List D} {ks : List (String × D)} {hd : Hd} (h : T.fn key = some fd) (h2 : ((xs.length, ks.map (·.1)) : Nat × List String) ∈ fd.shapes) (h3 : bindG fd.names xs ks = some vs) :
    callF T (k + 1) key xs ks hd = fin fd.kept hd.length (evS ⟨T, callF T k⟩ fd.body (entry fd vs) hd) := by
  rw [callF_eq, h]
  dsimp only
  rw [if_pos h2, h3]
  rfl
theorem call_is {T : Tab} {key : String × String} {fd : Fn} {k : Nat} {xs vs : List D} {ks : List (String × D)} {hd : Hd} {kept : Bool} {tree : S} {env : Env} (h : T.fn key = some fd) (h2 : ((xs.length, ks.map (·.1)) : Nat × List String) ∈ fd.shapes) (h3 : bindG fd.names xs ks = some vs) (h4 : fd.kept = kept) (h5 : fd.body = tree)
    (h6 : entry fd vs = env) : callF T (k + 1) key xs ks hd = fin kept hd.length (evS ⟨T, callF T k⟩ tree env hd) := by
  rw [call_at h h2 h3, h4, h5, h6]
@[simp] theorem truthR_ok {v : D} {hd : Hd} : truthR (.ok v hd) = R.of (truth hd v) hd := rfl
theorem tw_mem {α : Type} {p : α → Bool} {x : α} : ∀ {l : List α}, x ∈ l.takeWhile p → p x = true
  | [], h => by cases h
  | a :: l, h => by
    rw [List.takeWhile_cons] at h
    split at h
    · rename_i q
      rcases List.mem_cons.mp h with e | e
      · rw [e]; exact q
      · exact tw_mem e
    · cases h
theorem tw_all {α : Type} {p : α → Bool} : ∀ {l : List α}, (∀ x ∈ l, p x = true) → l.takeWhile p = l
  | [], _ => rfl
  | a :: l, h => by
    rw [List.takeWhile_cons, if_pos (h a (List.mem_cons_self ..)), tw_all fun x hx => h x (List.mem_cons_of_mem _ hx)]
theorem stp_nil {y z : List Nat} : stpL y z = [] ↔ (z.all fun c => decide (c ∈ y)) = true := by
  have hc : ∀ c, y.toArray.contains c = decide (c ∈ y) := fun c => by simp
  have split_ : z = z.take (stpA y z) ++ z.drop (stpA y z) := (List.take_append_drop _ _).symm
  constructor
  · intro h
    rw [List.all_eq_true]
    cases hd : z.drop (stpA y z) with
    | nil =>
      intro x hx
      have hl : z.length ≤ stpA y z := by
        have := congrArg List.length hd
        rw [List.length_drop] at this
        simp at this
        omega
      have tw : z.takeWhile y.toArray.contains = z := (List.takeWhile_prefix _).eq_of_length_le hl
      have := tw_mem (by rw [tw]; exact hx : x ∈ z.takeWhile y.toArray.contains)
      rw [hc] at this
      exact this
    | cons c r =>
      exfalso
      have hlt : stpA y z < z.length := by
        have := congrArg List.length hd
        rw [List.length_drop] at this
        simp at this
        omega
      have hcn : y.toArray.contains c = false := by
        have h1 := PyProof.Rows.takeWhile_stop y.toArray.contains 0 z
        rcases h1 with h1 | h1
        · exfalso
          unfold stpA at hlt
          omega
        · have e : z.getD (stpA y z) 0 = c := by
            have h2 : (z.drop (stpA y z))[0]? = some c := by rw [hd]; rfl
            rw [List.getElem?_drop] at h2
            simp at h2
            simp [List.getD, h2]
          rw [← e]
          exact h1
      have h2 : ((z.drop (stpA y z)).reverse.takeWhile y.toArray.contains).length ≤ r.length := by
        rw [hd, List.reverse_cons, List.takeWhile_append]
        split
        · rw [List.takeWhile_cons, hcn]
          simp
        · exact Nat.le_trans (List.takeWhile_prefix _).length_le (by simp)
      have h3 : r.length + 1 + stpA y z = z.length := by
        have := congrArg List.length hd
        rw [List.length_drop] at this
        simp at this
        omega
      have h4 : 0 < stpB y z - stpA y z := by
        unfold stpB
        omega
      unfold stpL at h
      rw [hd] at h
      cases hk : stpB y z - stpA y z with
      | zero => omega
      | succ k => rw [hk] at h; simp at h
  · intro h
    rw [List.all_eq_true] at h
    have tw : z.takeWhile y.toArray.contains = z := by
      refine tw_all fun x hx => ?_
      rw [hc]
      exact h x hx
    unfold stpL stpA
    rw [tw]
    simp
end Z
/-! Z29: from the law's tree to the claim's walk. -/
namespace Z
open PySem L2 PySem.Spec PyProof.Rows
def Txt.kindsB (t : Txt) : Bool := (t.defs.all fun d => !d.lm || t.told.isSome) && ((t.defs.all fun d => d.key.1 == "" || (match t.cls.lookup d.key.1 with
  | some c => decide (c.own.lookup d.key.2 = some d.kd)
  | none => true)) && ((t.cls.lookup "").isNone && t.cls.all fun p => decide (p.2.own.lookup "__init__" ≠ some .prop ∧ p.2.own.lookup "__init__" ≠ some .cls)))
theorem walkT {l : PySem.W.OpenLaw} {n m j : Nat} {q : Program} {loose : List Str} {XP : (Str → Option Value) → Heap → Prop} {d : DefRec} {x : String} {t : Txt} {dl : Df} (hn : l.most = some n) (hn2 : n ≤ sizeLine) (hdf : d.params.defaults = []) (room : RoomY (j + 1) callerA)
    (ok : TxtOk t) (kd : t.kindsB = true) (hm : dl ∈ t.defs) (hk1 : dl.key.1 = "") (hk2 : nm dl.key.2 = d.name) (one : dl.fd.names = [x]) (sh : ((1, []) : Nat × List String) ∈ dl.fd.shapes)
    (run : ∀ ns : List Int, ns.length ≤ n → (∀ k ∈ ns, Builtin.Int.intBits k ≤ 1048576) → ∃ h, runF t.tab j dl.fd [.row ns] [] = .ok (.bl true) h) :
    PySem.W.WalkO q loose XP (t.hook m).says l.row.toRowW d [] (fun f vs => PySem.call f vs) := by
  obtain ⟨k0, kd⟩ := and_t kd
  obtain ⟨k1, kd⟩ := and_t kd
  obtain ⟨k2, k3⟩ := and_t kd
  have lmT : ∀ d ∈ t.defs, d.lm = true → t.told ≠ none := fun d hd lm z => by
    have q := List.all_eq_true.mp k0 d hd
    rw [lm, z] at q
    cases q
  have hk : ∀ d ∈ t.defs, d.key.1 ≠ "" → ∀ c, t.tab.cl d.key.1 = some c → c.own.lookup d.key.2 = some d.kd := fun d hd hne c hc => by
    have z := List.all_eq_true.mp k1 d hd
    rcases or_t z with z | z
    · exact absurd (eq_of_beq z) hne
    · have hc : t.cls.lookup d.key.1 = some c := hc
      rw [hc] at z
      exact dec_t z
  have hC : ∀ c, t.tab.cl "" ≠ some c := fun c z => by
    have z : t.cls.lookup "" = some c := z
    rw [z] at k2
    cases k2
  have hI : ∀ C c, t.tab.cl C = some c → c.own.lookup "__init__" ≠ some .prop ∧ c.own.lookup "__init__" ≠ some .cls := fun C c hc => dec_t (List.all_eq_true.mp k3 (C, c) (look_mem hc))
  refine walkZ (x := x) hn hn2 hdf room fun w mg fa h Y G hmg => ?_
  obtain ⟨K, kin, tabs, c⟩ := Y
  have su := Txt.sure kin G c
  obtain ⟨kp, hg, oc, od, kV, doc, pm, an, cdv, ct, osl, lk, hcd⟩ := su.df dl (every_mem hm)
  have hg := hg hk1
  rw [hk2] at hg
  cases hmg.symm.trans hg
  refine ⟨K, t.tab, dl.fd, _, kin, tabs, one, fun s u => ?_, fun base kb gb => lvl su ok kb hk hC hI lmT (j + 1) j (Nat.lt_succ_self _) dl hm _ _ _ _ lk, run⟩
  have b := (ok.ok dl hm).shp kV doc pm an cdv ct 1 [] sh s [u] [] [u] rfl rfl (by rw [one]; rfl)
  rw [one] at b
  exact b
end Z
/-! Z30: what the names of the module lead to, each object met once; the head's run in two pieces. -/
namespace Z
open PySem PySem.Spec PyProof.Rows
/-- m: the bits of the addresses met so far; the number: a bound of the steps -/
def meet (g : Addr → Option Obj) : Nat → List Addr → Nat → List Addr
  | 0, _, _ => []
  | _ + 1, [], _ => []
  | k + 1, a :: r, m => match Nat.beq (Nat.land (Nat.shiftRight m a) 1) 1 with
    | true => meet g k r m
    | false => HandSHeadRun.frNat (Nat.lor m (Nat.shiftLeft 1 a)) fun m => a :: meet g k ((match g a with
      | some o => He.refsD o
      | none => []) ++ r) m
def partM (n : Nat) (g : Addr → Option Obj) : PySem.W.Frag := He.frG (outG g) (meet g n [mainGlobals] 0 ++ [cStatics, sysModules])
def Txt.hookM (t : Txt) (n : Nat) : PySem.W.Hook where
  α := Looked2
  obs := fun z => t.sees (partM n z.heap.get?) z.heap.get?
  val := fun _ => (t.good, true)
  says := fun _ hp => t.says hp
  of := fun _ _ q => ⟨_, part_in, tabs_ok (congrArg (·.2) q), congrArg (·.1) q⟩
  keeps := fun _ _ _ q k => by
    obtain ⟨F, kin, q0, q⟩ := q
    exact ⟨F, PySem.W.Frag.In.keeps kin k, fun P x m => k _ _ (q0 P x m), q⟩
theorem Txt.hookM_eq {t : Txt} {n : Nat} {g : Addr → Option Obj} {z : Shared} (h : ∀ a, g a = z.heap.get? a) : t.sees (partM n g) g = (t.hookM n).obs z := by
  have : g = z.heap.get? := funext h
  subst this
  rfl
theorem two_looks {α β γ δ : Type} {o : Option α} {f : α → β} {g : α → γ} {h : α → δ} {b : β} {c : γ} {d : δ} (e1 : o.map (fun s => (f s, g s)) = some (b, c)) (e2 : o.map h = some d) : o.map (fun s => (f s, g s, h s)) = some (b, c, d) := by
  cases o with
  | none => cases e1
  | some s =>
    cases e1
    cases e2
    rfl
/-- the two looks of the head that are no business of the walk -/
def RunA (r : PySem.W.OpenRow) (q : Program) (M : Nat) (loose : List Str) (w : World) : Prop :=
  ∀ os : OsState, (HandSHeadRun.endF (HandSHeadRun.stepQ (HandSHeadRun.denQ HandSHeadRun.tabQ) r.prog w) M r.prog w os).map (fun s => (HandSHeadRun.looksF r.prog (PySem.W.boot_heap w.params) s.abs, HandSHeadRun.seenQ q loose (PySem.importedModules r.prog.main.body) (fun s => PySem.W.xlAt q [] s && PySem.W.recOk r.toRowW.records s) s.abs)) = some (true, PySem.W.openGood q loose)
def RunB (r : PySem.W.OpenRow) (H : PySem.W.Hook) (ob : PySem.W.SharedT → H.α) (M : Nat) (w : World) : Prop :=
  ∀ os : OsState, (HandSHeadRun.endF (HandSHeadRun.stepQ (HandSHeadRun.denQ HandSHeadRun.tabQ) r.prog w) M r.prog w os).map ob = some (H.val w)
theorem run_two {r : PySem.W.OpenRow} {q : Program} {H : PySem.W.Hook} {ob : PySem.W.SharedT → H.α} {M : Nat} {loose : List Str} {w : World} (a : RunA r q M loose w) (b : RunB r H ob M w) : HandSHeadRun.RunEq r q H ob M loose w := fun os => two_looks (a os) (b os)
end Z
/-! the text's small trees -/
namespace Z
open PySem L2
abbrev rowAt (i : Nat) : Stmt := PySem.Challenge.pw_quotedthreads_k03_programs_refused.main.body.getD i (.Pass ⟨0, 0, 0, 0⟩)
abbrev memAt (i j : Nat) : Stmt := match rowAt i with
  | .ClassDef _ _ _ body .. => body.getD j (.Pass ⟨0, 0, 0, 0⟩)
  | s => s
def D_wall.tree : S :=
      .nope
def D_wall.fnd : Fn := { names := ["k"], slots := ["k"], body := D_wall.tree, kept := false, shapes := [(1, [])] }
def D_wall : Df := { key := ("", "_wall"), kd := .meth, fd := D_wall.fnd, name := "_wall", qual := "_wall", params := defArgs (rowAt 0), body := defBody (rowAt 0), scope := defScope (rowAt 0) }
def Dis_marks.tree : S :=
      (.seq (.ret (.and (.isi (.var 0) false "str") (.cmp .Eq (.mt false .strip (.var 0) (.cons (.glo "SIGNS") .nil)) (.con (.str [])))))
      .skip)
def Dis_marks.fnd : Fn := { names := ["value"], slots := ["value"], body := Dis_marks.tree, kept := false, shapes := [(1, [])] }
def Dis_marks : Df := { key := ("", "is_marks"), kd := .meth, fd := Dis_marks.fnd, name := "is_marks", qual := "is_marks", params := defArgs (rowAt 35), body := defBody (rowAt 35), scope := defScope (rowAt 35) }
def Dis_name.e0 : E :=
      (.cmp .In (.var 1) (.glo "_LETTERS_AND_DIGITS"))
def Dis_name.tree : S :=
      (.seq (.ifs (.or (.not (.isi (.var 0) false "str")) (.not (.cmp2 .LtE .LtE (.con (.int 1)) (.bi false .len (.cons (.var 0) .nil)) (.glo "_LONGEST_NAME")))) (.seq (.ret (.con (.bl false)))
      .skip) .skip)
      (.seq (.ret (.and (.cmp .In (.ix (.var 0) (.con (.int 0))) (.glo "_LETTERS")) (.bi false .all (.cons (.lc false Dis_name.e0 [1] (.name 1) .plain (.cons (.var 0) .nil) .nil) .nil))))
      .skip))
def Dis_name.fnd : Fn := { names := ["value"], slots := ["value", "letter"], body := Dis_name.tree, kept := false, shapes := [(1, [])] }
def Dis_name : Df := { key := ("", "is_name"), kd := .meth, fd := Dis_name.fnd, name := "is_name", qual := "is_name", params := defArgs (rowAt 36), body := defBody (rowAt 36), scope := defScope (rowAt 36) }
def DProgram_u_init_u.tree : S :=
      (.seq (.ifs (.not (.fn "is_name" (.cons (.var 1) .nil) [] .nil)) (.seq (.raise "InvalidName" (.cons (.var 1) .nil))
      .skip) .skip)
      (.seq (.ifs (.or (.not (.isi (.var 2) false "tuple")) (.cmp .Eq (.bi false .len (.cons (.var 2) .nil)) (.con (.int 0)))) (.seq (.raise "InvalidCases" (.cons (.con (.non)) .nil))
      .skip) .skip)
      (.seq (.set (.name 3) (.fn "_first_wrong" (.cons (.var 2) .nil) [] .nil))
      (.seq (.ifs (.cmp .IsNot (.var 3) (.con (.non))) (.seq (.raise "InvalidCases" (.cons (.var 3) .nil))
      .skip) .skip)
      (.seq (.seta (.var 0) "_name" (.var 1))
      (.seq (.seta (.var 0) "_cases" (.var 2))
      .skip))))))
def DProgram_u_init_u.fnd : Fn := { names := ["self", "name", "cases"], slots := ["self", "name", "cases", "wrong"], body := DProgram_u_init_u.tree, kept := false, shapes := [(3, [])] }
def DProgram_u_init_u : Df := { key := ("Program", "__init__"), kd := .meth, fd := DProgram_u_init_u.fnd, name := "__init__", qual := "Program.__init__", params := defArgs (memAt 43 0), body := defBody (memAt 43 0), scope := defScope (memAt 43 0) }
def DProgram_read.e0 : E :=
      (.fn "_case_of" (.cons (.var 5) .nil) [] .nil)
def DProgram_read.tree : S :=
      (.seq (.ifs (.not (.isi (.var 1) false "str")) .nope .skip)
      (.seq (.set (.star [2] 4) (.mt false .split (.var 1) (.cons (.con (.str [10])) .nil)))
      (.seq (.try_ (.seq (.set (.name 3) (.newv 0 (.cons (.mt false .removeprefix (.var 2) (.cons (.con (.str [112, 114, 111, 103, 114, 97, 109, 32])) .nil)) (.cons (.bi false .tuple (.cons (.lc false DProgram_read.e0 [5] (.name 5) .plain (.cons (.var 4) .nil) .nil) .nil)) .nil)) [] .nil))
      .skip))
      (.seq (.ifs (.cmp .NotEq (.bi false .str (.cons (.var 3) .nil)) (.var 1)) .nope .skip)
      (.seq (.ret (.var 3))
      .skip)))))
def DProgram_read.fnd : Fn := { names := ["cls", "text"], slots := ["cls", "text", "head", "program", "rows", "row"], body := DProgram_read.tree, kept := false, shapes := [] }
def DProgram_read : Df := { key := ("Program", "read"), kd := .cls, fd := DProgram_read.fnd, name := "read", qual := "Program.read", params := defArgs (memAt 43 1), body := defBody (memAt 43 1), scope := defScope (memAt 43 1) }
def DProgram_name.tree : S :=
      (.seq (.ret (.att (.var 0) "_name"))
      .skip)
def DProgram_name.fnd : Fn := { names := ["self"], slots := ["self"], body := DProgram_name.tree, kept := false, shapes := [(1, [])] }
def DProgram_name : Df := { key := ("Program", "name"), kd := .prop, fd := DProgram_name.fnd, name := "name", qual := "Program.name", params := defArgs (memAt 43 2), body := defBody (memAt 43 2), scope := defScope (memAt 43 2) }
def DProgram_cases.tree : S :=
      (.seq (.ret (.att (.var 0) "_cases"))
      .skip)
def DProgram_cases.fnd : Fn := { names := ["self"], slots := ["self"], body := DProgram_cases.tree, kept := false, shapes := [(1, [])] }
def DProgram_cases : Df := { key := ("Program", "cases"), kd := .prop, fd := DProgram_cases.fnd, name := "cases", qual := "Program.cases", params := defArgs (memAt 43 3), body := defBody (memAt 43 3), scope := defScope (memAt 43 3) }
def DProgram_treat.tree : S :=
      (.seq (.ex (.fn "_wall" (.cons (.con (.int 0)) .nil) [] .nil))
      .skip)
def DProgram_treat.fnd : Fn := { names := ["self", "marks", "own"], slots := ["self", "marks", "own"], body := DProgram_treat.tree, kept := false, shapes := [] }
def DProgram_treat : Df := { key := ("Program", "treat"), kd := .meth, fd := DProgram_treat.fnd, name := "treat", qual := "Program.treat", params := defArgs (memAt 43 4), body := defBody (memAt 43 4), scope := defScope (memAt 43 4) }
def DProgram_taken.tree : S :=
      (.seq (.ifs (.not (.fn "is_marks" (.cons (.var 1) .nil) [] .nil)) .nope .skip)
      (.seq (.ret (.fn "_taken" (.cons (.att (.var 0) "_cases") (.cons (.var 1) .nil)) [] .nil))
      .skip))
def DProgram_taken.fnd : Fn := { names := ["self", "marks"], slots := ["self", "marks"], body := DProgram_taken.tree, kept := false, shapes := [] }
def DProgram_taken : Df := { key := ("Program", "taken"), kd := .meth, fd := DProgram_taken.fnd, name := "taken", qual := "Program.taken", params := defArgs (memAt 43 5), body := defBody (memAt 43 5), scope := defScope (memAt 43 5) }
def DProgram_u_eq_u.tree : S :=
      (.seq (.ret (.and (.isi (.var 1) true "Program") (.and (.cmp .Eq (.att (.var 0) "_name") (.att (.var 1) "_name")) (.cmp .Eq (.att (.var 0) "_cases") (.att (.var 1) "_cases")))))
      .skip)
def DProgram_u_eq_u.fnd : Fn := { names := ["self", "other"], slots := ["self", "other"], body := DProgram_u_eq_u.tree, kept := false, shapes := [(2, [])] }
def DProgram_u_eq_u : Df := { key := ("Program", "__eq__"), kd := .meth, fd := DProgram_u_eq_u.fnd, name := "__eq__", qual := "Program.__eq__", params := defArgs (memAt 43 6), body := defBody (memAt 43 6), scope := defScope (memAt 43 6) }
def DProgram_u_str_u.e0 : E :=
      (.fn "_row_of" (.cons (.var 2) .nil) [] .nil)
def DProgram_u_str_u.tree : S :=
      (.seq (.set (.name 1) (.lc false DProgram_u_str_u.e0 [2] (.name 2) .plain (.cons (.att (.var 0) "_cases") .nil) .nil))
      (.seq (.ret (.mt false .join (.con (.str [10])) (.cons (.lst false (.cons (.fs (.cons (.con (.str [112, 114, 111, 103, 114, 97, 109, 32])) (.cons (.fmt (.att (.var 0) "_name")) .nil))) (.cons (.star (.var 1)) .nil))) .nil)))
      .skip))
def DProgram_u_str_u.fnd : Fn := { names := ["self"], slots := ["self", "rows", "case"], body := DProgram_u_str_u.tree, kept := false, shapes := [(1, [])] }
def DProgram_u_str_u : Df := { key := ("Program", "__str__"), kd := .meth, fd := DProgram_u_str_u.fnd, name := "__str__", qual := "Program.__str__", params := defArgs (memAt 43 7), body := defBody (memAt 43 7), scope := defScope (memAt 43 7) }
def DProgram_u_repr_u.tree : S :=
      (.seq (.ret (.fs (.cons (.con (.str [80, 114, 111, 103, 114, 97, 109, 32])) (.cons (.fmt (.att (.var 0) "_name")) (.cons (.con (.str [32, 111, 102, 32])) (.cons (.fmt (.bi false .len (.cons (.att (.var 0) "_cases") .nil))) (.cons (.con (.str [32, 99, 97, 115, 101, 115])) .nil)))))))
      .skip)
def DProgram_u_repr_u.fnd : Fn := { names := ["self"], slots := ["self"], body := DProgram_u_repr_u.tree, kept := false, shapes := [(1, [])] }
def DProgram_u_repr_u : Df := { key := ("Program", "__repr__"), kd := .meth, fd := DProgram_u_repr_u.fnd, name := "__repr__", qual := "Program.__repr__", params := defArgs (memAt 43 8), body := defBody (memAt 43 8), scope := defScope (memAt 43 8) }
def D_first_wrong.b0 : S :=
      (.seq (.ifs (.or (.cmp .GtE (.var 2) (.glo "MOST_CASES")) (.or (.not (.fn "_is_case" (.cons (.var 3) .nil) [] .nil)) (.cmp .NotEq (.fn "_is_else" (.cons (.var 3) .nil) [] .nil) (.cmp .Eq (.var 2) (.var 1))))) (.seq (.ret (.var 2))
      .skip) .skip)
      .skip)
def D_first_wrong.tree : S :=
      (.seq (.set (.name 1) (.bin false .Sub (.bi false .len (.cons (.var 0) .nil)) (.con (.int 1))))
      (.seq (.for_ (.names [2, 3]) .enum (.cons (.var 0) .nil) D_first_wrong.b0)
      (.seq (.ret (.con (.non)))
      .skip)))
def D_first_wrong.fnd : Fn := { names := ["cases"], slots := ["cases", "last", "index", "case"], body := D_first_wrong.tree, kept := false, shapes := [(1, [])] }
def D_first_wrong : Df := { key := ("", "_first_wrong"), kd := .meth, fd := D_first_wrong.fnd, name := "_first_wrong", qual := "_first_wrong", params := defArgs (rowAt 44), body := defBody (rowAt 44), scope := defScope (rowAt 44) }
def D_is_case.tree : S :=
      (.seq (.ifs (.or (.not (.isi (.var 0) false "tuple")) (.cmp .NotEq (.bi false .len (.cons (.var 0) .nil)) (.con (.int 3)))) (.seq (.ret (.con (.bl false)))
      .skip) .skip)
      (.seq (.set (.names [1, 2, 3]) (.var 0))
      (.seq (.ret (.and (.isi (.var 2) false "bool") (.and (.fn "_is_begin" (.cons (.var 1) (.cons (.var 2) .nil)) [] .nil) (.fn "_is_put" (.cons (.var 3) .nil) [] .nil))))
      .skip)))
def D_is_case.fnd : Fn := { names := ["value"], slots := ["value", "begin", "only", "put"], body := D_is_case.tree, kept := false, shapes := [(1, [])] }
def D_is_case : Df := { key := ("", "_is_case"), kd := .meth, fd := D_is_case.fnd, name := "_is_case", qual := "_is_case", params := defArgs (rowAt 45), body := defBody (rowAt 45), scope := defScope (rowAt 45) }
def D_is_begin.tree : S :=
      (.seq (.set (.name 2) (.ite (.var 1) (.glo "_LONGEST_ONLY_BEGIN") (.glo "_LONGEST_BEGIN")))
      (.seq (.ret (.and (.fn "is_marks" (.cons (.var 0) .nil) [] .nil) (.cmp .LtE (.bi false .len (.cons (.var 0) .nil)) (.var 2))))
      .skip))
def D_is_begin.fnd : Fn := { names := ["value", "only"], slots := ["value", "only", "longest"], body := D_is_begin.tree, kept := false, shapes := [(2, [])] }
def D_is_begin : Df := { key := ("", "_is_begin"), kd := .meth, fd := D_is_begin.fnd, name := "_is_begin", qual := "_is_begin", params := defArgs (rowAt 46), body := defBody (rowAt 46), scope := defScope (rowAt 46) }
def D_is_put.tree : S :=
      (.seq (.ifs (.cmp .Is (.var 0) (.con (.non))) (.seq (.ret (.con (.bl true)))
      .skip) .skip)
      (.seq (.retr "is_marks" 0 (.glo "_LONGEST_PUT") 64)
      .skip))
def D_is_put.fnd : Fn := { names := ["value"], slots := ["value"], body := D_is_put.tree, kept := false, shapes := [(1, [])] }
def D_is_put : Df := { key := ("", "_is_put"), kd := .meth, fd := D_is_put.fnd, name := "_is_put", qual := "_is_put", params := defArgs (rowAt 47), body := defBody (rowAt 47), scope := defScope (rowAt 47) }
def D_is_else.tree : S :=
      (.seq (.set (.names [1, 2, 3]) (.var 0))
      (.seq (.ret (.and (.cmp .Eq (.var 1) (.con (.str []))) (.not (.var 2))))
      .skip))
def D_is_else.fnd : Fn := { names := ["case"], slots := ["case", "begin", "only", "_"], body := D_is_else.tree, kept := false, shapes := [(1, [])] }
def D_is_else : Df := { key := ("", "_is_else"), kd := .meth, fd := D_is_else.fnd, name := "_is_else", qual := "_is_else", params := defArgs (rowAt 48), body := defBody (rowAt 48), scope := defScope (rowAt 48) }
def D_taken.tree : S :=
      (.seq (.set (.name 2) (.con (.int 0)))
      .nope)
def D_taken.fnd : Fn := { names := ["cases", "marks"], slots := ["cases", "marks", "index"], body := D_taken.tree, kept := false, shapes := [(2, [])] }
def D_taken : Df := { key := ("", "_taken"), kd := .meth, fd := D_taken.fnd, name := "_taken", qual := "_taken", params := defArgs (rowAt 49), body := defBody (rowAt 49), scope := defScope (rowAt 49) }
def D_fits.tree : S :=
      (.seq (.set (.names [2, 3, 4]) (.var 0))
      (.seq (.ret (.ite (.var 3) (.cmp .Eq (.var 1) (.var 2)) (.mt false .startswith (.var 1) (.cons (.var 2) .nil))))
      .skip))
def D_fits.fnd : Fn := { names := ["case", "marks"], slots := ["case", "marks", "begin", "only", "_"], body := D_fits.tree, kept := false, shapes := [] }
def D_fits : Df := { key := ("", "_fits"), kd := .meth, fd := D_fits.fnd, name := "_fits", qual := "_fits", params := defArgs (rowAt 50), body := defBody (rowAt 50), scope := defScope (rowAt 50) }
def D_row_of.tree : S :=
      (.seq (.set (.names [1, 2, 3]) (.var 0))
      (.seq (.ifs (.fn "_is_else" (.cons (.var 0) .nil) [] .nil) (.seq (.set (.name 4) (.con (.str [101, 108, 115, 101])))
      .skip) (.seq (.ifs (.cmp .Eq (.var 1) (.con (.str []))) (.seq (.set (.name 4) (.con (.str [111, 110, 108, 121])))
      .skip) (.seq (.set (.name 4) (.ite (.var 2) (.fs (.cons (.con (.str [111, 110, 108, 121, 32])) (.cons (.fmt (.var 1)) .nil))) (.fs (.cons (.con (.str [98, 101, 103, 105, 110, 32])) (.cons (.fmt (.var 1)) .nil)))))
      .skip))
      .skip))
      (.seq (.ret (.fs (.cons (.fmt (.var 4)) (.cons (.con (.str [58, 32])) (.cons (.fmt (.fn "_word_of" (.cons (.var 3) .nil) [] .nil)) .nil)))))
      .skip)))
def D_row_of.fnd : Fn := { names := ["case"], slots := ["case", "begin", "only", "put", "head"], body := D_row_of.tree, kept := false, shapes := [(1, [])] }
def D_row_of : Df := { key := ("", "_row_of"), kd := .meth, fd := D_row_of.fnd, name := "_row_of", qual := "_row_of", params := defArgs (rowAt 51), body := defBody (rowAt 51), scope := defScope (rowAt 51) }
def D_word_of.tree : S :=
      (.seq (.ifs (.cmp .Is (.var 0) (.con (.non))) (.seq (.ret (.glo "_GONE"))
      .skip) .skip)
      (.seq (.ret (.ite (.var 0) (.var 0) (.glo "_NOTHING")))
      .skip))
def D_word_of.fnd : Fn := { names := ["put"], slots := ["put"], body := D_word_of.tree, kept := false, shapes := [(1, [])] }
def D_word_of : Df := { key := ("", "_word_of"), kd := .meth, fd := D_word_of.fnd, name := "_word_of", qual := "_word_of", params := defArgs (rowAt 52), body := defBody (rowAt 52), scope := defScope (rowAt 52) }
def D_case_of.tree : S :=
      (.seq (.set (.names [1, 2, 3]) (.mt false .rpartition (.var 0) (.cons (.con (.str [58, 32])) .nil)))
      (.seq (.set (.names [4, 2, 5]) (.mt false .partition (.var 1) (.cons (.con (.str [32])) .nil)))
      (.seq (.ret (.tup (.cons (.var 5) (.cons (.cmp .Eq (.var 4) (.con (.str [111, 110, 108, 121]))) (.cons (.fn "_put_of" (.cons (.var 3) .nil) [] .nil) .nil)))))
      .skip)))
def D_case_of.fnd : Fn := { names := ["row"], slots := ["row", "head", "_", "word", "kind", "begin"], body := D_case_of.tree, kept := false, shapes := [(1, [])] }
def D_case_of : Df := { key := ("", "_case_of"), kd := .meth, fd := D_case_of.fnd, name := "_case_of", qual := "_case_of", params := defArgs (rowAt 53), body := defBody (rowAt 53), scope := defScope (rowAt 53) }
def D_put_of.tree : S :=
      (.seq (.ifs (.cmp .Eq (.var 0) (.glo "_GONE")) (.seq (.ret (.con (.non)))
      .skip) .skip)
      (.seq (.ret (.ite (.cmp .Eq (.var 0) (.glo "_NOTHING")) (.con (.str [])) (.var 0)))
      .skip))
def D_put_of.fnd : Fn := { names := ["word"], slots := ["word"], body := D_put_of.tree, kept := false, shapes := [(1, [])] }
def D_put_of : Df := { key := ("", "_put_of"), kd := .meth, fd := D_put_of.fnd, name := "_put_of", qual := "_put_of", params := defArgs (rowAt 54), body := defBody (rowAt 54), scope := defScope (rowAt 54) }
def D_law_streams.e0 : E :=
      (.bin true .Mod (.bi false .int (.cons (.bin false .Add (.bin false .Mult (.var 4) (.con (.int 613))) (.bin false .Mult (.con (.int 1000003)) (.var 6))) .nil)) (.con (.int 2147483629)))
def D_law_streams.e1 : E :=
      (.lst true (.cons (.ite (.or (.cmp .GtE (.var 5) (.bin false .Pow (.con (.int 10)) (.con (.int 18)))) (.cmp .Lt (.var 5) (.con (.int 0)))) (.bi false .abs (.cons (.var 5) .nil)) (.con (.int 0))) (.cons (.bin false .Mod (.bi false .int (.cons (.var 5) .nil)) (.con (.int 2147483629))) (.cons (.con (.int 0)) .nil))))
def D_law_streams.tree : S :=
      (.seq (.set (.name 3) (.bi false .list (.cons (.sl false (.var 0) .nop (.var 2)) .nil)))
      (.seq (.set (.name 4) (.ite (.var 3) (.ix (.var 3) (.con (.int 0))) (.con (.int 17))))
      (.seq (.set (.name 3) (.bin false .Add (.var 3) (.lc false D_law_streams.e0 [6] (.name 6) .range (.cons (.con (.int 1)) (.cons (.bin false .Sub (.bin false .Add (.con (.int 1)) (.var 1)) (.bi false .len (.cons (.var 3) .nil))) .nil)) .nil)))
      (.seq (.ret (.lc false D_law_streams.e1 [5] (.name 5) .plain (.cons (.var 3) .nil) .nil))
      .skip))))
def D_law_streams.fnd : Fn := { names := ["_law_script", "_law_least", "_law_most"], slots := ["_law_script", "_law_least", "_law_most", "_law_cells", "_law_first", "_law_cell", "_law_k"], body := D_law_streams.tree, kept := true, shapes := [(3, [])] }
def D_law_streams : Df := { key := ("", "_law_streams"), kd := .meth, fd := D_law_streams.fnd, name := "_law_streams", qual := "_law_streams", params := defArgs (rowAt 56), body := defBody (rowAt 56), scope := defScope (rowAt 56) }
def D_law_take.tree : S :=
      (.seq (.seti (.var 0) (.con (.int 2)) (.bin false .Add (.ix (.var 0) (.con (.int 2))) (.con (.int 1))))
      (.seq (.set (.name 2) (.bin false .Mod (.bi false .int (.cons (.bin false .Add (.ix (.var 0) (.con (.int 1))) (.bin false .Mult (.con (.int 7368787)) (.ix (.var 0) (.con (.int 2))))) .nil)) (.con (.int 2147483629))))
      (.seq (.set (.name 2) (.bin false .Mod (.bi false .int (.cons (.bin false .Add (.bin false .Add (.bin false .Add (.bin false .Mult (.var 2) (.var 2)) (.bin false .Mult (.con (.int 40507)) (.var 2))) (.con (.int 1013904223))) (.ix (.var 0) (.con (.int 2)))) .nil)) (.con (.int 2147483579))))
      (.seq (.seti (.var 0) (.con (.int 1)) (.var 2))
      (.seq (.ifs (.cmp .Gt (.ix (.var 0) (.con (.int 0))) (.con (.int 0))) (.seq (.set (.name 3) (.bin false .Mod (.bi false .int (.cons (.ix (.var 0) (.con (.int 0))) .nil)) (.var 1)))
      (.seq (.seti (.var 0) (.con (.int 0)) (.bin false .FloorDiv (.ix (.var 0) (.con (.int 0))) (.var 1)))
      (.seq (.ret (.var 3))
      .skip))) .skip)
      (.seq (.ret (.bin false .Mod (.bi false .int (.cons (.bin false .FloorDiv (.var 2) (.con (.int 128))) .nil)) (.var 1)))
      .skip))))))
def D_law_take.fnd : Fn := { names := ["_law_stream", "_law_size"], slots := ["_law_stream", "_law_size", "_law_mixed", "_law_digit"], body := D_law_take.tree, kept := false, shapes := [(2, [])] }
def D_law_take : Df := { key := ("", "_law_take"), kd := .meth, fd := D_law_take.fnd, name := "_law_take", qual := "_law_take", params := defArgs (rowAt 57), body := defBody (rowAt 57), scope := defScope (rowAt 57) }
def D_law_pick.tree : S :=
      (.seq (.ret (.ix (.var 1) (.fn "_law_take" (.cons (.var 0) (.cons (.bi false .len (.cons (.var 1) .nil)) .nil)) [] .nil)))
      .skip)
def D_law_pick.fnd : Fn := { names := ["_law_stream", "_law_row_here"], slots := ["_law_stream", "_law_row_here"], body := D_law_pick.tree, kept := false, shapes := [(2, [])] }
def D_law_pick : Df := { key := ("", "_law_pick"), kd := .meth, fd := D_law_pick.fnd, name := "_law_pick", qual := "_law_pick", params := defArgs (rowAt 58), body := defBody (rowAt 58), scope := defScope (rowAt 58) }
def D_law_error.tree : S :=
      (.seq (.set (.name 1) (.lst false (.cons (.isi (.var 0) true "InvalidName") (.cons (.isi (.var 0) true "InvalidMarks") (.cons (.isi (.var 0) true "InvalidSign") .nil)))))
      (.seq (.set (.name 1) (.bin false .Add (.var 1) (.lst false (.cons (.isi (.var 0) true "InvalidText") (.cons (.isi (.var 0) true "InvalidCount") (.cons (.isi (.var 0) true "InvalidPlace") .nil))))))
      (.seq (.set (.name 1) (.bin false .Add (.var 1) (.lst false (.cons (.isi (.var 0) true "InvalidClaim") (.cons (.isi (.var 0) true "NotAProgram") (.cons (.isi (.var 0) true "NotABook") .nil))))))
      (.seq (.set (.name 1) (.bin false .Add (.var 1) (.lst false (.cons (.isi (.var 0) true "InvalidCases") (.cons (.isi (.var 0) true "InvalidPeople") (.cons (.isi (.var 0) true "InvalidPrograms") .nil))))))
      (.seq (.set (.name 1) (.bin false .Add (.var 1) (.lst false (.cons (.isi (.var 0) true "InvalidAnswers") (.cons (.isi (.var 0) true "InvalidThread") (.cons (.isi (.var 0) true "InvalidTexts") .nil))))))
      (.seq (.set (.name 1) (.bin false .Add (.var 1) (.lst false (.cons (.isi (.var 0) true "InvalidLeft") (.cons (.isi (.var 0) true "InvalidExchanges") (.cons (.isi (.var 0) true "InvalidSigns") .nil))))))
      (.seq (.set (.name 1) (.bin false .Add (.var 1) (.lst false (.cons (.isi (.var 0) true "UnknownPerson") (.cons (.isi (.var 0) true "UnknownProgram") (.cons (.isi (.var 0) true "UnknownAnswer") .nil))))))
      (.seq (.set (.name 1) (.bin false .Add (.var 1) (.lst false (.cons (.isi (.var 0) true "TooManySigns") (.cons (.isi (.var 0) true "NothingToUndo") (.cons (.isi (.var 0) true "Broken") .nil))))))
      (.seq (.set (.name 2) (.lst false (.cons (.con (.str [73, 110, 118, 97, 108, 105, 100, 78, 97, 109, 101])) (.cons (.con (.str [73, 110, 118, 97, 108, 105, 100, 77, 97, 114, 107, 115])) (.cons (.con (.str [73, 110, 118, 97, 108, 105, 100, 83, 105, 103, 110])) (.cons (.con (.str [73, 110, 118, 97, 108, 105, 100, 84, 101, 120, 116])) (.cons (.con (.str [73, 110, 118, 97, 108, 105, 100, 67, 111, 117, 110, 116])) (.cons (.con (.str [73, 110, 118, 97, 108, 105, 100, 80, 108, 97, 99, 101])) .nil))))))))
      (.seq (.set (.name 2) (.bin false .Add (.var 2) (.lst false (.cons (.con (.str [73, 110, 118, 97, 108, 105, 100, 67, 108, 97, 105, 109])) (.cons (.con (.str [78, 111, 116, 65, 80, 114, 111, 103, 114, 97, 109])) (.cons (.con (.str [78, 111, 116, 65, 66, 111, 111, 107])) (.cons (.con (.str [73, 110, 118, 97, 108, 105, 100, 67, 97, 115, 101, 115])) (.cons (.con (.str [73, 110, 118, 97, 108, 105, 100, 80, 101, 111, 112, 108, 101])) .nil))))))))
      (.seq (.set (.name 2) (.bin false .Add (.var 2) (.lst false (.cons (.con (.str [73, 110, 118, 97, 108, 105, 100, 80, 114, 111, 103, 114, 97, 109, 115])) (.cons (.con (.str [73, 110, 118, 97, 108, 105, 100, 65, 110, 115, 119, 101, 114, 115])) (.cons (.con (.str [73, 110, 118, 97, 108, 105, 100, 84, 104, 114, 101, 97, 100])) (.cons (.con (.str [73, 110, 118, 97, 108, 105, 100, 84, 101, 120, 116, 115])) (.cons (.con (.str [73, 110, 118, 97, 108, 105, 100, 76, 101, 102, 116])) .nil))))))))
      (.seq (.set (.name 2) (.bin false .Add (.var 2) (.lst false (.cons (.con (.str [73, 110, 118, 97, 108, 105, 100, 69, 120, 99, 104, 97, 110, 103, 101, 115])) (.cons (.con (.str [73, 110, 118, 97, 108, 105, 100, 83, 105, 103, 110, 115])) (.cons (.con (.str [85, 110, 107, 110, 111, 119, 110, 80, 101, 114, 115, 111, 110])) (.cons (.con (.str [85, 110, 107, 110, 111, 119, 110, 80, 114, 111, 103, 114, 97, 109])) (.cons (.con (.str [85, 110, 107, 110, 111, 119, 110, 65, 110, 115, 119, 101, 114])) .nil))))))))
      (.seq (.set (.name 2) (.bin false .Add (.var 2) (.lst false (.cons (.con (.str [84, 111, 111, 77, 97, 110, 121, 83, 105, 103, 110, 115])) (.cons (.con (.str [78, 111, 116, 104, 105, 110, 103, 84, 111, 85, 110, 100, 111])) (.cons (.con (.str [66, 114, 111, 107, 101, 110])) .nil))))))
      (.seq (.set (.name 3) (.lst false (.cons (.isi (.var 0) true "NotRight") (.cons (.isi (.var 0) true "NotThere") (.cons (.isi (.var 0) true "CannotBe") .nil)))))
      (.seq (.set (.name 4) (.lst false (.cons (.isi (.var 0) false "ValueError") (.cons (.isi (.var 0) false "LookupError") (.cons (.isi (.var 0) false "ArithmeticError") .nil)))))
      (.seq (.ifs (.or (.cmp .NotEq (.mt false .count (.var 1) (.cons (.con (.bl true)) .nil)) (.con (.int 1))) (.cmp .NotEq (.var 3) (.var 4))) (.seq (.ret (.con (.str [])))
      .skip) .skip)
      (.seq (.set (.name 5) (.mt false .index (.var 1) (.cons (.con (.bl true)) .nil)))
      (.seq (.ret (.ite (.cmp .Eq (.var 3) (.lst false (.cons (.cmp .Lt (.var 5) (.con (.int 18))) (.cons (.cmp2 .Lt .Lt (.con (.int 17)) (.var 5) (.con (.int 21))) (.cons (.cmp .Gt (.var 5) (.con (.int 20))) .nil))))) (.ix (.var 2) (.var 5)) (.con (.str []))))
      .skip))))))))))))))))))
def D_law_error.fnd : Fn := { names := ["_law_e"], slots := ["_law_e", "_law_fits", "_law_words", "_law_bases", "_law_plain", "_law_at"], body := D_law_error.tree, kept := false, shapes := [(1, [])] }
def D_law_error : Df := { key := ("", "_law_error"), kd := .meth, fd := D_law_error.fnd, name := "_law_error", qual := "_law_error", params := defArgs (rowAt 59), body := defBody (rowAt 59), scope := defScope (rowAt 59) }
def D_law_field.tree : S :=
      (.seq (.ifs (.cmp .In (.var 1) (.lst false (.cons (.con (.str [84, 111, 111, 77, 97, 110, 121, 83, 105, 103, 110, 115])) (.cons (.con (.str [78, 111, 116, 104, 105, 110, 103, 84, 111, 85, 110, 100, 111])) (.cons (.con (.str [])) .nil))))) (.seq (.ret (.ite (.cmp .Eq (.var 1) (.con (.str [84, 111, 111, 77, 97, 110, 121, 83, 105, 103, 110, 115]))) (.att (.var 0) "many") (.con (.non))))
      .skip) .skip)
      (.seq (.set (.name 2) (.lst false (.cons (.con (.str [73, 110, 118, 97, 108, 105, 100, 67, 97, 115, 101, 115])) (.cons (.con (.str [73, 110, 118, 97, 108, 105, 100, 80, 101, 111, 112, 108, 101])) (.cons (.con (.str [73, 110, 118, 97, 108, 105, 100, 80, 114, 111, 103, 114, 97, 109, 115])) (.cons (.con (.str [73, 110, 118, 97, 108, 105, 100, 65, 110, 115, 119, 101, 114, 115])) (.cons (.con (.str [73, 110, 118, 97, 108, 105, 100, 84, 104, 114, 101, 97, 100])) .nil)))))))
      (.seq (.ifs (.cmp .In (.var 1) (.bin false .Add (.var 2) (.lst false (.cons (.con (.str [73, 110, 118, 97, 108, 105, 100, 84, 101, 120, 116, 115])) (.cons (.con (.str [73, 110, 118, 97, 108, 105, 100, 76, 101, 102, 116])) (.cons (.con (.str [73, 110, 118, 97, 108, 105, 100, 69, 120, 99, 104, 97, 110, 103, 101, 115])) (.cons (.con (.str [73, 110, 118, 97, 108, 105, 100, 83, 105, 103, 110, 115])) (.cons (.con (.str [66, 114, 111, 107, 101, 110])) .nil)))))))) (.seq (.ret (.att (.var 0) "index"))
      .skip) .skip)
      (.seq (.ret (.att (.var 0) "given"))
      .skip))))
def D_law_field.fnd : Fn := { names := ["_law_e", "_law_word"], slots := ["_law_e", "_law_word", "_law_placed"], body := D_law_field.tree, kept := false, shapes := [(2, [])] }
def D_law_field : Df := { key := ("", "_law_field"), kd := .meth, fd := D_law_field.fnd, name := "_law_field", qual := "_law_field", params := defArgs (rowAt 60), body := defBody (rowAt 60), scope := defScope (rowAt 60) }
def D_law_told.tree : S :=
      .skip
def D_law_told.fnd : Fn := { names := ["_law_act"], slots := ["_law_act", "_law_back", "_law_word", "_law_e"], body := D_law_told.tree, kept := false, shapes := [(1, [])] }
def D_law_told : Df := { key := ("", "_law_told"), kd := .meth, fd := D_law_told.fnd, name := "_law_told", qual := "_law_told", params := defArgs (rowAt 61), body := defBody (rowAt 61), scope := defScope (rowAt 61) }
def D_law_odd.tree : S :=
      (.seq (.set (.name 1) (.lst false (.cons (.con (.non)) (.cons (.con (.bl true)) (.cons (.con (.bl false)) (.cons (.con (.int 0)) (.cons (.con (.int 1)) (.cons (.neg (.con (.int 1))) (.cons (.con (.int 7)) (.cons (.bin false .Pow (.con (.int 10)) (.con (.int 39))) (.cons (.con (.str [])) (.cons (.con (.str [97])) (.cons (.con (.str [65])) (.cons (.con (.str [97, 98, 49])) (.cons (.con (.str [49, 97, 98])) (.cons (.con (.str [97, 98, 99, 100, 101, 102, 103, 104, 105])) (.cons (.con (.str [97, 32, 98])) (.cons (.con (.str [97, 95, 98])) .nil))))))))))))))))))
      (.seq (.set (.name 1) (.bin false .Add (.var 1) (.lst false (.cons (.con (.str [97, 110, 110, 10])) (.cons (.con (.str [64])) (.cons (.con (.str [62])) (.cons (.con (.str [42])) (.cons (.con (.str [62, 62])) (.cons (.con (.str [124, 35])) (.cons (.con (.str [62, 62, 62])) (.cons (.con (.str [64, 64, 64])) (.cons (.con (.str [64, 64, 64, 64])) (.cons (.con (.str [62, 124, 120])) (.cons (.con (.str [110, 111, 110, 101])) (.cons (.con (.str [103, 111, 110, 101])) (.cons (.con (.str [62, 32])) .nil))))))))))))))))
      (.seq (.set (.name 1) (.bin false .Add (.var 1) (.lst false (.cons (.tup .nil) (.cons (.tup (.cons (.con (.non)) .nil)) (.cons (.tup (.cons (.con (.str [97])) (.cons (.con (.str [62])) .nil))) (.cons (.tup (.cons (.con (.str [97])) (.cons (.con (.str [112])) (.cons (.con (.str [97])) .nil)))) (.cons (.tup (.cons (.con (.str [])) (.cons (.con (.bl false)) (.cons (.con (.str [62])) .nil)))) (.cons (.tup (.cons (.con (.str [])) (.cons (.con (.bl true)) (.cons (.con (.str [64])) .nil)))) (.cons (.tup (.cons (.con (.str [62])) .nil)) .nil))))))))))
      (.seq (.set (.name 1) (.bin false .Add (.var 1) (.lst false (.cons (.tup (.cons (.con (.str [97])) (.cons (.con (.str [112])) .nil))) (.cons (.lst false .nil) (.cons (.lst false (.cons (.con (.str [97])) (.cons (.con (.str [62])) .nil))) (.cons (.lst false (.cons (.con (.str [])) (.cons (.con (.bl false)) (.cons (.con (.str [62])) .nil)))) (.cons (.lst false (.cons (.con (.int 0)) .nil)) (.cons (.dic .nil .nil) (.cons (.dic (.cons (.con (.str [97])) .nil) (.cons (.con (.str [62])) .nil)) (.cons (.tup (.cons (.lst false .nil) .nil)) (.cons (.tup (.cons (.con (.str [97])) (.cons (.dic .nil .nil) .nil))) .nil))))))))))))
      (.seq (.set (.name 1) (.bin false .Add (.var 1) (.lst false (.cons (.tup (.cons (.dic .nil .nil) (.cons (.con (.str [112])) (.cons (.lst false .nil) .nil)))) (.cons (.tup (.cons (.con (.str [])) (.cons (.lst false .nil) (.cons (.dic .nil .nil) .nil)))) (.cons (.tup (.cons (.tup .nil) .nil)) (.cons (.con (.str [97, 10, 62])) .nil)))))))
      (.seq (.ret (.ix (.var 1) (.fn "_law_take" (.cons (.var 0) (.cons (.bi false .len (.cons (.var 1) .nil)) .nil)) [] .nil)))
      .skip))))))
def D_law_odd.fnd : Fn := { names := ["_law_stream"], slots := ["_law_stream", "_law_some"], body := D_law_odd.tree, kept := false, shapes := [(1, [])] }
def D_law_odd : Df := { key := ("", "_law_odd"), kd := .meth, fd := D_law_odd.fnd, name := "_law_odd", qual := "_law_odd", params := defArgs (rowAt 62), body := defBody (rowAt 62), scope := defScope (rowAt 62) }
def D_law_is_tag.e0 : E :=
      (.cmp .In (.var 2) (.bin false .Add (.var 1) (.con (.str [48, 49, 50, 51, 52, 53, 54, 55, 56, 57]))))
def D_law_is_tag.tree : S :=
      (.seq (.set (.name 1) (.con (.str [97, 98, 99, 100, 101, 102, 103, 104, 105, 106, 107, 108, 109, 110, 111, 112, 113, 114, 115, 116, 117, 118, 119, 120, 121, 122])))
      (.seq (.ifs (.or (.not (.isi (.var 0) false "str")) (.or (.cmp .Eq (.var 0) (.con (.str []))) (.cmp .Gt (.bi false .len (.cons (.var 0) .nil)) (.con (.int 8))))) (.seq (.ret (.con (.bl false)))
      .skip) .skip)
      (.seq (.ret (.and (.cmp .In (.ix (.var 0) (.con (.int 0))) (.var 1)) (.bi false .all (.cons (.lc false D_law_is_tag.e0 [2] (.name 2) .plain (.cons (.var 0) .nil) .nil) .nil))))
      .skip)))
def D_law_is_tag.fnd : Fn := { names := ["_law_x"], slots := ["_law_x", "_law_letters", "_law_y"], body := D_law_is_tag.tree, kept := false, shapes := [(1, [])] }
def D_law_is_tag : Df := { key := ("", "_law_is_tag"), kd := .meth, fd := D_law_is_tag.fnd, name := "_law_is_tag", qual := "_law_is_tag", params := defArgs (rowAt 63), body := defBody (rowAt 63), scope := defScope (rowAt 63) }
def D_law_is_front.e0 : E :=
      (.cmp .In (.var 1) (.con (.str [35, 42, 43, 58, 61, 62, 124])))
def D_law_is_front.tree : S :=
      (.seq (.ret (.and (.isi (.var 0) false "str") (.bi false .all (.cons (.lc false D_law_is_front.e0 [1] (.name 1) .plain (.cons (.var 0) .nil) .nil) .nil))))
      .skip)
def D_law_is_front.fnd : Fn := { names := ["_law_x"], slots := ["_law_x", "_law_y"], body := D_law_is_front.tree, kept := false, shapes := [(1, [])] }
def D_law_is_front : Df := { key := ("", "_law_is_front"), kd := .meth, fd := D_law_is_front.fnd, name := "_law_is_front", qual := "_law_is_front", params := defArgs (rowAt 64), body := defBody (rowAt 64), scope := defScope (rowAt 64) }
def D_law_palette.b0 : S :=
      (.seq (.set (.name 4) (.bin false .Add (.var 4) (.mt false .pop (.var 3) (.cons (.fn "_law_take" (.cons (.var 0) (.cons (.bi false .len (.cons (.var 3) .nil)) .nil)) [] .nil) .nil))))
      .skip)
def D_law_palette.tree : S :=
      (.seq (.set (.names [3, 4]) (.tup (.cons (.bi true .list (.cons (.con (.str [35, 42, 43, 58, 61, 62, 124])) .nil)) (.cons (.con (.str [])) .nil))))
      (.seq (.for_ (.name 2) .range (.cons (.var 1) .nil) D_law_palette.b0)
      (.seq (.ret (.var 4))
      .skip)))
def D_law_palette.fnd : Fn := { names := ["_law_stream", "_law_size"], slots := ["_law_stream", "_law_size", "_law_k", "_law_rest", "_law_found"], body := D_law_palette.tree, kept := false, shapes := [(2, [])] }
def D_law_palette : Df := { key := ("", "_law_palette"), kd := .meth, fd := D_law_palette.fnd, name := "_law_palette", qual := "_law_palette", params := defArgs (rowAt 65), body := defBody (rowAt 65), scope := defScope (rowAt 65) }
def D_law_tag.b0 : S :=
      (.seq (.set (.name 2) (.bin false .Add (.var 2) (.fn "_law_pick" (.cons (.var 0) (.cons (.bin false .Add (.var 1) (.con (.str [48, 49, 50, 51, 52, 53, 54, 55, 56, 57]))) .nil)) [] .nil)))
      .skip)
def D_law_tag.tree : S :=
      (.seq (.ifs (.cmp .Eq (.fn "_law_take" (.cons (.var 0) (.cons (.con (.int 7)) .nil)) [] .nil) (.con (.int 0))) (.seq (.ret (.fn "_law_pick" (.cons (.var 0) (.cons (.lst false (.cons (.con (.str [112, 101, 114, 115, 111, 110])) (.cons (.con (.str [112, 114, 111, 103, 114, 97, 109])) (.cons (.con (.str [97, 110, 115, 119, 101, 114])) (.cons (.con (.str [98, 101, 103, 105, 110])) (.cons (.con (.str [111, 110, 108, 121])) (.cons (.con (.str [101, 108, 115, 101])) (.cons (.con (.str [103, 111, 110, 101])) (.cons (.con (.str [110, 111, 110, 101])) .nil))))))))) .nil)) [] .nil))
      .skip) .skip)
      (.seq (.set (.name 1) (.con (.str [97, 98, 99, 100, 101, 102, 103, 104, 105, 106, 107, 108, 109, 110, 111, 112, 113, 114, 115, 116, 117, 118, 119, 120, 121, 122])))
      (.seq (.set (.name 2) (.fn "_law_pick" (.cons (.var 0) (.cons (.var 1) .nil)) [] .nil))
      (.seq (.for_ (.name 3) .range (.cons (.fn "_law_take" (.cons (.var 0) (.cons (.con (.int 8)) .nil)) [] .nil) .nil) D_law_tag.b0)
      (.seq (.ret (.var 2))
      .skip)))))
def D_law_tag.fnd : Fn := { names := ["_law_stream"], slots := ["_law_stream", "_law_letters", "_law_tag_here", "_law_k"], body := D_law_tag.tree, kept := false, shapes := [(1, [])] }
def D_law_tag : Df := { key := ("", "_law_tag"), kd := .meth, fd := D_law_tag.fnd, name := "_law_tag", qual := "_law_tag", params := defArgs (rowAt 66), body := defBody (rowAt 66), scope := defScope (rowAt 66) }
def D_law_put.b0 : S :=
      (.seq (.set (.name 3) (.bin false .Add (.var 3) (.fn "_law_pick" (.cons (.var 0) (.cons (.bin false .Add (.var 1) (.con (.str [64]))) .nil)) [] .nil)))
      .skip)
def D_law_put.tree : S :=
      (.seq (.set (.name 2) (.fn "_law_take" (.cons (.var 0) (.cons (.con (.int 8)) .nil)) [] .nil))
      (.seq (.ifs (.cmp .Lt (.var 2) (.con (.int 2))) (.seq (.ret (.ite (.cmp .Eq (.var 2) (.con (.int 0))) (.con (.non)) (.con (.str []))))
      .skip) .skip)
      (.seq (.set (.name 3) (.con (.str [])))
      (.seq (.for_ (.name 4) .range (.cons (.bin false .Add (.con (.int 1)) (.fn "_law_take" (.cons (.var 0) (.cons (.con (.int 3)) .nil)) [] .nil)) .nil) D_law_put.b0)
      (.seq (.ret (.var 3))
      .skip)))))
def D_law_put.fnd : Fn := { names := ["_law_stream", "_law_palette_here"], slots := ["_law_stream", "_law_palette_here", "_law_way", "_law_put_here", "_law_k"], body := D_law_put.tree, kept := false, shapes := [(2, [])] }
def D_law_put : Df := { key := ("", "_law_put"), kd := .meth, fd := D_law_put.fnd, name := "_law_put", qual := "_law_put", params := defArgs (rowAt 67), body := defBody (rowAt 67), scope := defScope (rowAt 67) }
def D_law_steps.e0 : E :=
      (.fn "_law_pick" (.cons (.var 0) (.cons (.var 1) .nil)) [] .nil)
def D_law_steps.b0 : S :=
      (.seq (.set (.name 4) (.mt false .join (.con (.str [])) (.cons (.lc false D_law_steps.e0 [6] (.name 6) .range (.cons (.fn "_law_take" (.cons (.var 0) (.cons (.con (.int 3)) .nil)) [] .nil) .nil) .nil) .nil)))
      (.seq (.set (.name 5) (.or (.cmp .Eq (.var 4) (.con (.str []))) (.and (.cmp .Eq (.bi false .len (.cons (.var 4) .nil)) (.con (.int 1))) (.cmp .Eq (.fn "_law_take" (.cons (.var 0) (.cons (.con (.int 2)) .nil)) [] .nil) (.con (.int 0))))))
      (.seq (.ex (.mt false .append (.var 2) (.cons (.tup (.cons (.var 4) (.cons (.var 5) (.cons (.fn "_law_put" (.cons (.var 0) (.cons (.var 1) .nil)) [] .nil) .nil)))) .nil)))
      .skip)))
def D_law_steps.tree : S :=
      (.seq (.set (.name 2) (.lst true .nil))
      (.seq (.for_ (.name 3) .range (.cons (.fn "_law_take" (.cons (.var 0) (.cons (.con (.int 5)) .nil)) [] .nil) .nil) D_law_steps.b0)
      (.seq (.ret (.bin false .Add (.bi false .tuple (.cons (.var 2) .nil)) (.tup (.cons (.tup (.cons (.con (.str [])) (.cons (.con (.bl false)) (.cons (.fn "_law_put" (.cons (.var 0) (.cons (.var 1) .nil)) [] .nil) .nil)))) .nil))))
      .skip)))
def D_law_steps.fnd : Fn := { names := ["_law_stream", "_law_palette_here"], slots := ["_law_stream", "_law_palette_here", "_law_steps_here", "_law_k", "_law_begin", "_law_only", "_law_j"], body := D_law_steps.tree, kept := false, shapes := [(2, [])] }
def D_law_steps : Df := { key := ("", "_law_steps"), kd := .meth, fd := D_law_steps.fnd, name := "_law_steps", qual := "_law_steps", params := defArgs (rowAt 68), body := defBody (rowAt 68), scope := defScope (rowAt 68) }
def D_law_row.tree : S :=
      (.seq (.set (.names [2, 3, 4]) (.var 0))
      (.seq (.set (.name 1) (.ite (.cmp .Is (.var 4) (.con (.non))) (.con (.str [58, 32, 103, 111, 110, 101])) (.ite (.cmp .Eq (.var 4) (.con (.str []))) (.con (.str [58, 32, 110, 111, 110, 101])) (.bin false .Add (.con (.str [58, 32])) (.var 4)))))
      (.seq (.ifs (.var 3) (.seq (.ret (.ite (.cmp .Eq (.var 2) (.con (.str []))) (.bin false .Add (.con (.str [111, 110, 108, 121])) (.var 1)) (.bin false .Add (.bin false .Add (.con (.str [111, 110, 108, 121, 32])) (.var 2)) (.var 1))))
      .skip) .skip)
      (.seq (.ret (.ite (.cmp .Eq (.var 2) (.con (.str []))) (.bin false .Add (.con (.str [101, 108, 115, 101])) (.var 1)) (.bin false .Add (.bin false .Add (.con (.str [98, 101, 103, 105, 110, 32])) (.var 2)) (.var 1))))
      .skip))))
def D_law_row.fnd : Fn := { names := ["_law_step"], slots := ["_law_step", "_law_tail", "_law_begin", "_law_only", "_law_put_here"], body := D_law_row.tree, kept := false, shapes := [(1, [])] }
def D_law_row : Df := { key := ("", "_law_row"), kd := .meth, fd := D_law_row.fnd, name := "_law_row", qual := "_law_row", params := defArgs (rowAt 69), body := defBody (rowAt 69), scope := defScope (rowAt 69) }
def D_law_program_text.e0 : E :=
      (.fn "_law_row" (.cons (.var 2) .nil) [] .nil)
def D_law_program_text.tree : S :=
      (.seq (.ret (.mt false .join (.con (.str [10])) (.cons (.bin false .Add (.lst false (.cons (.bin false .Add (.con (.str [112, 114, 111, 103, 114, 97, 109, 32])) (.var 0)) .nil)) (.lc false D_law_program_text.e0 [2] (.name 2) .plain (.cons (.var 1) .nil) .nil)) .nil)))
      .skip)
def D_law_program_text.fnd : Fn := { names := ["_law_title", "_law_steps_here"], slots := ["_law_title", "_law_steps_here", "_law_step"], body := D_law_program_text.tree, kept := false, shapes := [(2, [])] }
def D_law_program_text : Df := { key := ("", "_law_program_text"), kd := .meth, fd := D_law_program_text.fnd, name := "_law_program_text", qual := "_law_program_text", params := defArgs (rowAt 70), body := defBody (rowAt 70), scope := defScope (rowAt 70) }
def D_law_is_step.e0 : E :=
      (.cmp .In (.var 1) (.con (.str [35, 42, 43, 58, 61, 62, 124, 64])))
def D_law_is_step.tree : S :=
      (.seq (.ifs (.or (.not (.isi (.var 0) false "tuple")) (.or (.cmp .NotEq (.bi false .len (.cons (.var 0) .nil)) (.con (.int 3))) (.or (.not (.fn "_law_is_front" (.cons (.ix (.var 0) (.con (.int 0))) .nil) [] .nil)) (.cmp .Gt (.bi false .len (.cons (.ix (.var 0) (.con (.int 0))) .nil)) (.con (.int 2)))))) (.seq (.ret (.con (.bl false)))
      .skip) .skip)
      (.seq (.ifs (.or (.not (.isi (.ix (.var 0) (.con (.int 1))) false "bool")) (.and (.ix (.var 0) (.con (.int 1))) (.cmp .Eq (.bi false .len (.cons (.ix (.var 0) (.con (.int 0))) .nil)) (.con (.int 2))))) (.seq (.ret (.con (.bl false)))
      .skip) .skip)
      (.seq (.ret (.or (.cmp .Is (.ix (.var 0) (.con (.int 2))) (.con (.non))) (.and (.isi (.ix (.var 0) (.con (.int 2))) false "str") (.and (.cmp .Lt (.bi false .len (.cons (.ix (.var 0) (.con (.int 2))) .nil)) (.con (.int 4))) (.bi false .all (.cons (.lc false D_law_is_step.e0 [1] (.name 1) .plain (.cons (.ix (.var 0) (.con (.int 2))) .nil) .nil) .nil))))))
      .skip)))
def D_law_is_step.fnd : Fn := { names := ["_law_x"], slots := ["_law_x", "_law_y"], body := D_law_is_step.tree, kept := false, shapes := [(1, [])] }
def D_law_is_step : Df := { key := ("", "_law_is_step"), kd := .meth, fd := D_law_is_step.fnd, name := "_law_is_step", qual := "_law_is_step", params := defArgs (rowAt 71), body := defBody (rowAt 71), scope := defScope (rowAt 71) }
def D_law_steps_fault.b0 : S :=
      (.seq (.ifs (.or (.cmp .Gt (.var 1) (.con (.int 4))) (.not (.fn "_law_is_step" (.cons (.ix (.var 0) (.var 1)) .nil) [] .nil))) (.seq (.ret (.lst false (.cons (.var 1) .nil)))
      .skip) .skip)
      (.seq (.ifs (.cmp .NotEq (.and (.cmp .Eq (.ix (.ix (.var 0) (.var 1)) (.con (.int 0))) (.con (.str []))) (.not (.ix (.ix (.var 0) (.var 1)) (.con (.int 1))))) (.cmp .Eq (.var 1) (.bin false .Sub (.bi false .len (.cons (.var 0) .nil)) (.con (.int 1))))) (.seq (.ret (.lst false (.cons (.var 1) .nil)))
      .skip) .skip)
      .skip))
def D_law_steps_fault.tree : S :=
      (.seq (.ifs (.or (.not (.isi (.var 0) false "tuple")) (.cmp .Eq (.bi false .len (.cons (.var 0) .nil)) (.con (.int 0)))) (.seq (.ret (.lst false (.cons (.con (.non)) .nil)))
      .skip) .skip)
      (.seq (.for_ (.name 1) .range (.cons (.bi false .len (.cons (.var 0) .nil)) .nil) D_law_steps_fault.b0)
      (.seq (.ret (.lst false .nil))
      .skip)))
def D_law_steps_fault.fnd : Fn := { names := ["_law_steps_here"], slots := ["_law_steps_here", "_law_k"], body := D_law_steps_fault.tree, kept := false, shapes := [(1, [])] }
def D_law_steps_fault : Df := { key := ("", "_law_steps_fault"), kd := .meth, fd := D_law_steps_fault.fnd, name := "_law_steps_fault", qual := "_law_steps_fault", params := defArgs (rowAt 72), body := defBody (rowAt 72), scope := defScope (rowAt 72) }
def D_law_bent_step.tree : S :=
      (.seq (.set (.names [2, 3]) (.tup (.cons (.fn "_law_take" (.cons (.var 0) (.cons (.con (.int 10)) .nil)) [] .nil) (.cons (.fn "_law_odd" (.cons (.var 0) .nil) [] .nil) .nil))))
      (.seq (.set (.names [4, 5, 6]) (.var 1))
      (.seq (.ifs (.cmp .Lt (.var 2) (.con (.int 3))) (.seq (.ret (.ix (.lst false (.cons (.tup (.cons (.var 3) (.cons (.var 5) (.cons (.var 6) .nil)))) (.cons (.tup (.cons (.var 4) (.cons (.var 3) (.cons (.var 6) .nil)))) (.cons (.tup (.cons (.var 4) (.cons (.var 5) (.cons (.var 3) .nil)))) .nil)))) (.var 2)))
      .skip) .skip)
      (.seq (.ifs (.cmp .Lt (.var 2) (.con (.int 5))) (.seq (.ret (.ite (.cmp .Eq (.var 2) (.con (.int 3))) (.bi false .list (.cons (.var 1) .nil)) (.bin false .Add (.var 1) (.tup (.cons (.var 6) .nil)))))
      .skip) .skip)
      (.seq (.ifs (.cmp .Lt (.var 2) (.con (.int 7))) (.seq (.ret (.ite (.cmp .Eq (.var 2) (.con (.int 5))) (.tup (.cons (.var 4) (.cons (.var 5) .nil))) (.tup (.cons (.var 4) (.cons (.bi false .int (.cons (.var 5) .nil)) (.cons (.var 6) .nil))))))
      .skip) .skip)
      (.seq (.ifs (.cmp .Eq (.var 2) (.con (.int 7))) (.seq (.set (.name 7) (.lst false (.cons (.tup (.cons (.con (.str [])) (.cons (.con (.bl false)) (.cons (.var 6) .nil)))) (.cons (.tup (.cons (.con (.str [62, 62])) (.cons (.con (.bl true)) (.cons (.var 6) .nil)))) (.cons (.tup (.cons (.con (.str [35, 124])) (.cons (.con (.bl true)) (.cons (.var 6) .nil)))) (.cons (.tup (.cons (.con (.str [62, 62, 62])) (.cons (.con (.bl false)) (.cons (.var 6) .nil)))) .nil))))))
      (.seq (.ret (.fn "_law_pick" (.cons (.var 0) (.cons (.var 7) .nil)) [] .nil))
      .skip)) .skip)
      (.seq (.ifs (.cmp .Eq (.var 2) (.con (.int 8))) (.seq (.set (.name 7) (.lst false (.cons (.tup (.cons (.con (.str [])) (.cons (.con (.bl true)) (.cons (.var 6) .nil)))) (.cons (.tup (.cons (.con (.str [62])) (.cons (.con (.bl true)) (.cons (.var 6) .nil)))) (.cons (.tup (.cons (.con (.str [35])) (.cons (.con (.bl false)) (.cons (.var 6) .nil)))) (.cons (.tup (.cons (.con (.str [124, 61])) (.cons (.con (.bl false)) (.cons (.var 6) .nil)))) .nil))))))
      (.seq (.ret (.fn "_law_pick" (.cons (.var 0) (.cons (.var 7) .nil)) [] .nil))
      .skip)) .skip)
      (.seq (.ret (.var 3))
      .skip))))))))
def D_law_bent_step.fnd : Fn := { names := ["_law_stream", "_law_step"], slots := ["_law_stream", "_law_step", "_law_way", "_law_odd_here", "_law_begin", "_law_only", "_law_put_here", "_law_some"], body := D_law_bent_step.tree, kept := false, shapes := [(2, [])] }
def D_law_bent_step : Df := { key := ("", "_law_bent_step"), kd := .meth, fd := D_law_bent_step.fnd, name := "_law_bent_step", qual := "_law_bent_step", params := defArgs (rowAt 73), body := defBody (rowAt 73), scope := defScope (rowAt 73) }
def D_law_some_steps.e0 : E :=
      (.tup (.cons (.var 8) (.cons (.cmp .Eq (.fn "_law_take" (.cons (.var 0) (.cons (.con (.int 2)) .nil)) [] .nil) (.con (.int 0))) (.cons (.con (.str [62, 64])) .nil))))
def D_law_some_steps.b0 : S :=
      (.seq (.set (.name 7) (.fn "_law_take" (.cons (.var 0) (.cons (.bi false .len (.cons (.var 4) .nil)) .nil)) [] .nil))
      (.seq (.seti (.var 4) (.var 7) (.fn "_law_bent_step" (.cons (.var 0) (.cons (.ix (.var 2) (.var 7)) .nil)) [] .nil))
      .skip))
def D_law_some_steps.tree : S :=
      (.seq (.set (.name 1) (.fn "_law_palette" (.cons (.var 0) (.cons (.bin false .Add (.con (.int 1)) (.fn "_law_take" (.cons (.var 0) (.cons (.con (.int 7)) .nil)) [] .nil)) .nil)) [] .nil))
      (.seq (.set (.name 2) (.fn "_law_steps" (.cons (.var 0) (.cons (.var 1) .nil)) [] .nil))
      (.seq (.set (.name 3) (.lc false D_law_some_steps.e0 [8] (.name 8) .plain (.cons (.con (.str [35, 124, 62, 61])) .nil) (.cons (.cmp .Eq (.fn "_law_take" (.cons (.var 0) (.cons (.con (.int 6)) .nil)) [] .nil) (.con (.int 0))) .nil)))
      (.seq (.set (.name 2) (.bin false .Add (.bi false .tuple (.cons (.var 3) .nil)) (.var 2)))
      (.seq (.set (.name 4) (.bi true .list (.cons (.var 2) .nil)))
      (.seq (.for_ (.name 5) .range (.cons (.fn "_law_take" (.cons (.var 0) (.cons (.con (.int 3)) .nil)) [] .nil) .nil) D_law_some_steps.b0)
      (.seq (.set (.name 6) (.fn "_law_take" (.cons (.var 0) (.cons (.con (.int 14)) .nil)) [] .nil))
      (.seq (.ifs (.cmp .Eq (.var 6) (.con (.int 0))) (.seq (.ret (.var 4))
      .skip) .skip)
      (.seq (.ifs (.cmp .Eq (.var 6) (.con (.int 1))) (.seq (.ret (.fn "_law_pick" (.cons (.var 0) (.cons (.lst false (.cons (.tup .nil) (.cons (.con (.non)) (.cons (.fn "_law_odd" (.cons (.var 0) .nil) [] .nil) (.cons (.dic .nil .nil) .nil))))) .nil)) [] .nil))
      .skip) .skip)
      (.seq (.ret (.ite (.cmp .Eq (.var 6) (.con (.int 2))) (.bi false .tuple (.cons (.sl false (.var 4) .nop (.neg (.con (.int 1)))) .nil)) (.bi false .tuple (.cons (.var 4) .nil))))
      .skip))))))))))
def D_law_some_steps.fnd : Fn := { names := ["_law_stream"], slots := ["_law_stream", "_law_palette_here", "_law_steps_here", "_law_fill", "_law_rows", "_law_k", "_law_way", "_law_at", "_law_x"], body := D_law_some_steps.tree, kept := false, shapes := [(1, [])] }
def D_law_some_steps : Df := { key := ("", "_law_some_steps"), kd := .meth, fd := D_law_some_steps.fnd, name := "_law_some_steps", qual := "_law_some_steps", params := defArgs (rowAt 74), body := defBody (rowAt 74), scope := defScope (rowAt 74) }
def D_law_due.tree : S :=
      (.seq (.ifs (.not (.fn "_law_is_tag" (.cons (.var 0) .nil) [] .nil)) (.seq (.ret (.lst false (.cons (.con (.str [73, 110, 118, 97, 108, 105, 100, 78, 97, 109, 101])) (.cons (.bi false .repr (.cons (.var 0) .nil)) .nil))))
      .skip) .skip)
      (.seq (.set (.name 2) (.fn "_law_steps_fault" (.cons (.var 1) .nil) [] .nil))
      (.seq (.ret (.ite (.cmp .NotEq (.var 2) (.lst false .nil)) (.lst false (.cons (.con (.str [73, 110, 118, 97, 108, 105, 100, 67, 97, 115, 101, 115])) (.cons (.bi false .repr (.cons (.ix (.var 2) (.con (.int 0))) .nil)) .nil))) (.lst false (.cons (.con (.str [116, 111, 108, 100])) (.cons (.fn "_law_program_text" (.cons (.var 0) (.cons (.var 1) .nil)) [] .nil) .nil)))))
      .skip)))
def D_law_due.fnd : Fn := { names := ["_law_title", "_law_steps_here"], slots := ["_law_title", "_law_steps_here", "_law_fault"], body := D_law_due.tree, kept := false, shapes := [(2, [])] }
def D_law_due : Df := { key := ("", "_law_due"), kd := .meth, fd := D_law_due.fnd, name := "_law_due", qual := "_law_due", params := defArgs (rowAt 75), body := defBody (rowAt 75), scope := defScope (rowAt 75) }
def D_law_right.tree : S :=
      (.seq (.set (.name 1) (.ite (.cmp .Gt (.fn "_law_take" (.cons (.var 0) (.cons (.con (.int 5)) .nil)) [] .nil) (.con (.int 0))) (.fn "_law_tag" (.cons (.var 0) .nil) [] .nil) (.fn "_law_odd" (.cons (.var 0) .nil) [] .nil)))
      (.seq (.set (.name 2) (.fn "_law_some_steps" (.cons (.var 0) .nil) [] .nil))
      (.seq (.set (.name 3) (.told (.new "Program" (.cons (.var 1) (.cons (.var 2) .nil)) [] .nil)))
      (.seq (.ifs (.cmp .Eq (.ix (.var 3) (.con (.int 0))) (.con (.str [116, 111, 108, 100]))) (.seq (.set (.name 3) (.lst false (.cons (.con (.str [116, 111, 108, 100])) (.cons (.bi false .str (.cons (.ix (.var 3) (.con (.int 1))) .nil)) .nil))))
      .skip) .skip)
      (.seq (.ret (.cmp .Eq (.var 3) (.fn "_law_due" (.cons (.var 1) (.cons (.var 2) .nil)) [] .nil)))
      .skip)))))
def D_law_right.fnd : Fn := { names := ["_law_stream"], slots := ["_law_stream", "_law_title", "_law_steps_here", "_law_told_here"], body := D_law_right.tree, kept := false, shapes := [(1, [])] }
def D_law_right : Df := { key := ("", "_law_right"), kd := .meth, fd := D_law_right.fnd, name := "_law_right", qual := "_law_right", params := defArgs (rowAt 76), body := defBody (rowAt 76), scope := defScope (rowAt 76), lm := true }
def Dlaw.b0 : S :=
      (.seq (.ifs (.cmp .NotEq (.told (.new "Program" (.cons (.con (.str [112])) (.cons (.ix (.var 3) (.con (.int 0))) .nil)) [] .nil)) (.lst false (.cons (.con (.str [73, 110, 118, 97, 108, 105, 100, 67, 97, 115, 101, 115])) (.cons (.bi false .repr (.cons (.ix (.var 3) (.con (.int 1))) .nil)) .nil)))) (.seq (.ret (.con (.bl false)))
      .skip) .skip)
      .skip)
def Dlaw.e0 : E :=
      (.fn "_law_right" (.cons (.var 4) .nil) [] .nil)
def Dlaw.tree : S :=
      (.seq (.set (.name 1) (.tup (.cons (.con (.str [])) (.cons (.con (.bl false)) (.cons (.con (.str [62])) .nil)))))
      (.seq (.set (.name 2) (.lst true (.cons (.lst false (.cons (.tup (.cons (.var 1) (.cons (.var 1) .nil))) (.cons (.con (.int 0)) .nil))) (.cons (.lst false (.cons (.tup (.cons (.tup (.cons (.con (.str [62])) (.cons (.con (.int 1)) (.cons (.con (.str [])) .nil)))) (.cons (.var 1) .nil))) (.cons (.con (.int 0)) .nil))) (.cons (.lst false (.cons (.tup (.cons (.tup (.cons (.con (.str [])) (.cons (.con (.bl true)) (.cons (.con (.str [])) .nil)))) .nil)) (.cons (.con (.int 0)) .nil))) (.cons (.lst false (.cons (.lst false (.cons (.var 1) .nil)) (.cons (.con (.non)) .nil))) (.cons (.lst false (.cons (.tup .nil) (.cons (.con (.non)) .nil))) .nil)))))))
      (.seq (.set (.name 2) (.bin true .Add (.var 2) (.lst false (.cons (.lst false (.cons (.bin false .Add (.bin false .Mult (.tup (.cons (.tup (.cons (.con (.str [62])) (.cons (.con (.bl false)) (.cons (.con (.str [])) .nil)))) .nil)) (.con (.int 5))) (.tup (.cons (.var 1) .nil))) (.cons (.con (.int 5)) .nil))) (.cons (.lst false (.cons (.tup (.cons (.tup (.cons (.con (.str [35])) (.cons (.con (.bl false)) (.cons (.con (.str [62, 62, 62, 62])) .nil)))) (.cons (.var 1) .nil))) (.cons (.con (.int 0)) .nil))) (.cons (.lst false (.cons (.tup (.cons (.var 1) (.cons (.con (.non)) .nil))) (.cons (.con (.int 0)) .nil))) .nil))))))
      (.seq (.set (.name 2) (.bin true .Add (.var 2) (.lst false (.cons (.lst false (.cons (.tup (.cons (.tup (.cons (.con (.str [35])) (.cons (.con (.bl true)) (.cons (.con (.str [64])) .nil)))) (.cons (.tup (.cons (.tup (.cons (.con (.str [])) .nil)) (.cons (.con (.bl false)) (.cons (.con (.str [62])) .nil)))) .nil))) (.cons (.con (.int 1)) .nil))) (.cons (.lst false (.cons (.tup (.cons (.tup (.cons (.con (.str [35, 35])) (.cons (.con (.bl true)) (.cons (.con (.str [64])) .nil)))) (.cons (.var 1) .nil))) (.cons (.con (.int 0)) .nil))) .nil)))))
      (.seq (.ex (.mt false .append (.var 2) (.cons (.lst false (.cons (.bin false .Mult (.tup (.cons (.var 1) .nil)) (.con (.int 6))) (.cons (.con (.int 0)) .nil))) .nil)))
      (.seq (.for_ (.name 3) .plain (.cons (.var 2) .nil) Dlaw.b0)
      (.seq (.ret (.bi false .all (.cons (.lc false Dlaw.e0 [4] (.name 4) .plain (.cons (.bin false .Mult (.fn "_law_streams" (.cons (.var 0) (.cons (.con (.int 2)) (.cons (.con (.int 4)) .nil))) [] .nil) (.con (.int 6))) .nil) .nil) .nil)))
      .skip)))))))
def Dlaw.fnd : Fn := { names := ["_law_script"], slots := ["_law_script", "_law_last", "_law_rows", "_law_row_here", "_law_stream"], body := Dlaw.tree, kept := false, shapes := [(1, [])] }
def Dlaw : Df := { key := ("", "law"), kd := .meth, fd := Dlaw.fnd, name := "law", qual := "law", params := defArgs (rowAt 77), body := defBody (rowAt 77), scope := defScope (rowAt 77), lm := true }
def DInvalidName_u_init_u.tree : S :=
      .skip
def DInvalidName_u_init_u.fnd : Fn := { names := ["self", "given"], slots := ["self", "given"], body := DInvalidName_u_init_u.tree, kept := false, shapes := [(2, [])] }
def DInvalidName_u_init_u : Df := { key := ("InvalidName", "__init__"), kd := .meth, fd := DInvalidName_u_init_u.fnd, name := "__init__", qual := "InvalidName.__init__", params := defArgs (memAt 3 0), body := defBody (memAt 3 0), scope := defScope (memAt 3 0) }
def DInvalidCases_u_init_u.tree : S :=
      .skip
def DInvalidCases_u_init_u.fnd : Fn := { names := ["self", "index"], slots := ["self", "index"], body := DInvalidCases_u_init_u.tree, kept := false, shapes := [(2, [])] }
def DInvalidCases_u_init_u : Df := { key := ("InvalidCases", "__init__"), kd := .meth, fd := DInvalidCases_u_init_u.fnd, name := "__init__", qual := "InvalidCases.__init__", params := defArgs (memAt 12 0), body := defBody (memAt 12 0), scope := defScope (memAt 12 0) }
def XCInvalidName : Xc := { ex := { fld := ["given"], asks := [((true, "InvalidName"), true), ((true, "InvalidMarks"), false), ((true, "InvalidSign"), false), ((true, "NotRight"), true), ((true, "NotThere"), false), ((true, "CannotBe"), false), ((false, "ValueError"), true), ((false, "LookupError"), false), ((false, "ArithmeticError"), false), ((true, "InvalidText"), false), ((true, "InvalidCount"), false), ((true, "InvalidPlace"), false), ((true, "InvalidClaim"), false), ((true, "NotAProgram"), false), ((true, "NotABook"), false), ((true, "InvalidCases"), false), ((true, "InvalidPeople"), false), ((true, "InvalidPrograms"), false), ((true, "InvalidAnswers"), false), ((true, "InvalidThread"), false), ((true, "InvalidTexts"), false), ((true, "InvalidLeft"), false), ((true, "InvalidExchanges"), false), ((true, "InvalidSigns"), false), ((true, "UnknownPerson"), false), ((true, "UnknownProgram"), false), ((true, "UnknownAnswer"), false), ((true, "TooManySigns"), false), ((true, "NothingToUndo"), false), ((true, "Broken"), false)], word := [73, 110, 118, 97, 108, 105, 100, 78, 97, 109, 101], told := some "given" }, ini := some DInvalidName_u_init_u }
def XCInvalidCases : Xc := { ex := { fld := ["index"], asks := [((true, "InvalidName"), false), ((true, "InvalidMarks"), false), ((true, "InvalidSign"), false), ((true, "NotRight"), true), ((true, "NotThere"), false), ((true, "CannotBe"), false), ((false, "ValueError"), true), ((false, "LookupError"), false), ((false, "ArithmeticError"), false), ((true, "InvalidText"), false), ((true, "InvalidCount"), false), ((true, "InvalidPlace"), false), ((true, "InvalidClaim"), false), ((true, "NotAProgram"), false), ((true, "NotABook"), false), ((true, "InvalidCases"), true), ((true, "InvalidPeople"), false), ((true, "InvalidPrograms"), false), ((true, "InvalidAnswers"), false), ((true, "InvalidThread"), false), ((true, "InvalidTexts"), false), ((true, "InvalidLeft"), false), ((true, "InvalidExchanges"), false), ((true, "InvalidSigns"), false), ((true, "UnknownPerson"), false), ((true, "UnknownProgram"), false), ((true, "UnknownAnswer"), false), ((true, "TooManySigns"), false), ((true, "NothingToUndo"), false), ((true, "Broken"), false)], word := [73, 110, 118, 97, 108, 105, 100, 67, 97, 115, 101, 115], told := some "index" }, ini := some DInvalidCases_u_init_u }
def txt : Txt := { defs := [D_wall, Dis_marks, Dis_name, DProgram_u_init_u, DProgram_read, DProgram_name, DProgram_cases, DProgram_treat, DProgram_taken, DProgram_u_eq_u, DProgram_u_str_u, DProgram_u_repr_u, D_first_wrong, D_is_case, D_is_begin, D_is_put, D_is_else, D_taken, D_fits, D_row_of, D_word_of, D_case_of, D_put_of, D_law_streams, D_law_take, D_law_pick, D_law_odd, D_law_is_tag, D_law_is_front, D_law_palette, D_law_tag, D_law_put, D_law_steps, D_law_row, D_law_program_text, D_law_is_step, D_law_steps_fault, D_law_bent_step, D_law_some_steps, D_law_due, D_law_right, Dlaw], cls := [("Program", { own := [("__init__", .meth), ("read", .cls), ("name", .prop), ("cases", .prop), ("treat", .meth), ("taken", .meth), ("__eq__", .meth), ("__str__", .meth), ("__repr__", .meth)], flds := ["_name", "_cases"], kept := false })], cons := [("SIGNS", .str [35, 42, 43, 58, 61, 62, 124]), ("MOST_CASES", .int 5), ("_LETTERS", .str [97, 98, 99, 100, 101, 102, 103, 104, 105, 106, 107, 108, 109, 110, 111, 112, 113, 114, 115, 116, 117, 118, 119, 120, 121, 122]), ("_LETTERS_AND_DIGITS", .str [97, 98, 99, 100, 101, 102, 103, 104, 105, 106, 107, 108, 109, 110, 111, 112, 113, 114, 115, 116, 117, 118, 119, 120, 121, 122, 48, 49, 50, 51, 52, 53, 54, 55, 56, 57]), ("_LONGEST_NAME", .int 8), ("_LONGEST_BEGIN", .int 2), ("_LONGEST_ONLY_BEGIN", .int 1), ("_LONGEST_PUT", .int 3), ("_GONE", .str [103, 111, 110, 101]), ("_NOTHING", .str [110, 111, 110, 101])], exc := [("InvalidName", XCInvalidName), ("InvalidCases", XCInvalidCases)], told := some (D_law_told, D_law_error, D_law_field) }
theorem D_wall.fr : frameB D_wall = true := by decide +kernel
theorem D_wall.ok : mSs txt.tab D_wall.fd.body D_wall.sc D_wall.body = true := by decide +kernel
theorem D_wall.shp (kV doc pm : Value) (an : Option Addr) (cdv ct : Value) : Shapes D_wall.fd (PySem.W.fnOf D_wall.name D_wall.qual D_wall.params D_wall.body D_wall.scope .none kV doc pm an cdv ct) := by
  intro n ks h s us ws full h1 h2 hb
  simp only [show D_wall.fd.shapes = [(1, [])] from rfl, List.mem_cons, List.not_mem_nil, or_false, Prod.mk.injEq] at h
  obtain ⟨rfl, rfl⟩ := h
  exact match us, ws, h1, h2, hb with
    | [u0], [], _, _, hb => by
      have hb : some [u0] = some full := hb
      cases hb
      exact .of_eq rfl
theorem Dis_marks.fr : frameB Dis_marks = true := by decide +kernel
theorem Dis_marks.ok : mSs txt.tab Dis_marks.fd.body Dis_marks.sc Dis_marks.body = true := by decide +kernel
theorem Dis_marks.shp (kV doc pm : Value) (an : Option Addr) (cdv ct : Value) : Shapes Dis_marks.fd (PySem.W.fnOf Dis_marks.name Dis_marks.qual Dis_marks.params Dis_marks.body Dis_marks.scope .none kV doc pm an cdv ct) := by
  intro n ks h s us ws full h1 h2 hb
  simp only [show Dis_marks.fd.shapes = [(1, [])] from rfl, List.mem_cons, List.not_mem_nil, or_false, Prod.mk.injEq] at h
  obtain ⟨rfl, rfl⟩ := h
  exact match us, ws, h1, h2, hb with
    | [u0], [], _, _, hb => by
      have hb : some [u0] = some full := hb
      cases hb
      exact .of_eq rfl
theorem Dis_name.fr : frameB Dis_name = true := by decide +kernel
theorem Dis_name.ok : mSs txt.tab Dis_name.fd.body Dis_name.sc Dis_name.body = true := by decide +kernel
theorem Dis_name.shp (kV doc pm : Value) (an : Option Addr) (cdv ct : Value) : Shapes Dis_name.fd (PySem.W.fnOf Dis_name.name Dis_name.qual Dis_name.params Dis_name.body Dis_name.scope .none kV doc pm an cdv ct) := by
  intro n ks h s us ws full h1 h2 hb
  simp only [show Dis_name.fd.shapes = [(1, [])] from rfl, List.mem_cons, List.not_mem_nil, or_false, Prod.mk.injEq] at h
  obtain ⟨rfl, rfl⟩ := h
  exact match us, ws, h1, h2, hb with
    | [u0], [], _, _, hb => by
      have hb : some [u0] = some full := hb
      cases hb
      exact .of_eq rfl
theorem DProgram_u_init_u.fr : frameB DProgram_u_init_u = true := by decide +kernel
theorem DProgram_u_init_u.ok : mSs txt.tab DProgram_u_init_u.fd.body DProgram_u_init_u.sc DProgram_u_init_u.body = true := by decide +kernel
theorem DProgram_u_init_u.shp (kV doc pm : Value) (an : Option Addr) (cdv ct : Value) : Shapes DProgram_u_init_u.fd (PySem.W.fnOf DProgram_u_init_u.name DProgram_u_init_u.qual DProgram_u_init_u.params DProgram_u_init_u.body DProgram_u_init_u.scope .none kV doc pm an cdv ct) := by
  intro n ks h s us ws full h1 h2 hb
  simp only [show DProgram_u_init_u.fd.shapes = [(3, [])] from rfl, List.mem_cons, List.not_mem_nil, or_false, Prod.mk.injEq] at h
  obtain ⟨rfl, rfl⟩ := h
  exact match us, ws, h1, h2, hb with
    | [u0, u1, u2], [], _, _, hb => by
      have hb : some [u0, u1, u2] = some full := hb
      cases hb
      exact .of_eq rfl
theorem DProgram_read.fr : frameB DProgram_read = true := by decide +kernel
theorem DProgram_read.ok : mSs txt.tab DProgram_read.fd.body DProgram_read.sc DProgram_read.body = true := by decide +kernel
theorem DProgram_read.shp (kV doc pm : Value) (an : Option Addr) (cdv ct : Value) : Shapes DProgram_read.fd (PySem.W.fnOf DProgram_read.name DProgram_read.qual DProgram_read.params DProgram_read.body DProgram_read.scope .none kV doc pm an cdv ct) := by
  intro n ks h
  exact absurd h (List.not_mem_nil)
theorem DProgram_name.fr : frameB DProgram_name = true := by decide +kernel
theorem DProgram_name.ok : mSs txt.tab DProgram_name.fd.body DProgram_name.sc DProgram_name.body = true := by decide +kernel
theorem DProgram_name.shp (kV doc pm : Value) (an : Option Addr) (cdv ct : Value) : Shapes DProgram_name.fd (PySem.W.fnOf DProgram_name.name DProgram_name.qual DProgram_name.params DProgram_name.body DProgram_name.scope .none kV doc pm an cdv ct) := by
  intro n ks h s us ws full h1 h2 hb
  simp only [show DProgram_name.fd.shapes = [(1, [])] from rfl, List.mem_cons, List.not_mem_nil, or_false, Prod.mk.injEq] at h
  obtain ⟨rfl, rfl⟩ := h
  exact match us, ws, h1, h2, hb with
    | [u0], [], _, _, hb => by
      have hb : some [u0] = some full := hb
      cases hb
      exact .of_eq rfl
theorem DProgram_cases.fr : frameB DProgram_cases = true := by decide +kernel
theorem DProgram_cases.ok : mSs txt.tab DProgram_cases.fd.body DProgram_cases.sc DProgram_cases.body = true := by decide +kernel
theorem DProgram_cases.shp (kV doc pm : Value) (an : Option Addr) (cdv ct : Value) : Shapes DProgram_cases.fd (PySem.W.fnOf DProgram_cases.name DProgram_cases.qual DProgram_cases.params DProgram_cases.body DProgram_cases.scope .none kV doc pm an cdv ct) := by
  intro n ks h s us ws full h1 h2 hb
  simp only [show DProgram_cases.fd.shapes = [(1, [])] from rfl, List.mem_cons, List.not_mem_nil, or_false, Prod.mk.injEq] at h
  obtain ⟨rfl, rfl⟩ := h
  exact match us, ws, h1, h2, hb with
    | [u0], [], _, _, hb => by
      have hb : some [u0] = some full := hb
      cases hb
      exact .of_eq rfl
theorem DProgram_treat.fr : frameB DProgram_treat = true := by decide +kernel
theorem DProgram_treat.ok : mSs txt.tab DProgram_treat.fd.body DProgram_treat.sc DProgram_treat.body = true := by decide +kernel
theorem DProgram_treat.shp (kV doc pm : Value) (an : Option Addr) (cdv ct : Value) : Shapes DProgram_treat.fd (PySem.W.fnOf DProgram_treat.name DProgram_treat.qual DProgram_treat.params DProgram_treat.body DProgram_treat.scope .none kV doc pm an cdv ct) := by
  intro n ks h
  exact absurd h (List.not_mem_nil)
theorem DProgram_taken.fr : frameB DProgram_taken = true := by decide +kernel
theorem DProgram_taken.ok : mSs txt.tab DProgram_taken.fd.body DProgram_taken.sc DProgram_taken.body = true := by decide +kernel
theorem DProgram_taken.shp (kV doc pm : Value) (an : Option Addr) (cdv ct : Value) : Shapes DProgram_taken.fd (PySem.W.fnOf DProgram_taken.name DProgram_taken.qual DProgram_taken.params DProgram_taken.body DProgram_taken.scope .none kV doc pm an cdv ct) := by
  intro n ks h
  exact absurd h (List.not_mem_nil)
theorem DProgram_u_eq_u.fr : frameB DProgram_u_eq_u = true := by decide +kernel
theorem DProgram_u_eq_u.ok : mSs txt.tab DProgram_u_eq_u.fd.body DProgram_u_eq_u.sc DProgram_u_eq_u.body = true := by decide +kernel
theorem DProgram_u_eq_u.shp (kV doc pm : Value) (an : Option Addr) (cdv ct : Value) : Shapes DProgram_u_eq_u.fd (PySem.W.fnOf DProgram_u_eq_u.name DProgram_u_eq_u.qual DProgram_u_eq_u.params DProgram_u_eq_u.body DProgram_u_eq_u.scope .none kV doc pm an cdv ct) := by
  intro n ks h s us ws full h1 h2 hb
  simp only [show DProgram_u_eq_u.fd.shapes = [(2, [])] from rfl, List.mem_cons, List.not_mem_nil, or_false, Prod.mk.injEq] at h
  obtain ⟨rfl, rfl⟩ := h
  exact match us, ws, h1, h2, hb with
    | [u0, u1], [], _, _, hb => by
      have hb : some [u0, u1] = some full := hb
      cases hb
      exact .of_eq rfl
theorem DProgram_u_str_u.fr : frameB DProgram_u_str_u = true := by decide +kernel
theorem DProgram_u_str_u.ok : mSs txt.tab DProgram_u_str_u.fd.body DProgram_u_str_u.sc DProgram_u_str_u.body = true := by decide +kernel
theorem DProgram_u_str_u.shp (kV doc pm : Value) (an : Option Addr) (cdv ct : Value) : Shapes DProgram_u_str_u.fd (PySem.W.fnOf DProgram_u_str_u.name DProgram_u_str_u.qual DProgram_u_str_u.params DProgram_u_str_u.body DProgram_u_str_u.scope .none kV doc pm an cdv ct) := by
  intro n ks h s us ws full h1 h2 hb
  simp only [show DProgram_u_str_u.fd.shapes = [(1, [])] from rfl, List.mem_cons, List.not_mem_nil, or_false, Prod.mk.injEq] at h
  obtain ⟨rfl, rfl⟩ := h
  exact match us, ws, h1, h2, hb with
    | [u0], [], _, _, hb => by
      have hb : some [u0] = some full := hb
      cases hb
      exact .of_eq rfl
theorem DProgram_u_repr_u.fr : frameB DProgram_u_repr_u = true := by decide +kernel
theorem DProgram_u_repr_u.ok : mSs txt.tab DProgram_u_repr_u.fd.body DProgram_u_repr_u.sc DProgram_u_repr_u.body = true := by decide +kernel
theorem DProgram_u_repr_u.shp (kV doc pm : Value) (an : Option Addr) (cdv ct : Value) : Shapes DProgram_u_repr_u.fd (PySem.W.fnOf DProgram_u_repr_u.name DProgram_u_repr_u.qual DProgram_u_repr_u.params DProgram_u_repr_u.body DProgram_u_repr_u.scope .none kV doc pm an cdv ct) := by
  intro n ks h s us ws full h1 h2 hb
  simp only [show DProgram_u_repr_u.fd.shapes = [(1, [])] from rfl, List.mem_cons, List.not_mem_nil, or_false, Prod.mk.injEq] at h
  obtain ⟨rfl, rfl⟩ := h
  exact match us, ws, h1, h2, hb with
    | [u0], [], _, _, hb => by
      have hb : some [u0] = some full := hb
      cases hb
      exact .of_eq rfl
theorem D_first_wrong.fr : frameB D_first_wrong = true := by decide +kernel
theorem D_first_wrong.ok : mSs txt.tab D_first_wrong.fd.body D_first_wrong.sc D_first_wrong.body = true := by decide +kernel
theorem D_first_wrong.shp (kV doc pm : Value) (an : Option Addr) (cdv ct : Value) : Shapes D_first_wrong.fd (PySem.W.fnOf D_first_wrong.name D_first_wrong.qual D_first_wrong.params D_first_wrong.body D_first_wrong.scope .none kV doc pm an cdv ct) := by
  intro n ks h s us ws full h1 h2 hb
  simp only [show D_first_wrong.fd.shapes = [(1, [])] from rfl, List.mem_cons, List.not_mem_nil, or_false, Prod.mk.injEq] at h
  obtain ⟨rfl, rfl⟩ := h
  exact match us, ws, h1, h2, hb with
    | [u0], [], _, _, hb => by
      have hb : some [u0] = some full := hb
      cases hb
      exact .of_eq rfl
theorem D_is_case.fr : frameB D_is_case = true := by decide +kernel
theorem D_is_case.ok : mSs txt.tab D_is_case.fd.body D_is_case.sc D_is_case.body = true := by decide +kernel
theorem D_is_case.shp (kV doc pm : Value) (an : Option Addr) (cdv ct : Value) : Shapes D_is_case.fd (PySem.W.fnOf D_is_case.name D_is_case.qual D_is_case.params D_is_case.body D_is_case.scope .none kV doc pm an cdv ct) := by
  intro n ks h s us ws full h1 h2 hb
  simp only [show D_is_case.fd.shapes = [(1, [])] from rfl, List.mem_cons, List.not_mem_nil, or_false, Prod.mk.injEq] at h
  obtain ⟨rfl, rfl⟩ := h
  exact match us, ws, h1, h2, hb with
    | [u0], [], _, _, hb => by
      have hb : some [u0] = some full := hb
      cases hb
      exact .of_eq rfl
theorem D_is_begin.fr : frameB D_is_begin = true := by decide +kernel
theorem D_is_begin.ok : mSs txt.tab D_is_begin.fd.body D_is_begin.sc D_is_begin.body = true := by decide +kernel
theorem D_is_begin.shp (kV doc pm : Value) (an : Option Addr) (cdv ct : Value) : Shapes D_is_begin.fd (PySem.W.fnOf D_is_begin.name D_is_begin.qual D_is_begin.params D_is_begin.body D_is_begin.scope .none kV doc pm an cdv ct) := by
  intro n ks h s us ws full h1 h2 hb
  simp only [show D_is_begin.fd.shapes = [(2, [])] from rfl, List.mem_cons, List.not_mem_nil, or_false, Prod.mk.injEq] at h
  obtain ⟨rfl, rfl⟩ := h
  exact match us, ws, h1, h2, hb with
    | [u0, u1], [], _, _, hb => by
      have hb : some [u0, u1] = some full := hb
      cases hb
      exact .of_eq rfl
theorem D_is_put.fr : frameB D_is_put = true := by decide +kernel
theorem D_is_put.ok : mSs txt.tab D_is_put.fd.body D_is_put.sc D_is_put.body = true := by decide +kernel
theorem D_is_put.shp (kV doc pm : Value) (an : Option Addr) (cdv ct : Value) : Shapes D_is_put.fd (PySem.W.fnOf D_is_put.name D_is_put.qual D_is_put.params D_is_put.body D_is_put.scope .none kV doc pm an cdv ct) := by
  intro n ks h s us ws full h1 h2 hb
  simp only [show D_is_put.fd.shapes = [(1, [])] from rfl, List.mem_cons, List.not_mem_nil, or_false, Prod.mk.injEq] at h
  obtain ⟨rfl, rfl⟩ := h
  exact match us, ws, h1, h2, hb with
    | [u0], [], _, _, hb => by
      have hb : some [u0] = some full := hb
      cases hb
      exact .of_eq rfl
theorem D_is_else.fr : frameB D_is_else = true := by decide +kernel
theorem D_is_else.ok : mSs txt.tab D_is_else.fd.body D_is_else.sc D_is_else.body = true := by decide +kernel
theorem D_is_else.shp (kV doc pm : Value) (an : Option Addr) (cdv ct : Value) : Shapes D_is_else.fd (PySem.W.fnOf D_is_else.name D_is_else.qual D_is_else.params D_is_else.body D_is_else.scope .none kV doc pm an cdv ct) := by
  intro n ks h s us ws full h1 h2 hb
  simp only [show D_is_else.fd.shapes = [(1, [])] from rfl, List.mem_cons, List.not_mem_nil, or_false, Prod.mk.injEq] at h
  obtain ⟨rfl, rfl⟩ := h
  exact match us, ws, h1, h2, hb with
    | [u0], [], _, _, hb => by
      have hb : some [u0] = some full := hb
      cases hb
      exact .of_eq rfl
theorem D_taken.fr : frameB D_taken = true := by decide +kernel
theorem D_taken.ok : mSs txt.tab D_taken.fd.body D_taken.sc D_taken.body = true := by decide +kernel
theorem D_taken.shp (kV doc pm : Value) (an : Option Addr) (cdv ct : Value) : Shapes D_taken.fd (PySem.W.fnOf D_taken.name D_taken.qual D_taken.params D_taken.body D_taken.scope .none kV doc pm an cdv ct) := by
  intro n ks h s us ws full h1 h2 hb
  simp only [show D_taken.fd.shapes = [(2, [])] from rfl, List.mem_cons, List.not_mem_nil, or_false, Prod.mk.injEq] at h
  obtain ⟨rfl, rfl⟩ := h
  exact match us, ws, h1, h2, hb with
    | [u0, u1], [], _, _, hb => by
      have hb : some [u0, u1] = some full := hb
      cases hb
      exact .of_eq rfl
theorem D_fits.fr : frameB D_fits = true := by decide +kernel
theorem D_fits.ok : mSs txt.tab D_fits.fd.body D_fits.sc D_fits.body = true := by decide +kernel
theorem D_fits.shp (kV doc pm : Value) (an : Option Addr) (cdv ct : Value) : Shapes D_fits.fd (PySem.W.fnOf D_fits.name D_fits.qual D_fits.params D_fits.body D_fits.scope .none kV doc pm an cdv ct) := by
  intro n ks h
  exact absurd h (List.not_mem_nil)
theorem D_row_of.fr : frameB D_row_of = true := by decide +kernel
theorem D_row_of.ok : mSs txt.tab D_row_of.fd.body D_row_of.sc D_row_of.body = true := by decide +kernel
theorem D_row_of.shp (kV doc pm : Value) (an : Option Addr) (cdv ct : Value) : Shapes D_row_of.fd (PySem.W.fnOf D_row_of.name D_row_of.qual D_row_of.params D_row_of.body D_row_of.scope .none kV doc pm an cdv ct) := by
  intro n ks h s us ws full h1 h2 hb
  simp only [show D_row_of.fd.shapes = [(1, [])] from rfl, List.mem_cons, List.not_mem_nil, or_false, Prod.mk.injEq] at h
  obtain ⟨rfl, rfl⟩ := h
  exact match us, ws, h1, h2, hb with
    | [u0], [], _, _, hb => by
      have hb : some [u0] = some full := hb
      cases hb
      exact .of_eq rfl
theorem D_word_of.fr : frameB D_word_of = true := by decide +kernel
theorem D_word_of.ok : mSs txt.tab D_word_of.fd.body D_word_of.sc D_word_of.body = true := by decide +kernel
theorem D_word_of.shp (kV doc pm : Value) (an : Option Addr) (cdv ct : Value) : Shapes D_word_of.fd (PySem.W.fnOf D_word_of.name D_word_of.qual D_word_of.params D_word_of.body D_word_of.scope .none kV doc pm an cdv ct) := by
  intro n ks h s us ws full h1 h2 hb
  simp only [show D_word_of.fd.shapes = [(1, [])] from rfl, List.mem_cons, List.not_mem_nil, or_false, Prod.mk.injEq] at h
  obtain ⟨rfl, rfl⟩ := h
  exact match us, ws, h1, h2, hb with
    | [u0], [], _, _, hb => by
      have hb : some [u0] = some full := hb
      cases hb
      exact .of_eq rfl
theorem D_case_of.fr : frameB D_case_of = true := by decide +kernel
theorem D_case_of.ok : mSs txt.tab D_case_of.fd.body D_case_of.sc D_case_of.body = true := by decide +kernel
theorem D_case_of.shp (kV doc pm : Value) (an : Option Addr) (cdv ct : Value) : Shapes D_case_of.fd (PySem.W.fnOf D_case_of.name D_case_of.qual D_case_of.params D_case_of.body D_case_of.scope .none kV doc pm an cdv ct) := by
  intro n ks h s us ws full h1 h2 hb
  simp only [show D_case_of.fd.shapes = [(1, [])] from rfl, List.mem_cons, List.not_mem_nil, or_false, Prod.mk.injEq] at h
  obtain ⟨rfl, rfl⟩ := h
  exact match us, ws, h1, h2, hb with
    | [u0], [], _, _, hb => by
      have hb : some [u0] = some full := hb
      cases hb
      exact .of_eq rfl
theorem D_put_of.fr : frameB D_put_of = true := by decide +kernel
theorem D_put_of.ok : mSs txt.tab D_put_of.fd.body D_put_of.sc D_put_of.body = true := by decide +kernel
theorem D_put_of.shp (kV doc pm : Value) (an : Option Addr) (cdv ct : Value) : Shapes D_put_of.fd (PySem.W.fnOf D_put_of.name D_put_of.qual D_put_of.params D_put_of.body D_put_of.scope .none kV doc pm an cdv ct) := by
  intro n ks h s us ws full h1 h2 hb
  simp only [show D_put_of.fd.shapes = [(1, [])] from rfl, List.mem_cons, List.not_mem_nil, or_false, Prod.mk.injEq] at h
  obtain ⟨rfl, rfl⟩ := h
  exact match us, ws, h1, h2, hb with
    | [u0], [], _, _, hb => by
      have hb : some [u0] = some full := hb
      cases hb
      exact .of_eq rfl
theorem D_law_streams.fr : frameB D_law_streams = true := by decide +kernel
theorem D_law_streams.ok : mSs txt.tab D_law_streams.fd.body D_law_streams.sc D_law_streams.body = true := by decide +kernel
theorem D_law_streams.shp (kV doc pm : Value) (an : Option Addr) (cdv ct : Value) : Shapes D_law_streams.fd (PySem.W.fnOf D_law_streams.name D_law_streams.qual D_law_streams.params D_law_streams.body D_law_streams.scope .none kV doc pm an cdv ct) := by
  intro n ks h s us ws full h1 h2 hb
  simp only [show D_law_streams.fd.shapes = [(3, [])] from rfl, List.mem_cons, List.not_mem_nil, or_false, Prod.mk.injEq] at h
  obtain ⟨rfl, rfl⟩ := h
  exact match us, ws, h1, h2, hb with
    | [u0, u1, u2], [], _, _, hb => by
      have hb : some [u0, u1, u2] = some full := hb
      cases hb
      exact .of_eq rfl
theorem D_law_take.fr : frameB D_law_take = true := by decide +kernel
theorem D_law_take.ok : mSs txt.tab D_law_take.fd.body D_law_take.sc D_law_take.body = true := by decide +kernel
theorem D_law_take.shp (kV doc pm : Value) (an : Option Addr) (cdv ct : Value) : Shapes D_law_take.fd (PySem.W.fnOf D_law_take.name D_law_take.qual D_law_take.params D_law_take.body D_law_take.scope .none kV doc pm an cdv ct) := by
  intro n ks h s us ws full h1 h2 hb
  simp only [show D_law_take.fd.shapes = [(2, [])] from rfl, List.mem_cons, List.not_mem_nil, or_false, Prod.mk.injEq] at h
  obtain ⟨rfl, rfl⟩ := h
  exact match us, ws, h1, h2, hb with
    | [u0, u1], [], _, _, hb => by
      have hb : some [u0, u1] = some full := hb
      cases hb
      exact .of_eq rfl
theorem D_law_pick.fr : frameB D_law_pick = true := by decide +kernel
theorem D_law_pick.ok : mSs txt.tab D_law_pick.fd.body D_law_pick.sc D_law_pick.body = true := by decide +kernel
theorem D_law_pick.shp (kV doc pm : Value) (an : Option Addr) (cdv ct : Value) : Shapes D_law_pick.fd (PySem.W.fnOf D_law_pick.name D_law_pick.qual D_law_pick.params D_law_pick.body D_law_pick.scope .none kV doc pm an cdv ct) := by
  intro n ks h s us ws full h1 h2 hb
  simp only [show D_law_pick.fd.shapes = [(2, [])] from rfl, List.mem_cons, List.not_mem_nil, or_false, Prod.mk.injEq] at h
  obtain ⟨rfl, rfl⟩ := h
  exact match us, ws, h1, h2, hb with
    | [u0, u1], [], _, _, hb => by
      have hb : some [u0, u1] = some full := hb
      cases hb
      exact .of_eq rfl
theorem D_law_error.shp (kV doc pm : Value) (an : Option Addr) (cdv ct : Value) : Shapes D_law_error.fd (PySem.W.fnOf D_law_error.name D_law_error.qual D_law_error.params D_law_error.body D_law_error.scope .none kV doc pm an cdv ct) := by
  intro n ks h s us ws full h1 h2 hb
  simp only [show D_law_error.fd.shapes = [(1, [])] from rfl, List.mem_cons, List.not_mem_nil, or_false, Prod.mk.injEq] at h
  obtain ⟨rfl, rfl⟩ := h
  exact match us, ws, h1, h2, hb with
    | [u0], [], _, _, hb => by
      have hb : some [u0] = some full := hb
      cases hb
      exact .of_eq rfl
theorem D_law_field.shp (kV doc pm : Value) (an : Option Addr) (cdv ct : Value) : Shapes D_law_field.fd (PySem.W.fnOf D_law_field.name D_law_field.qual D_law_field.params D_law_field.body D_law_field.scope .none kV doc pm an cdv ct) := by
  intro n ks h s us ws full h1 h2 hb
  simp only [show D_law_field.fd.shapes = [(2, [])] from rfl, List.mem_cons, List.not_mem_nil, or_false, Prod.mk.injEq] at h
  obtain ⟨rfl, rfl⟩ := h
  exact match us, ws, h1, h2, hb with
    | [u0, u1], [], _, _, hb => by
      have hb : some [u0, u1] = some full := hb
      cases hb
      exact .of_eq rfl
theorem D_law_told.shp (kV doc pm : Value) (an : Option Addr) (cdv ct : Value) : Shapes D_law_told.fd (PySem.W.fnOf D_law_told.name D_law_told.qual D_law_told.params D_law_told.body D_law_told.scope .none kV doc pm an cdv ct) := by
  intro n ks h s us ws full h1 h2 hb
  simp only [show D_law_told.fd.shapes = [(1, [])] from rfl, List.mem_cons, List.not_mem_nil, or_false, Prod.mk.injEq] at h
  obtain ⟨rfl, rfl⟩ := h
  exact match us, ws, h1, h2, hb with
    | [u0], [], _, _, hb => by
      have hb : some [u0] = some full := hb
      cases hb
      exact .of_eq rfl
theorem D_law_odd.fr : frameB D_law_odd = true := by decide +kernel
theorem D_law_odd.ok : mSs txt.tab D_law_odd.fd.body D_law_odd.sc D_law_odd.body = true := by decide +kernel
theorem D_law_odd.shp (kV doc pm : Value) (an : Option Addr) (cdv ct : Value) : Shapes D_law_odd.fd (PySem.W.fnOf D_law_odd.name D_law_odd.qual D_law_odd.params D_law_odd.body D_law_odd.scope .none kV doc pm an cdv ct) := by
  intro n ks h s us ws full h1 h2 hb
  simp only [show D_law_odd.fd.shapes = [(1, [])] from rfl, List.mem_cons, List.not_mem_nil, or_false, Prod.mk.injEq] at h
  obtain ⟨rfl, rfl⟩ := h
  exact match us, ws, h1, h2, hb with
    | [u0], [], _, _, hb => by
      have hb : some [u0] = some full := hb
      cases hb
      exact .of_eq rfl
theorem D_law_is_tag.fr : frameB D_law_is_tag = true := by decide +kernel
theorem D_law_is_tag.ok : mSs txt.tab D_law_is_tag.fd.body D_law_is_tag.sc D_law_is_tag.body = true := by decide +kernel
theorem D_law_is_tag.shp (kV doc pm : Value) (an : Option Addr) (cdv ct : Value) : Shapes D_law_is_tag.fd (PySem.W.fnOf D_law_is_tag.name D_law_is_tag.qual D_law_is_tag.params D_law_is_tag.body D_law_is_tag.scope .none kV doc pm an cdv ct) := by
  intro n ks h s us ws full h1 h2 hb
  simp only [show D_law_is_tag.fd.shapes = [(1, [])] from rfl, List.mem_cons, List.not_mem_nil, or_false, Prod.mk.injEq] at h
  obtain ⟨rfl, rfl⟩ := h
  exact match us, ws, h1, h2, hb with
    | [u0], [], _, _, hb => by
      have hb : some [u0] = some full := hb
      cases hb
      exact .of_eq rfl
theorem D_law_is_front.fr : frameB D_law_is_front = true := by decide +kernel
theorem D_law_is_front.ok : mSs txt.tab D_law_is_front.fd.body D_law_is_front.sc D_law_is_front.body = true := by decide +kernel
theorem D_law_is_front.shp (kV doc pm : Value) (an : Option Addr) (cdv ct : Value) : Shapes D_law_is_front.fd (PySem.W.fnOf D_law_is_front.name D_law_is_front.qual D_law_is_front.params D_law_is_front.body D_law_is_front.scope .none kV doc pm an cdv ct) := by
  intro n ks h s us ws full h1 h2 hb
  simp only [show D_law_is_front.fd.shapes = [(1, [])] from rfl, List.mem_cons, List.not_mem_nil, or_false, Prod.mk.injEq] at h
  obtain ⟨rfl, rfl⟩ := h
  exact match us, ws, h1, h2, hb with
    | [u0], [], _, _, hb => by
      have hb : some [u0] = some full := hb
      cases hb
      exact .of_eq rfl
theorem D_law_palette.fr : frameB D_law_palette = true := by decide +kernel
theorem D_law_palette.ok : mSs txt.tab D_law_palette.fd.body D_law_palette.sc D_law_palette.body = true := by decide +kernel
theorem D_law_palette.shp (kV doc pm : Value) (an : Option Addr) (cdv ct : Value) : Shapes D_law_palette.fd (PySem.W.fnOf D_law_palette.name D_law_palette.qual D_law_palette.params D_law_palette.body D_law_palette.scope .none kV doc pm an cdv ct) := by
  intro n ks h s us ws full h1 h2 hb
  simp only [show D_law_palette.fd.shapes = [(2, [])] from rfl, List.mem_cons, List.not_mem_nil, or_false, Prod.mk.injEq] at h
  obtain ⟨rfl, rfl⟩ := h
  exact match us, ws, h1, h2, hb with
    | [u0, u1], [], _, _, hb => by
      have hb : some [u0, u1] = some full := hb
      cases hb
      exact .of_eq rfl
theorem D_law_tag.fr : frameB D_law_tag = true := by decide +kernel
theorem D_law_tag.ok : mSs txt.tab D_law_tag.fd.body D_law_tag.sc D_law_tag.body = true := by decide +kernel
theorem D_law_tag.shp (kV doc pm : Value) (an : Option Addr) (cdv ct : Value) : Shapes D_law_tag.fd (PySem.W.fnOf D_law_tag.name D_law_tag.qual D_law_tag.params D_law_tag.body D_law_tag.scope .none kV doc pm an cdv ct) := by
  intro n ks h s us ws full h1 h2 hb
  simp only [show D_law_tag.fd.shapes = [(1, [])] from rfl, List.mem_cons, List.not_mem_nil, or_false, Prod.mk.injEq] at h
  obtain ⟨rfl, rfl⟩ := h
  exact match us, ws, h1, h2, hb with
    | [u0], [], _, _, hb => by
      have hb : some [u0] = some full := hb
      cases hb
      exact .of_eq rfl
theorem D_law_put.fr : frameB D_law_put = true := by decide +kernel
theorem D_law_put.ok : mSs txt.tab D_law_put.fd.body D_law_put.sc D_law_put.body = true := by decide +kernel
theorem D_law_put.shp (kV doc pm : Value) (an : Option Addr) (cdv ct : Value) : Shapes D_law_put.fd (PySem.W.fnOf D_law_put.name D_law_put.qual D_law_put.params D_law_put.body D_law_put.scope .none kV doc pm an cdv ct) := by
  intro n ks h s us ws full h1 h2 hb
  simp only [show D_law_put.fd.shapes = [(2, [])] from rfl, List.mem_cons, List.not_mem_nil, or_false, Prod.mk.injEq] at h
  obtain ⟨rfl, rfl⟩ := h
  exact match us, ws, h1, h2, hb with
    | [u0, u1], [], _, _, hb => by
      have hb : some [u0, u1] = some full := hb
      cases hb
      exact .of_eq rfl
theorem D_law_steps.fr : frameB D_law_steps = true := by decide +kernel
theorem D_law_steps.ok : mSs txt.tab D_law_steps.fd.body D_law_steps.sc D_law_steps.body = true := by decide +kernel
theorem D_law_steps.shp (kV doc pm : Value) (an : Option Addr) (cdv ct : Value) : Shapes D_law_steps.fd (PySem.W.fnOf D_law_steps.name D_law_steps.qual D_law_steps.params D_law_steps.body D_law_steps.scope .none kV doc pm an cdv ct) := by
  intro n ks h s us ws full h1 h2 hb
  simp only [show D_law_steps.fd.shapes = [(2, [])] from rfl, List.mem_cons, List.not_mem_nil, or_false, Prod.mk.injEq] at h
  obtain ⟨rfl, rfl⟩ := h
  exact match us, ws, h1, h2, hb with
    | [u0, u1], [], _, _, hb => by
      have hb : some [u0, u1] = some full := hb
      cases hb
      exact .of_eq rfl
theorem D_law_row.fr : frameB D_law_row = true := by decide +kernel
theorem D_law_row.ok : mSs txt.tab D_law_row.fd.body D_law_row.sc D_law_row.body = true := by decide +kernel
theorem D_law_row.shp (kV doc pm : Value) (an : Option Addr) (cdv ct : Value) : Shapes D_law_row.fd (PySem.W.fnOf D_law_row.name D_law_row.qual D_law_row.params D_law_row.body D_law_row.scope .none kV doc pm an cdv ct) := by
  intro n ks h s us ws full h1 h2 hb
  simp only [show D_law_row.fd.shapes = [(1, [])] from rfl, List.mem_cons, List.not_mem_nil, or_false, Prod.mk.injEq] at h
  obtain ⟨rfl, rfl⟩ := h
  exact match us, ws, h1, h2, hb with
    | [u0], [], _, _, hb => by
      have hb : some [u0] = some full := hb
      cases hb
      exact .of_eq rfl
theorem D_law_program_text.fr : frameB D_law_program_text = true := by decide +kernel
theorem D_law_program_text.ok : mSs txt.tab D_law_program_text.fd.body D_law_program_text.sc D_law_program_text.body = true := by decide +kernel
theorem D_law_program_text.shp (kV doc pm : Value) (an : Option Addr) (cdv ct : Value) : Shapes D_law_program_text.fd (PySem.W.fnOf D_law_program_text.name D_law_program_text.qual D_law_program_text.params D_law_program_text.body D_law_program_text.scope .none kV doc pm an cdv ct) := by
  intro n ks h s us ws full h1 h2 hb
  simp only [show D_law_program_text.fd.shapes = [(2, [])] from rfl, List.mem_cons, List.not_mem_nil, or_false, Prod.mk.injEq] at h
  obtain ⟨rfl, rfl⟩ := h
  exact match us, ws, h1, h2, hb with
    | [u0, u1], [], _, _, hb => by
      have hb : some [u0, u1] = some full := hb
      cases hb
      exact .of_eq rfl
theorem D_law_is_step.fr : frameB D_law_is_step = true := by decide +kernel
theorem D_law_is_step.ok : mSs txt.tab D_law_is_step.fd.body D_law_is_step.sc D_law_is_step.body = true := by decide +kernel
theorem D_law_is_step.shp (kV doc pm : Value) (an : Option Addr) (cdv ct : Value) : Shapes D_law_is_step.fd (PySem.W.fnOf D_law_is_step.name D_law_is_step.qual D_law_is_step.params D_law_is_step.body D_law_is_step.scope .none kV doc pm an cdv ct) := by
  intro n ks h s us ws full h1 h2 hb
  simp only [show D_law_is_step.fd.shapes = [(1, [])] from rfl, List.mem_cons, List.not_mem_nil, or_false, Prod.mk.injEq] at h
  obtain ⟨rfl, rfl⟩ := h
  exact match us, ws, h1, h2, hb with
    | [u0], [], _, _, hb => by
      have hb : some [u0] = some full := hb
      cases hb
      exact .of_eq rfl
theorem D_law_steps_fault.fr : frameB D_law_steps_fault = true := by decide +kernel
theorem D_law_steps_fault.ok : mSs txt.tab D_law_steps_fault.fd.body D_law_steps_fault.sc D_law_steps_fault.body = true := by decide +kernel
theorem D_law_steps_fault.shp (kV doc pm : Value) (an : Option Addr) (cdv ct : Value) : Shapes D_law_steps_fault.fd (PySem.W.fnOf D_law_steps_fault.name D_law_steps_fault.qual D_law_steps_fault.params D_law_steps_fault.body D_law_steps_fault.scope .none kV doc pm an cdv ct) := by
  intro n ks h s us ws full h1 h2 hb
  simp only [show D_law_steps_fault.fd.shapes = [(1, [])] from rfl, List.mem_cons, List.not_mem_nil, or_false, Prod.mk.injEq] at h
  obtain ⟨rfl, rfl⟩ := h
  exact match us, ws, h1, h2, hb with
    | [u0], [], _, _, hb => by
      have hb : some [u0] = some full := hb
      cases hb
      exact .of_eq rfl
theorem D_law_bent_step.fr : frameB D_law_bent_step = true := by decide +kernel
theorem D_law_bent_step.ok : mSs txt.tab D_law_bent_step.fd.body D_law_bent_step.sc D_law_bent_step.body = true := by decide +kernel
theorem D_law_bent_step.shp (kV doc pm : Value) (an : Option Addr) (cdv ct : Value) : Shapes D_law_bent_step.fd (PySem.W.fnOf D_law_bent_step.name D_law_bent_step.qual D_law_bent_step.params D_law_bent_step.body D_law_bent_step.scope .none kV doc pm an cdv ct) := by
  intro n ks h s us ws full h1 h2 hb
  simp only [show D_law_bent_step.fd.shapes = [(2, [])] from rfl, List.mem_cons, List.not_mem_nil, or_false, Prod.mk.injEq] at h
  obtain ⟨rfl, rfl⟩ := h
  exact match us, ws, h1, h2, hb with
    | [u0, u1], [], _, _, hb => by
      have hb : some [u0, u1] = some full := hb
      cases hb
      exact .of_eq rfl
theorem D_law_some_steps.fr : frameB D_law_some_steps = true := by decide +kernel
theorem D_law_some_steps.ok : mSs txt.tab D_law_some_steps.fd.body D_law_some_steps.sc D_law_some_steps.body = true := by decide +kernel
theorem D_law_some_steps.shp (kV doc pm : Value) (an : Option Addr) (cdv ct : Value) : Shapes D_law_some_steps.fd (PySem.W.fnOf D_law_some_steps.name D_law_some_steps.qual D_law_some_steps.params D_law_some_steps.body D_law_some_steps.scope .none kV doc pm an cdv ct) := by
  intro n ks h s us ws full h1 h2 hb
  simp only [show D_law_some_steps.fd.shapes = [(1, [])] from rfl, List.mem_cons, List.not_mem_nil, or_false, Prod.mk.injEq] at h
  obtain ⟨rfl, rfl⟩ := h
  exact match us, ws, h1, h2, hb with
    | [u0], [], _, _, hb => by
      have hb : some [u0] = some full := hb
      cases hb
      exact .of_eq rfl
theorem D_law_due.fr : frameB D_law_due = true := by decide +kernel
theorem D_law_due.ok : mSs txt.tab D_law_due.fd.body D_law_due.sc D_law_due.body = true := by decide +kernel
theorem D_law_due.shp (kV doc pm : Value) (an : Option Addr) (cdv ct : Value) : Shapes D_law_due.fd (PySem.W.fnOf D_law_due.name D_law_due.qual D_law_due.params D_law_due.body D_law_due.scope .none kV doc pm an cdv ct) := by
  intro n ks h s us ws full h1 h2 hb
  simp only [show D_law_due.fd.shapes = [(2, [])] from rfl, List.mem_cons, List.not_mem_nil, or_false, Prod.mk.injEq] at h
  obtain ⟨rfl, rfl⟩ := h
  exact match us, ws, h1, h2, hb with
    | [u0, u1], [], _, _, hb => by
      have hb : some [u0, u1] = some full := hb
      cases hb
      exact .of_eq rfl
theorem D_law_right.fr : frameB D_law_right = true := by decide +kernel
theorem D_law_right.ok : mSs txt.tab D_law_right.fd.body D_law_right.sc D_law_right.body = true := by decide +kernel
theorem D_law_right.shp (kV doc pm : Value) (an : Option Addr) (cdv ct : Value) : Shapes D_law_right.fd (PySem.W.fnOf D_law_right.name D_law_right.qual D_law_right.params D_law_right.body D_law_right.scope .none kV doc pm an cdv ct) := by
  intro n ks h s us ws full h1 h2 hb
  simp only [show D_law_right.fd.shapes = [(1, [])] from rfl, List.mem_cons, List.not_mem_nil, or_false, Prod.mk.injEq] at h
  obtain ⟨rfl, rfl⟩ := h
  exact match us, ws, h1, h2, hb with
    | [u0], [], _, _, hb => by
      have hb : some [u0] = some full := hb
      cases hb
      exact .of_eq rfl
theorem Dlaw.fr : frameB Dlaw = true := by decide +kernel
theorem Dlaw.ok : mSs txt.tab Dlaw.fd.body Dlaw.sc Dlaw.body = true := by decide +kernel
theorem Dlaw.shp (kV doc pm : Value) (an : Option Addr) (cdv ct : Value) : Shapes Dlaw.fd (PySem.W.fnOf Dlaw.name Dlaw.qual Dlaw.params Dlaw.body Dlaw.scope .none kV doc pm an cdv ct) := by
  intro n ks h s us ws full h1 h2 hb
  simp only [show Dlaw.fd.shapes = [(1, [])] from rfl, List.mem_cons, List.not_mem_nil, or_false, Prod.mk.injEq] at h
  obtain ⟨rfl, rfl⟩ := h
  exact match us, ws, h1, h2, hb with
    | [u0], [], _, _, hb => by
      have hb : some [u0] = some full := hb
      cases hb
      exact .of_eq rfl
theorem DInvalidName_u_init_u.shp (kV doc pm : Value) (an : Option Addr) (cdv ct : Value) : Shapes DInvalidName_u_init_u.fd (PySem.W.fnOf DInvalidName_u_init_u.name DInvalidName_u_init_u.qual DInvalidName_u_init_u.params DInvalidName_u_init_u.body DInvalidName_u_init_u.scope .none kV doc pm an cdv ct) := by
  intro n ks h s us ws full h1 h2 hb
  simp only [show DInvalidName_u_init_u.fd.shapes = [(2, [])] from rfl, List.mem_cons, List.not_mem_nil, or_false, Prod.mk.injEq] at h
  obtain ⟨rfl, rfl⟩ := h
  exact match us, ws, h1, h2, hb with
    | [u0, u1], [], _, _, hb => by
      have hb : some [u0, u1] = some full := hb
      cases hb
      exact .of_eq rfl
theorem DInvalidCases_u_init_u.shp (kV doc pm : Value) (an : Option Addr) (cdv ct : Value) : Shapes DInvalidCases_u_init_u.fd (PySem.W.fnOf DInvalidCases_u_init_u.name DInvalidCases_u_init_u.qual DInvalidCases_u_init_u.params DInvalidCases_u_init_u.body DInvalidCases_u_init_u.scope .none kV doc pm an cdv ct) := by
  intro n ks h s us ws full h1 h2 hb
  simp only [show DInvalidCases_u_init_u.fd.shapes = [(2, [])] from rfl, List.mem_cons, List.not_mem_nil, or_false, Prod.mk.injEq] at h
  obtain ⟨rfl, rfl⟩ := h
  exact match us, ws, h1, h2, hb with
    | [u0, u1], [], _, _, hb => by
      have hb : some [u0, u1] = some full := hb
      cases hb
      exact .of_eq rfl
theorem txt_ok : ∀ d ∈ txt.defs, DfOk txt.tab d := by
  intro d h
  simp only [show txt.defs = [D_wall, Dis_marks, Dis_name, DProgram_u_init_u, DProgram_read, DProgram_name, DProgram_cases, DProgram_treat, DProgram_taken, DProgram_u_eq_u, DProgram_u_str_u, DProgram_u_repr_u, D_first_wrong, D_is_case, D_is_begin, D_is_put, D_is_else, D_taken, D_fits, D_row_of, D_word_of, D_case_of, D_put_of, D_law_streams, D_law_take, D_law_pick, D_law_odd, D_law_is_tag, D_law_is_front, D_law_palette, D_law_tag, D_law_put, D_law_steps, D_law_row, D_law_program_text, D_law_is_step, D_law_steps_fault, D_law_bent_step, D_law_some_steps, D_law_due, D_law_right, Dlaw] from rfl, List.mem_cons, List.not_mem_nil, or_false] at h
  rcases h with rfl | rfl | rfl | rfl | rfl | rfl | rfl | rfl | rfl | rfl | rfl | rfl | rfl | rfl | rfl | rfl | rfl | rfl | rfl | rfl | rfl | rfl | rfl | rfl | rfl | rfl | rfl | rfl | rfl | rfl | rfl | rfl | rfl | rfl | rfl | rfl | rfl | rfl | rfl | rfl | rfl | rfl
  · exact ⟨D_wall.fr, D_wall.ok, D_wall.shp⟩
  · exact ⟨Dis_marks.fr, Dis_marks.ok, Dis_marks.shp⟩
  · exact ⟨Dis_name.fr, Dis_name.ok, Dis_name.shp⟩
  · exact ⟨DProgram_u_init_u.fr, DProgram_u_init_u.ok, DProgram_u_init_u.shp⟩
  · exact ⟨DProgram_read.fr, DProgram_read.ok, DProgram_read.shp⟩
  · exact ⟨DProgram_name.fr, DProgram_name.ok, DProgram_name.shp⟩
  · exact ⟨DProgram_cases.fr, DProgram_cases.ok, DProgram_cases.shp⟩
  · exact ⟨DProgram_treat.fr, DProgram_treat.ok, DProgram_treat.shp⟩
  · exact ⟨DProgram_taken.fr, DProgram_taken.ok, DProgram_taken.shp⟩
  · exact ⟨DProgram_u_eq_u.fr, DProgram_u_eq_u.ok, DProgram_u_eq_u.shp⟩
  · exact ⟨DProgram_u_str_u.fr, DProgram_u_str_u.ok, DProgram_u_str_u.shp⟩
  · exact ⟨DProgram_u_repr_u.fr, DProgram_u_repr_u.ok, DProgram_u_repr_u.shp⟩
  · exact ⟨D_first_wrong.fr, D_first_wrong.ok, D_first_wrong.shp⟩
  · exact ⟨D_is_case.fr, D_is_case.ok, D_is_case.shp⟩
  · exact ⟨D_is_begin.fr, D_is_begin.ok, D_is_begin.shp⟩
  · exact ⟨D_is_put.fr, D_is_put.ok, D_is_put.shp⟩
  · exact ⟨D_is_else.fr, D_is_else.ok, D_is_else.shp⟩
  · exact ⟨D_taken.fr, D_taken.ok, D_taken.shp⟩
  · exact ⟨D_fits.fr, D_fits.ok, D_fits.shp⟩
  · exact ⟨D_row_of.fr, D_row_of.ok, D_row_of.shp⟩
  · exact ⟨D_word_of.fr, D_word_of.ok, D_word_of.shp⟩
  · exact ⟨D_case_of.fr, D_case_of.ok, D_case_of.shp⟩
  · exact ⟨D_put_of.fr, D_put_of.ok, D_put_of.shp⟩
  · exact ⟨D_law_streams.fr, D_law_streams.ok, D_law_streams.shp⟩
  · exact ⟨D_law_take.fr, D_law_take.ok, D_law_take.shp⟩
  · exact ⟨D_law_pick.fr, D_law_pick.ok, D_law_pick.shp⟩
  · exact ⟨D_law_odd.fr, D_law_odd.ok, D_law_odd.shp⟩
  · exact ⟨D_law_is_tag.fr, D_law_is_tag.ok, D_law_is_tag.shp⟩
  · exact ⟨D_law_is_front.fr, D_law_is_front.ok, D_law_is_front.shp⟩
  · exact ⟨D_law_palette.fr, D_law_palette.ok, D_law_palette.shp⟩
  · exact ⟨D_law_tag.fr, D_law_tag.ok, D_law_tag.shp⟩
  · exact ⟨D_law_put.fr, D_law_put.ok, D_law_put.shp⟩
  · exact ⟨D_law_steps.fr, D_law_steps.ok, D_law_steps.shp⟩
  · exact ⟨D_law_row.fr, D_law_row.ok, D_law_row.shp⟩
  · exact ⟨D_law_program_text.fr, D_law_program_text.ok, D_law_program_text.shp⟩
  · exact ⟨D_law_is_step.fr, D_law_is_step.ok, D_law_is_step.shp⟩
  · exact ⟨D_law_steps_fault.fr, D_law_steps_fault.ok, D_law_steps_fault.shp⟩
  · exact ⟨D_law_bent_step.fr, D_law_bent_step.ok, D_law_bent_step.shp⟩
  · exact ⟨D_law_some_steps.fr, D_law_some_steps.ok, D_law_some_steps.shp⟩
  · exact ⟨D_law_due.fr, D_law_due.ok, D_law_due.shp⟩
  · exact ⟨D_law_right.fr, D_law_right.ok, D_law_right.shp⟩
  · exact ⟨Dlaw.fr, Dlaw.ok, Dlaw.shp⟩
theorem txt_told : ∀ a b c, txt.told = some (a, b, c) → ToldOk txt a b c := by
  intro a b c h
  have h : some (D_law_told, D_law_error, D_law_field) = some (a, b, c) := h
  cases h
  exact ⟨by decide +kernel, D_law_told.shp, D_law_error.shp, D_law_field.shp⟩
theorem txt_ini : ∀ C x f, txt.exc.lookup C = some x → x.ex.fld = [f] → ∃ d, x.ini = some d ∧ iniB f d = true ∧ Bnd d := by
  intro C x f h hf
  have m := look_mem h
  simp only [show txt.exc = [("InvalidName", XCInvalidName), ("InvalidCases", XCInvalidCases)] from rfl, List.mem_cons, List.not_mem_nil, or_false, Prod.mk.injEq] at m
  rcases m with ⟨rfl, rfl⟩ | ⟨rfl, rfl⟩
  · have hf : ["given"] = [f] := hf
    cases hf
    exact ⟨DInvalidName_u_init_u, rfl, by decide +kernel, DInvalidName_u_init_u.shp⟩
  · have hf : ["index"] = [f] := hf
    cases hf
    exact ⟨DInvalidCases_u_init_u, rfl, by decide +kernel, DInvalidCases_u_init_u.shp⟩
theorem txt_all : TxtOk txt := ⟨txt_ok, txt_told, txt_ini⟩
abbrev T : Tab := txt.tab
theorem D_wall.at_ : T.fn ("", "_wall") = some D_wall.fnd := by rfl
theorem D_wall.c0 {k : Nat} {hd : Hd} {a0 : D} : callF T (k + 1) ("", "_wall") [a0] [] hd = fin false hd.length (evS ⟨T, callF T k⟩ D_wall.tree [some a0] hd) :=
  call_is (T := T) (key := ("", "_wall")) (fd := D_wall.fnd) (k := k) (xs := [a0]) (vs := [a0]) (ks := []) (kept := false) (tree := D_wall.tree) (env := [some a0]) D_wall.at_ (by show _ ∈ ([(1, [])] : List (Nat × List String)); simp) rfl rfl rfl rfl
theorem Dis_marks.at_ : T.fn ("", "is_marks") = some Dis_marks.fnd := by rfl
theorem Dis_marks.c0 {k : Nat} {hd : Hd} {a0 : D} : callF T (k + 1) ("", "is_marks") [a0] [] hd = fin false hd.length (evS ⟨T, callF T k⟩ Dis_marks.tree [some a0] hd) :=
  call_is (T := T) (key := ("", "is_marks")) (fd := Dis_marks.fnd) (k := k) (xs := [a0]) (vs := [a0]) (ks := []) (kept := false) (tree := Dis_marks.tree) (env := [some a0]) Dis_marks.at_ (by show _ ∈ ([(1, [])] : List (Nat × List String)); simp) rfl rfl rfl rfl
theorem Dis_name.at_ : T.fn ("", "is_name") = some Dis_name.fnd := by rfl
theorem Dis_name.c0 {k : Nat} {hd : Hd} {a0 : D} : callF T (k + 1) ("", "is_name") [a0] [] hd = fin false hd.length (evS ⟨T, callF T k⟩ Dis_name.tree [some a0, none] hd) :=
  call_is (T := T) (key := ("", "is_name")) (fd := Dis_name.fnd) (k := k) (xs := [a0]) (vs := [a0]) (ks := []) (kept := false) (tree := Dis_name.tree) (env := [some a0, none]) Dis_name.at_ (by show _ ∈ ([(1, [])] : List (Nat × List String)); simp) rfl rfl rfl rfl
theorem DProgram_u_init_u.at_ : T.fn ("Program", "__init__") = some DProgram_u_init_u.fnd := by rfl
theorem DProgram_u_init_u.c0 {k : Nat} {hd : Hd} {a0 a1 a2 : D} : callF T (k + 1) ("Program", "__init__") [a0, a1, a2] [] hd = fin false hd.length (evS ⟨T, callF T k⟩ DProgram_u_init_u.tree [some a0, some a1, some a2, none] hd) :=
  call_is (T := T) (key := ("Program", "__init__")) (fd := DProgram_u_init_u.fnd) (k := k) (xs := [a0, a1, a2]) (vs := [a0, a1, a2]) (ks := []) (kept := false) (tree := DProgram_u_init_u.tree) (env := [some a0, some a1, some a2, none]) DProgram_u_init_u.at_ (by show _ ∈ ([(3, [])] : List (Nat × List String)); simp) rfl rfl rfl rfl
theorem DProgram_read.at_ : T.fn ("Program", "read") = some DProgram_read.fnd := by rfl
theorem DProgram_name.at_ : T.fn ("Program", "name") = some DProgram_name.fnd := by rfl
theorem DProgram_name.c0 {k : Nat} {hd : Hd} {a0 : D} : callF T (k + 1) ("Program", "name") [a0] [] hd = fin false hd.length (evS ⟨T, callF T k⟩ DProgram_name.tree [some a0] hd) :=
  call_is (T := T) (key := ("Program", "name")) (fd := DProgram_name.fnd) (k := k) (xs := [a0]) (vs := [a0]) (ks := []) (kept := false) (tree := DProgram_name.tree) (env := [some a0]) DProgram_name.at_ (by show _ ∈ ([(1, [])] : List (Nat × List String)); simp) rfl rfl rfl rfl
theorem DProgram_cases.at_ : T.fn ("Program", "cases") = some DProgram_cases.fnd := by rfl
theorem DProgram_cases.c0 {k : Nat} {hd : Hd} {a0 : D} : callF T (k + 1) ("Program", "cases") [a0] [] hd = fin false hd.length (evS ⟨T, callF T k⟩ DProgram_cases.tree [some a0] hd) :=
  call_is (T := T) (key := ("Program", "cases")) (fd := DProgram_cases.fnd) (k := k) (xs := [a0]) (vs := [a0]) (ks := []) (kept := false) (tree := DProgram_cases.tree) (env := [some a0]) DProgram_cases.at_ (by show _ ∈ ([(1, [])] : List (Nat × List String)); simp) rfl rfl rfl rfl
theorem DProgram_treat.at_ : T.fn ("Program", "treat") = some DProgram_treat.fnd := by rfl
theorem DProgram_taken.at_ : T.fn ("Program", "taken") = some DProgram_taken.fnd := by rfl
theorem DProgram_u_eq_u.at_ : T.fn ("Program", "__eq__") = some DProgram_u_eq_u.fnd := by rfl
theorem DProgram_u_eq_u.c0 {k : Nat} {hd : Hd} {a0 a1 : D} : callF T (k + 1) ("Program", "__eq__") [a0, a1] [] hd = fin false hd.length (evS ⟨T, callF T k⟩ DProgram_u_eq_u.tree [some a0, some a1] hd) :=
  call_is (T := T) (key := ("Program", "__eq__")) (fd := DProgram_u_eq_u.fnd) (k := k) (xs := [a0, a1]) (vs := [a0, a1]) (ks := []) (kept := false) (tree := DProgram_u_eq_u.tree) (env := [some a0, some a1]) DProgram_u_eq_u.at_ (by show _ ∈ ([(2, [])] : List (Nat × List String)); simp) rfl rfl rfl rfl
theorem DProgram_u_str_u.at_ : T.fn ("Program", "__str__") = some DProgram_u_str_u.fnd := by rfl
theorem DProgram_u_str_u.c0 {k : Nat} {hd : Hd} {a0 : D} : callF T (k + 1) ("Program", "__str__") [a0] [] hd = fin false hd.length (evS ⟨T, callF T k⟩ DProgram_u_str_u.tree [some a0, none, none] hd) :=
  call_is (T := T) (key := ("Program", "__str__")) (fd := DProgram_u_str_u.fnd) (k := k) (xs := [a0]) (vs := [a0]) (ks := []) (kept := false) (tree := DProgram_u_str_u.tree) (env := [some a0, none, none]) DProgram_u_str_u.at_ (by show _ ∈ ([(1, [])] : List (Nat × List String)); simp) rfl rfl rfl rfl
theorem DProgram_u_repr_u.at_ : T.fn ("Program", "__repr__") = some DProgram_u_repr_u.fnd := by rfl
theorem DProgram_u_repr_u.c0 {k : Nat} {hd : Hd} {a0 : D} : callF T (k + 1) ("Program", "__repr__") [a0] [] hd = fin false hd.length (evS ⟨T, callF T k⟩ DProgram_u_repr_u.tree [some a0] hd) :=
  call_is (T := T) (key := ("Program", "__repr__")) (fd := DProgram_u_repr_u.fnd) (k := k) (xs := [a0]) (vs := [a0]) (ks := []) (kept := false) (tree := DProgram_u_repr_u.tree) (env := [some a0]) DProgram_u_repr_u.at_ (by show _ ∈ ([(1, [])] : List (Nat × List String)); simp) rfl rfl rfl rfl
theorem D_first_wrong.at_ : T.fn ("", "_first_wrong") = some D_first_wrong.fnd := by rfl
theorem D_first_wrong.c0 {k : Nat} {hd : Hd} {a0 : D} : callF T (k + 1) ("", "_first_wrong") [a0] [] hd = fin false hd.length (evS ⟨T, callF T k⟩ D_first_wrong.tree [some a0, none, none, none] hd) :=
  call_is (T := T) (key := ("", "_first_wrong")) (fd := D_first_wrong.fnd) (k := k) (xs := [a0]) (vs := [a0]) (ks := []) (kept := false) (tree := D_first_wrong.tree) (env := [some a0, none, none, none]) D_first_wrong.at_ (by show _ ∈ ([(1, [])] : List (Nat × List String)); simp) rfl rfl rfl rfl
theorem D_is_case.at_ : T.fn ("", "_is_case") = some D_is_case.fnd := by rfl
theorem D_is_case.c0 {k : Nat} {hd : Hd} {a0 : D} : callF T (k + 1) ("", "_is_case") [a0] [] hd = fin false hd.length (evS ⟨T, callF T k⟩ D_is_case.tree [some a0, none, none, none] hd) :=
  call_is (T := T) (key := ("", "_is_case")) (fd := D_is_case.fnd) (k := k) (xs := [a0]) (vs := [a0]) (ks := []) (kept := false) (tree := D_is_case.tree) (env := [some a0, none, none, none]) D_is_case.at_ (by show _ ∈ ([(1, [])] : List (Nat × List String)); simp) rfl rfl rfl rfl
theorem D_is_begin.at_ : T.fn ("", "_is_begin") = some D_is_begin.fnd := by rfl
theorem D_is_begin.c0 {k : Nat} {hd : Hd} {a0 a1 : D} : callF T (k + 1) ("", "_is_begin") [a0, a1] [] hd = fin false hd.length (evS ⟨T, callF T k⟩ D_is_begin.tree [some a0, some a1, none] hd) :=
  call_is (T := T) (key := ("", "_is_begin")) (fd := D_is_begin.fnd) (k := k) (xs := [a0, a1]) (vs := [a0, a1]) (ks := []) (kept := false) (tree := D_is_begin.tree) (env := [some a0, some a1, none]) D_is_begin.at_ (by show _ ∈ ([(2, [])] : List (Nat × List String)); simp) rfl rfl rfl rfl
theorem D_is_put.at_ : T.fn ("", "_is_put") = some D_is_put.fnd := by rfl
theorem D_is_put.c0 {k : Nat} {hd : Hd} {a0 : D} : callF T (k + 1) ("", "_is_put") [a0] [] hd = fin false hd.length (evS ⟨T, callF T k⟩ D_is_put.tree [some a0] hd) :=
  call_is (T := T) (key := ("", "_is_put")) (fd := D_is_put.fnd) (k := k) (xs := [a0]) (vs := [a0]) (ks := []) (kept := false) (tree := D_is_put.tree) (env := [some a0]) D_is_put.at_ (by show _ ∈ ([(1, [])] : List (Nat × List String)); simp) rfl rfl rfl rfl
theorem D_is_else.at_ : T.fn ("", "_is_else") = some D_is_else.fnd := by rfl
theorem D_is_else.c0 {k : Nat} {hd : Hd} {a0 : D} : callF T (k + 1) ("", "_is_else") [a0] [] hd = fin false hd.length (evS ⟨T, callF T k⟩ D_is_else.tree [some a0, none, none, none] hd) :=
  call_is (T := T) (key := ("", "_is_else")) (fd := D_is_else.fnd) (k := k) (xs := [a0]) (vs := [a0]) (ks := []) (kept := false) (tree := D_is_else.tree) (env := [some a0, none, none, none]) D_is_else.at_ (by show _ ∈ ([(1, [])] : List (Nat × List String)); simp) rfl rfl rfl rfl
theorem D_taken.at_ : T.fn ("", "_taken") = some D_taken.fnd := by rfl
theorem D_taken.c0 {k : Nat} {hd : Hd} {a0 a1 : D} : callF T (k + 1) ("", "_taken") [a0, a1] [] hd = fin false hd.length (evS ⟨T, callF T k⟩ D_taken.tree [some a0, some a1, none] hd) :=
  call_is (T := T) (key := ("", "_taken")) (fd := D_taken.fnd) (k := k) (xs := [a0, a1]) (vs := [a0, a1]) (ks := []) (kept := false) (tree := D_taken.tree) (env := [some a0, some a1, none]) D_taken.at_ (by show _ ∈ ([(2, [])] : List (Nat × List String)); simp) rfl rfl rfl rfl
theorem D_fits.at_ : T.fn ("", "_fits") = some D_fits.fnd := by rfl
theorem D_row_of.at_ : T.fn ("", "_row_of") = some D_row_of.fnd := by rfl
theorem D_row_of.c0 {k : Nat} {hd : Hd} {a0 : D} : callF T (k + 1) ("", "_row_of") [a0] [] hd = fin false hd.length (evS ⟨T, callF T k⟩ D_row_of.tree [some a0, none, none, none, none] hd) :=
  call_is (T := T) (key := ("", "_row_of")) (fd := D_row_of.fnd) (k := k) (xs := [a0]) (vs := [a0]) (ks := []) (kept := false) (tree := D_row_of.tree) (env := [some a0, none, none, none, none]) D_row_of.at_ (by show _ ∈ ([(1, [])] : List (Nat × List String)); simp) rfl rfl rfl rfl
theorem D_word_of.at_ : T.fn ("", "_word_of") = some D_word_of.fnd := by rfl
theorem D_word_of.c0 {k : Nat} {hd : Hd} {a0 : D} : callF T (k + 1) ("", "_word_of") [a0] [] hd = fin false hd.length (evS ⟨T, callF T k⟩ D_word_of.tree [some a0] hd) :=
  call_is (T := T) (key := ("", "_word_of")) (fd := D_word_of.fnd) (k := k) (xs := [a0]) (vs := [a0]) (ks := []) (kept := false) (tree := D_word_of.tree) (env := [some a0]) D_word_of.at_ (by show _ ∈ ([(1, [])] : List (Nat × List String)); simp) rfl rfl rfl rfl
theorem D_case_of.at_ : T.fn ("", "_case_of") = some D_case_of.fnd := by rfl
theorem D_case_of.c0 {k : Nat} {hd : Hd} {a0 : D} : callF T (k + 1) ("", "_case_of") [a0] [] hd = fin false hd.length (evS ⟨T, callF T k⟩ D_case_of.tree [some a0, none, none, none, none, none] hd) :=
  call_is (T := T) (key := ("", "_case_of")) (fd := D_case_of.fnd) (k := k) (xs := [a0]) (vs := [a0]) (ks := []) (kept := false) (tree := D_case_of.tree) (env := [some a0, none, none, none, none, none]) D_case_of.at_ (by show _ ∈ ([(1, [])] : List (Nat × List String)); simp) rfl rfl rfl rfl
theorem D_put_of.at_ : T.fn ("", "_put_of") = some D_put_of.fnd := by rfl
theorem D_put_of.c0 {k : Nat} {hd : Hd} {a0 : D} : callF T (k + 1) ("", "_put_of") [a0] [] hd = fin false hd.length (evS ⟨T, callF T k⟩ D_put_of.tree [some a0] hd) :=
  call_is (T := T) (key := ("", "_put_of")) (fd := D_put_of.fnd) (k := k) (xs := [a0]) (vs := [a0]) (ks := []) (kept := false) (tree := D_put_of.tree) (env := [some a0]) D_put_of.at_ (by show _ ∈ ([(1, [])] : List (Nat × List String)); simp) rfl rfl rfl rfl
theorem D_law_streams.at_ : T.fn ("", "_law_streams") = some D_law_streams.fnd := by rfl
theorem D_law_streams.c0 {k : Nat} {hd : Hd} {a0 a1 a2 : D} : callF T (k + 1) ("", "_law_streams") [a0, a1, a2] [] hd = fin true hd.length (evS ⟨T, callF T k⟩ D_law_streams.tree [some a0, some a1, some a2, none, none, none, none] hd) :=
  call_is (T := T) (key := ("", "_law_streams")) (fd := D_law_streams.fnd) (k := k) (xs := [a0, a1, a2]) (vs := [a0, a1, a2]) (ks := []) (kept := true) (tree := D_law_streams.tree) (env := [some a0, some a1, some a2, none, none, none, none]) D_law_streams.at_ (by show _ ∈ ([(3, [])] : List (Nat × List String)); simp) rfl rfl rfl rfl
theorem D_law_take.at_ : T.fn ("", "_law_take") = some D_law_take.fnd := by rfl
theorem D_law_take.c0 {k : Nat} {hd : Hd} {a0 a1 : D} : callF T (k + 1) ("", "_law_take") [a0, a1] [] hd = fin false hd.length (evS ⟨T, callF T k⟩ D_law_take.tree [some a0, some a1, none, none] hd) :=
  call_is (T := T) (key := ("", "_law_take")) (fd := D_law_take.fnd) (k := k) (xs := [a0, a1]) (vs := [a0, a1]) (ks := []) (kept := false) (tree := D_law_take.tree) (env := [some a0, some a1, none, none]) D_law_take.at_ (by show _ ∈ ([(2, [])] : List (Nat × List String)); simp) rfl rfl rfl rfl
theorem D_law_pick.at_ : T.fn ("", "_law_pick") = some D_law_pick.fnd := by rfl
theorem D_law_pick.c0 {k : Nat} {hd : Hd} {a0 a1 : D} : callF T (k + 1) ("", "_law_pick") [a0, a1] [] hd = fin false hd.length (evS ⟨T, callF T k⟩ D_law_pick.tree [some a0, some a1] hd) :=
  call_is (T := T) (key := ("", "_law_pick")) (fd := D_law_pick.fnd) (k := k) (xs := [a0, a1]) (vs := [a0, a1]) (ks := []) (kept := false) (tree := D_law_pick.tree) (env := [some a0, some a1]) D_law_pick.at_ (by show _ ∈ ([(2, [])] : List (Nat × List String)); simp) rfl rfl rfl rfl
theorem D_law_odd.at_ : T.fn ("", "_law_odd") = some D_law_odd.fnd := by rfl
theorem D_law_odd.c0 {k : Nat} {hd : Hd} {a0 : D} : callF T (k + 1) ("", "_law_odd") [a0] [] hd = fin false hd.length (evS ⟨T, callF T k⟩ D_law_odd.tree [some a0, none] hd) :=
  call_is (T := T) (key := ("", "_law_odd")) (fd := D_law_odd.fnd) (k := k) (xs := [a0]) (vs := [a0]) (ks := []) (kept := false) (tree := D_law_odd.tree) (env := [some a0, none]) D_law_odd.at_ (by show _ ∈ ([(1, [])] : List (Nat × List String)); simp) rfl rfl rfl rfl
theorem D_law_is_tag.at_ : T.fn ("", "_law_is_tag") = some D_law_is_tag.fnd := by rfl
theorem D_law_is_tag.c0 {k : Nat} {hd : Hd} {a0 : D} : callF T (k + 1) ("", "_law_is_tag") [a0] [] hd = fin false hd.length (evS ⟨T, callF T k⟩ D_law_is_tag.tree [some a0, none, none] hd) :=
  call_is (T := T) (key := ("", "_law_is_tag")) (fd := D_law_is_tag.fnd) (k := k) (xs := [a0]) (vs := [a0]) (ks := []) (kept := false) (tree := D_law_is_tag.tree) (env := [some a0, none, none]) D_law_is_tag.at_ (by show _ ∈ ([(1, [])] : List (Nat × List String)); simp) rfl rfl rfl rfl
theorem D_law_is_front.at_ : T.fn ("", "_law_is_front") = some D_law_is_front.fnd := by rfl
theorem D_law_is_front.c0 {k : Nat} {hd : Hd} {a0 : D} : callF T (k + 1) ("", "_law_is_front") [a0] [] hd = fin false hd.length (evS ⟨T, callF T k⟩ D_law_is_front.tree [some a0, none] hd) :=
  call_is (T := T) (key := ("", "_law_is_front")) (fd := D_law_is_front.fnd) (k := k) (xs := [a0]) (vs := [a0]) (ks := []) (kept := false) (tree := D_law_is_front.tree) (env := [some a0, none]) D_law_is_front.at_ (by show _ ∈ ([(1, [])] : List (Nat × List String)); simp) rfl rfl rfl rfl
theorem D_law_palette.at_ : T.fn ("", "_law_palette") = some D_law_palette.fnd := by rfl
theorem D_law_palette.c0 {k : Nat} {hd : Hd} {a0 a1 : D} : callF T (k + 1) ("", "_law_palette") [a0, a1] [] hd = fin false hd.length (evS ⟨T, callF T k⟩ D_law_palette.tree [some a0, some a1, none, none, none] hd) :=
  call_is (T := T) (key := ("", "_law_palette")) (fd := D_law_palette.fnd) (k := k) (xs := [a0, a1]) (vs := [a0, a1]) (ks := []) (kept := false) (tree := D_law_palette.tree) (env := [some a0, some a1, none, none, none]) D_law_palette.at_ (by show _ ∈ ([(2, [])] : List (Nat × List String)); simp) rfl rfl rfl rfl
theorem D_law_tag.at_ : T.fn ("", "_law_tag") = some D_law_tag.fnd := by rfl
theorem D_law_tag.c0 {k : Nat} {hd : Hd} {a0 : D} : callF T (k + 1) ("", "_law_tag") [a0] [] hd = fin false hd.length (evS ⟨T, callF T k⟩ D_law_tag.tree [some a0, none, none, none] hd) :=
  call_is (T := T) (key := ("", "_law_tag")) (fd := D_law_tag.fnd) (k := k) (xs := [a0]) (vs := [a0]) (ks := []) (kept := false) (tree := D_law_tag.tree) (env := [some a0, none, none, none]) D_law_tag.at_ (by show _ ∈ ([(1, [])] : List (Nat × List String)); simp) rfl rfl rfl rfl
theorem D_law_put.at_ : T.fn ("", "_law_put") = some D_law_put.fnd := by rfl
theorem D_law_put.c0 {k : Nat} {hd : Hd} {a0 a1 : D} : callF T (k + 1) ("", "_law_put") [a0, a1] [] hd = fin false hd.length (evS ⟨T, callF T k⟩ D_law_put.tree [some a0, some a1, none, none, none] hd) :=
  call_is (T := T) (key := ("", "_law_put")) (fd := D_law_put.fnd) (k := k) (xs := [a0, a1]) (vs := [a0, a1]) (ks := []) (kept := false) (tree := D_law_put.tree) (env := [some a0, some a1, none, none, none]) D_law_put.at_ (by show _ ∈ ([(2, [])] : List (Nat × List String)); simp) rfl rfl rfl rfl
theorem D_law_steps.at_ : T.fn ("", "_law_steps") = some D_law_steps.fnd := by rfl
theorem D_law_steps.c0 {k : Nat} {hd : Hd} {a0 a1 : D} : callF T (k + 1) ("", "_law_steps") [a0, a1] [] hd = fin false hd.length (evS ⟨T, callF T k⟩ D_law_steps.tree [some a0, some a1, none, none, none, none, none] hd) :=
  call_is (T := T) (key := ("", "_law_steps")) (fd := D_law_steps.fnd) (k := k) (xs := [a0, a1]) (vs := [a0, a1]) (ks := []) (kept := false) (tree := D_law_steps.tree) (env := [some a0, some a1, none, none, none, none, none]) D_law_steps.at_ (by show _ ∈ ([(2, [])] : List (Nat × List String)); simp) rfl rfl rfl rfl
theorem D_law_row.at_ : T.fn ("", "_law_row") = some D_law_row.fnd := by rfl
theorem D_law_row.c0 {k : Nat} {hd : Hd} {a0 : D} : callF T (k + 1) ("", "_law_row") [a0] [] hd = fin false hd.length (evS ⟨T, callF T k⟩ D_law_row.tree [some a0, none, none, none, none] hd) :=
  call_is (T := T) (key := ("", "_law_row")) (fd := D_law_row.fnd) (k := k) (xs := [a0]) (vs := [a0]) (ks := []) (kept := false) (tree := D_law_row.tree) (env := [some a0, none, none, none, none]) D_law_row.at_ (by show _ ∈ ([(1, [])] : List (Nat × List String)); simp) rfl rfl rfl rfl
theorem D_law_program_text.at_ : T.fn ("", "_law_program_text") = some D_law_program_text.fnd := by rfl
theorem D_law_program_text.c0 {k : Nat} {hd : Hd} {a0 a1 : D} : callF T (k + 1) ("", "_law_program_text") [a0, a1] [] hd = fin false hd.length (evS ⟨T, callF T k⟩ D_law_program_text.tree [some a0, some a1, none] hd) :=
  call_is (T := T) (key := ("", "_law_program_text")) (fd := D_law_program_text.fnd) (k := k) (xs := [a0, a1]) (vs := [a0, a1]) (ks := []) (kept := false) (tree := D_law_program_text.tree) (env := [some a0, some a1, none]) D_law_program_text.at_ (by show _ ∈ ([(2, [])] : List (Nat × List String)); simp) rfl rfl rfl rfl
theorem D_law_is_step.at_ : T.fn ("", "_law_is_step") = some D_law_is_step.fnd := by rfl
theorem D_law_is_step.c0 {k : Nat} {hd : Hd} {a0 : D} : callF T (k + 1) ("", "_law_is_step") [a0] [] hd = fin false hd.length (evS ⟨T, callF T k⟩ D_law_is_step.tree [some a0, none] hd) :=
  call_is (T := T) (key := ("", "_law_is_step")) (fd := D_law_is_step.fnd) (k := k) (xs := [a0]) (vs := [a0]) (ks := []) (kept := false) (tree := D_law_is_step.tree) (env := [some a0, none]) D_law_is_step.at_ (by show _ ∈ ([(1, [])] : List (Nat × List String)); simp) rfl rfl rfl rfl
theorem D_law_steps_fault.at_ : T.fn ("", "_law_steps_fault") = some D_law_steps_fault.fnd := by rfl
theorem D_law_steps_fault.c0 {k : Nat} {hd : Hd} {a0 : D} : callF T (k + 1) ("", "_law_steps_fault") [a0] [] hd = fin false hd.length (evS ⟨T, callF T k⟩ D_law_steps_fault.tree [some a0, none] hd) :=
  call_is (T := T) (key := ("", "_law_steps_fault")) (fd := D_law_steps_fault.fnd) (k := k) (xs := [a0]) (vs := [a0]) (ks := []) (kept := false) (tree := D_law_steps_fault.tree) (env := [some a0, none]) D_law_steps_fault.at_ (by show _ ∈ ([(1, [])] : List (Nat × List String)); simp) rfl rfl rfl rfl
theorem D_law_bent_step.at_ : T.fn ("", "_law_bent_step") = some D_law_bent_step.fnd := by rfl
theorem D_law_bent_step.c0 {k : Nat} {hd : Hd} {a0 a1 : D} : callF T (k + 1) ("", "_law_bent_step") [a0, a1] [] hd = fin false hd.length (evS ⟨T, callF T k⟩ D_law_bent_step.tree [some a0, some a1, none, none, none, none, none, none] hd) :=
  call_is (T := T) (key := ("", "_law_bent_step")) (fd := D_law_bent_step.fnd) (k := k) (xs := [a0, a1]) (vs := [a0, a1]) (ks := []) (kept := false) (tree := D_law_bent_step.tree) (env := [some a0, some a1, none, none, none, none, none, none]) D_law_bent_step.at_ (by show _ ∈ ([(2, [])] : List (Nat × List String)); simp) rfl rfl rfl rfl
theorem D_law_some_steps.at_ : T.fn ("", "_law_some_steps") = some D_law_some_steps.fnd := by rfl
theorem D_law_some_steps.c0 {k : Nat} {hd : Hd} {a0 : D} : callF T (k + 1) ("", "_law_some_steps") [a0] [] hd = fin false hd.length (evS ⟨T, callF T k⟩ D_law_some_steps.tree [some a0, none, none, none, none, none, none, none, none] hd) :=
  call_is (T := T) (key := ("", "_law_some_steps")) (fd := D_law_some_steps.fnd) (k := k) (xs := [a0]) (vs := [a0]) (ks := []) (kept := false) (tree := D_law_some_steps.tree) (env := [some a0, none, none, none, none, none, none, none, none]) D_law_some_steps.at_ (by show _ ∈ ([(1, [])] : List (Nat × List String)); simp) rfl rfl rfl rfl
theorem D_law_due.at_ : T.fn ("", "_law_due") = some D_law_due.fnd := by rfl
theorem D_law_due.c0 {k : Nat} {hd : Hd} {a0 a1 : D} : callF T (k + 1) ("", "_law_due") [a0, a1] [] hd = fin false hd.length (evS ⟨T, callF T k⟩ D_law_due.tree [some a0, some a1, none] hd) :=
  call_is (T := T) (key := ("", "_law_due")) (fd := D_law_due.fnd) (k := k) (xs := [a0, a1]) (vs := [a0, a1]) (ks := []) (kept := false) (tree := D_law_due.tree) (env := [some a0, some a1, none]) D_law_due.at_ (by show _ ∈ ([(2, [])] : List (Nat × List String)); simp) rfl rfl rfl rfl
theorem D_law_right.at_ : T.fn ("", "_law_right") = some D_law_right.fnd := by rfl
theorem D_law_right.c0 {k : Nat} {hd : Hd} {a0 : D} : callF T (k + 1) ("", "_law_right") [a0] [] hd = fin false hd.length (evS ⟨T, callF T k⟩ D_law_right.tree [some a0, none, none, none] hd) :=
  call_is (T := T) (key := ("", "_law_right")) (fd := D_law_right.fnd) (k := k) (xs := [a0]) (vs := [a0]) (ks := []) (kept := false) (tree := D_law_right.tree) (env := [some a0, none, none, none]) D_law_right.at_ (by show _ ∈ ([(1, [])] : List (Nat × List String)); simp) rfl rfl rfl rfl
theorem Dlaw.at_ : T.fn ("", "law") = some Dlaw.fnd := by rfl
theorem Dlaw.c0 {k : Nat} {hd : Hd} {a0 : D} : callF T (k + 1) ("", "law") [a0] [] hd = fin false hd.length (evS ⟨T, callF T k⟩ Dlaw.tree [some a0, none, none, none, none] hd) :=
  call_is (T := T) (key := ("", "law")) (fd := Dlaw.fnd) (k := k) (xs := [a0]) (vs := [a0]) (ks := []) (kept := false) (tree := Dlaw.tree) (env := [some a0, none, none, none, none]) Dlaw.at_ (by show _ ∈ ([(1, [])] : List (Nat × List String)); simp) rfl rfl rfl rfl
end Z
/-! Z31: the head's look at the names in many small pieces. -/
namespace Z
open PySem PySem.Spec PyProof.Rows
section
variable {r : PySem.W.OpenRow} {t : Txt} {n m M : Nat} {w : World}
noncomputable abbrev EndO (r : PySem.W.OpenRow) (M : Nat) (w : World) (os : OsState) : Option PySem.W.SharedT := HandSHeadRun.endF (HandSHeadRun.stepQ (HandSHeadRun.denQ HandSHeadRun.tabQ) r.prog w) M r.prog w os
abbrev KAt (n : Nat) (s : PySem.W.SharedT) : PySem.W.Frag := partM n (HandSHeadRun.getT s)
/-- something holds at the end -/
def RunC (r : PySem.W.OpenRow) (M n : Nat) (w : World) (c : PySem.W.Frag → Bool) : Prop := ∀ os : OsState, (EndO r M w os).map (fun s => c (KAt n s)) = some true
/-- defs are seen as they are due -/
def RunD (r : PySem.W.OpenRow) (M n : Nat) (w : World) (l : List Df) : Prop := ∀ os : OsState, (EndO r M w os).map (fun s => l.map (Df.seen (KAt n s))) = some (l.map Df.due)
def lamE (K : PySem.W.Frag) (p : Addr × Obj) : Option (Addr × PySem.Str) := if isCode p.2 then (K.lookup p.1).bind (lamOf K) else none
theorem lams_two (K : PySem.W.Frag) (m : Nat) : lamsK K = (K.take m).filterMap (lamE K) ++ (K.drop m).filterMap (lamE K) := by
  rw [← List.filterMap_append, List.take_append_drop]
  rfl
def tabL (l : List (Addr × PySem.Str)) (g : Addr → Option Obj) : Bool := l.all fun p => match g p.1 with
  | some o => emptyB o
  | none => false
def RunT (r : PySem.W.OpenRow) (M n : Nat) (w : World) (f : PySem.W.Frag → PySem.W.Frag) : Prop := ∀ os : OsState, (EndO r M w os).map (fun s => tabL ((f (KAt n s)).filterMap (lamE (KAt n s))) (HandSHeadRun.getT s)) = some true
def c4 (t : Txt) (K : PySem.W.Frag) : Bool := t.cls.all (clsF K) && (t.cls.all fun p => t.cls.all fun q => twoF K p.1 q.1)
def c6 (t : Txt) (K : PySem.W.Frag) : Bool := t.told.isNone || (bmF K && (["NotRight", "NotThere", "CannotBe"].all fun x => (He.Fa.glo (nm x)).ok K))
def c1 (t : Txt) (K : PySem.W.Frag) : Bool := (smF K && ((bNames.all fun y => (He.Fa.free y).ok K) && t.cons.all (conF K))) && (t.exc.all (excF K) && c6 t K)
/-- the table of a def's code -/
def lamP (K : PySem.W.Frag) (d : Df) : Option Addr := match K.lookup (d.adr K) with
  | some ⟨_, _, .func u, _⟩ => (match u.code with
    | .ref c => (match (K.lookup c).bind (lamOf K) with
      | some (P, _) => some P
      | none => none)
    | _ => none)
  | _ => none
def lamX (d : Df) : PySem.Str := d.qual ++ ".<locals>." ++ "<lambda>"
theorem lamF_of {K : PySem.W.Frag} {d : Df} {P : Addr} (h : lamP K d = some P) (e : (lamsK K).lookup P = some (lamX d)) : lamF K d = true := by
  unfold lamP at h
  unfold lamF
  revert h
  cases K.lookup (d.adr K) with
  | none => intro h; cases h
  | some o =>
    obtain ⟨oc, od, dt, sl⟩ := o
    cases dt with
    | func u =>
      dsimp only
      cases u.code with
      | ref c =>
        dsimp only
        cases (K.lookup c).bind (lamOf K) with
        | none => intro h; cases h
        | some q =>
          obtain ⟨P', n'⟩ := q
          dsimp only
          intro h
          cases h
          exact decide_eq_true e
      | _ => intro h; cases h
    | _ => intro h; cases h
def lamA (m : Nat) (K : PySem.W.Frag) (d : Df) : Bool := match lamP K d with
  | some P => decide (((K.take m).filterMap (lamE K)).lookup P = none)
  | none => false
def lamB (m : Nat) (K : PySem.W.Frag) (d : Df) : Bool := match lamP K d with
  | some P => decide (((K.drop m).filterMap (lamE K)).lookup P = some (lamX d))
  | none => false
theorem lookup_two {α β : Type} [BEq α] {k : α} {b : β} : ∀ {x y : List (α × β)}, x.lookup k = none → y.lookup k = some b → (x ++ y).lookup k = some b
  | [], _, _, h => h
  | (a, c) :: x, y, h1, h2 => by
    rw [List.cons_append]
    unfold List.lookup at h1 ⊢
    cases e : k == a with
    | true =>
      rw [e] at h1
      cases h1
    | false =>
      rw [e] at h1
      exact lookup_two h1 h2
theorem lam_two {K : PySem.W.Frag} {d : Df} (h1 : lamA m K d = true) (h2 : lamB m K d = true) : lamF K d = true := by
  unfold lamA at h1
  unfold lamB at h2
  cases h : lamP K d with
  | none =>
    rw [h] at h1
    cases h1
  | some P =>
    rw [h] at h1 h2
    refine lamF_of h ?_
    rw [lams_two K m]
    exact lookup_two (of_decide_eq_true h1) (of_decide_eq_true h2)
variable {m' p : Nat}
/-- m, m': where the defs are cut; p: where the objects are -/
theorem runB_of (h1 : RunC r M n w (c1 t)) (h2 : RunC r M n w fun K => (t.every.take m).all (Df.fine K)) (h3 : RunC r M n w fun K => ((t.every.drop m).take m').all (Df.fine K)) (h3' : RunC r M n w fun K => ((t.every.drop m).drop m').all (Df.fine K)) (h4 : RunC r M n w (c4 t))
    (h5 : RunC r M n w fun K => t.defs.all fun d => !d.lm || lamA p K d) (h6 : RunC r M n w fun K => t.defs.all fun d => !d.lm || lamB p K d)
    (h7 : RunD r M n w (t.every.take m)) (h8 : RunD r M n w (t.every.drop m)) (h9 : RunT r M n w (List.take p)) (h9' : RunT r M n w (List.drop p)) : RunB r (t.hookM n) (fun s => t.sees (KAt n s) (HandSHeadRun.getT s)) M w := fun os => by
  have h1 := h1 os
  have h2 := h2 os
  have h3 := h3 os
  have h3' := h3' os
  have h4 := h4 os
  have h5 := h5 os
  have h6 := h6 os
  have h7 := h7 os
  have h8 := h8 os
  have h9 := h9 os
  have h9' := h9' os
  show (EndO r M w os).map _ = _
  revert h1 h2 h3 h3' h4 h5 h6 h7 h8 h9 h9'
  cases EndO r M w os with
  | none =>
    intro h1
    cases h1
  | some s =>
    intro h1 h2 h3 h3' h4 h5 h6 h7 h8 h9 h9'
    have h1 : c1 t (KAt n s) = true := Option.some.inj h1
    have h2 : (t.every.take m).all (Df.fine (KAt n s)) = true := Option.some.inj h2
    have h3 : ((t.every.drop m).take m').all (Df.fine (KAt n s)) = true := Option.some.inj h3
    have h3' : ((t.every.drop m).drop m').all (Df.fine (KAt n s)) = true := Option.some.inj h3'
    have h4 : c4 t (KAt n s) = true := Option.some.inj h4
    have h5 : (t.defs.all fun d => !d.lm || lamA p (KAt n s) d) = true := Option.some.inj h5
    have h6 : (t.defs.all fun d => !d.lm || lamB p (KAt n s) d) = true := Option.some.inj h6
    have h7 : (t.every.take m).map (Df.seen (KAt n s)) = (t.every.take m).map Df.due := Option.some.inj h7
    have h8 : (t.every.drop m).map (Df.seen (KAt n s)) = (t.every.drop m).map Df.due := Option.some.inj h8
    have h9 : tabL (((KAt n s).take p).filterMap (lamE (KAt n s))) (HandSHeadRun.getT s) = true := Option.some.inj h9
    have h9' : tabL (((KAt n s).drop p).filterMap (lamE (KAt n s))) (HandSHeadRun.getT s) = true := Option.some.inj h9'
    obtain ⟨a1, a4⟩ := and_t h1
    obtain ⟨a1, a2⟩ := and_t a1
    obtain ⟨a2, a3⟩ := and_t a2
    obtain ⟨a4, a5⟩ := and_t a4
    obtain ⟨b1, b2⟩ := and_t h4
    have ev : t.every.all (Df.fine (KAt n s)) = true := by
      rw [← List.take_append_drop m t.every, List.all_append, h2, ← List.take_append_drop m' (t.every.drop m), List.all_append, h3, h3']
      rfl
    have sn : t.every.map (Df.seen (KAt n s)) = t.every.map Df.due := by
      have e : (t.every.take m ++ t.every.drop m).map (Df.seen (KAt n s)) = (t.every.take m ++ t.every.drop m).map Df.due := by
        rw [List.map_append, List.map_append, h7, h8]
      rw [List.take_append_drop] at e
      exact e
    have lm : (t.defs.all fun d => !d.lm || lamF (KAt n s) d) = true := List.all_eq_true.mpr fun d hd => by
      have q1 := List.all_eq_true.mp h5 d hd
      have q2 := List.all_eq_true.mp h6 d hd
      cases e : d.lm with
      | false => rfl
      | true =>
        rw [e] at q1 q2
        exact lam_two q1 q2
    have fa : t.facts (KAt n s) = true := by
      unfold Txt.facts
      rw [a1, a2, a3, ev, b1, b2, a4, lm]
      unfold c6 at a5
      rw [Bool.and_true]
      exact a5
    have tb : tabsF (KAt n s) (HandSHeadRun.getT s) = true := by
      show tabL (lamsK (KAt n s)) (HandSHeadRun.getT s) = true
      rw [lams_two _ p]
      unfold tabL at h9 h9' ⊢
      rw [List.all_append, h9, h9']
      rfl
    show some ((t.facts (KAt n s), t.every.map (Df.seen (KAt n s))), tabsF (KAt n s) (HandSHeadRun.getT s)) = some ((true, t.every.map Df.due), true)
    rw [fa, sn, tb]
/-- the two looks of the head, one by one -/
def RunA1 (r : PySem.W.OpenRow) (M : Nat) (w : World) : Prop := ∀ os : OsState, (EndO r M w os).map (fun s => HandSHeadRun.looksF r.prog (PySem.W.boot_heap w.params) s.abs) = some true
def RunA2 (r : PySem.W.OpenRow) (q : Program) (M : Nat) (loose : List Str) (w : World) : Prop :=
  ∀ os : OsState, (EndO r M w os).map (fun s => HandSHeadRun.seenQ q loose (PySem.importedModules r.prog.main.body) (fun s => PySem.W.xlAt q [] s && PySem.W.recOk r.toRowW.records s) s.abs) = some (PySem.W.openGood q loose)
theorem runA_of {q : Program} {loose : List Str} (a : RunA1 r M w) (b : RunA2 r q M loose w) : RunA r q M loose w := fun os => by
  have a := a os
  have b := b os
  show (EndO r M w os).map _ = _
  revert a b
  cases EndO r M w os with
  | none =>
    intro a
    cases a
  | some s =>
    intro a b
    exact congrArg some (Prod.ext (Option.some.inj a) (Option.some.inj b))
end
end Z
namespace Z
open PySem PySem.Spec PyProof.Rows L2
abbrev RowK : PySem.W.OpenRow := PySem.W.OpenLaw.row PySem.Challenge.rw_quotedthreads_k03_programs_refused
abbrev viewK : Program := PySem.W.view RowK.prog [77]
abbrev hk : PySem.W.Hook := txt.hookM 20000
def ob (s : PySem.W.SharedT) : Looked2 := txt.sees (partM 20000 (HandSHeadRun.getT s)) (HandSHeadRun.getT s)
theorem ob_eq (s : PySem.W.SharedT) : ob s = hk.obs s.abs := Txt.hookM_eq (HandSHeadRun.getT_eq s)
def loose1 : List Str := ["_wall", "__name__", "NotRight", "InvalidName", "InvalidMarks", "InvalidSign", "InvalidText", "InvalidCount", "InvalidPlace", "InvalidClaim", "NotAProgram", "NotABook", "InvalidCases", "InvalidPeople", "InvalidPrograms", "InvalidAnswers", "InvalidThread", "InvalidTexts", "InvalidLeft", "InvalidExchanges"]
def loose2 : List Str := ["InvalidSigns", "NotThere", "UnknownPerson", "UnknownProgram", "UnknownAnswer", "CannotBe", "TooManySigns", "NothingToUndo", "Broken", "SIGNS", "MOST_CASES", "_LETTERS", "_LETTERS_AND_DIGITS", "_LONGEST_NAME", "is_marks", "is_name", "_LONGEST_BEGIN", "_LONGEST_ONLY_BEGIN", "_LONGEST_PUT", "_GONE"]
def loose3 : List Str := ["_NOTHING", "Program", "_first_wrong", "_is_case", "_is_begin", "_is_put", "_is_else", "_taken", "_fits", "_row_of", "_word_of", "_case_of", "_put_of", "_law_streams", "_law_take", "_law_pick", "_law_error", "_law_field", "_law_told", "_law_odd"]
def loose4 : List Str := ["_law_is_tag", "_law_is_front", "_law_palette", "_law_tag", "_law_put", "_law_steps", "_law_row", "_law_program_text", "_law_is_step", "_law_steps_fault", "_law_bent_step", "_law_some_steps", "_law_due", "_law_right"]
abbrev loose : List Str := loose1 ++ loose2 ++ loose3 ++ loose4
theorem run0 (w : World) : RunA1 RowK 20000 w := by
  intro os
  kernel_rfl
theorem run00 (w : World) : RunA2 RowK viewK 20000 loose w := by
  intro os
  kernel_rfl
theorem run1 (w : World) : RunC RowK 20000 20000 w (c1 txt) := by
  intro os
  kernel_rfl
theorem run2 (w : World) : RunC RowK 20000 20000 w fun K => (txt.every.take 20).all (Df.fine K) := by
  intro os
  kernel_rfl
theorem run3 (w : World) : RunC RowK 20000 20000 w fun K => ((txt.every.drop 20).take 20).all (Df.fine K) := by
  intro os
  kernel_rfl
theorem run3b (w : World) : RunC RowK 20000 20000 w fun K => ((txt.every.drop 20).drop 20).all (Df.fine K) := by
  intro os
  kernel_rfl
theorem run4 (w : World) : RunC RowK 20000 20000 w (c4 txt) := by
  intro os
  kernel_rfl
theorem run5 (w : World) : RunC RowK 20000 20000 w fun K => txt.defs.all fun d => !d.lm || lamA 260 K d := by
  intro os
  kernel_rfl
theorem run6 (w : World) : RunC RowK 20000 20000 w fun K => txt.defs.all fun d => !d.lm || lamB 260 K d := by
  intro os
  kernel_rfl
theorem run7 (w : World) : RunD RowK 20000 20000 w (txt.every.take 20) := by
  intro os
  kernel_rfl
theorem run8 (w : World) : RunD RowK 20000 20000 w (txt.every.drop 20) := by
  intro os
  kernel_rfl
theorem run9 (w : World) : RunT RowK 20000 20000 w (List.take 260) := by
  intro os
  kernel_rfl
theorem run9b (w : World) : RunT RowK 20000 20000 w (List.drop 260) := by
  intro os
  kernel_rfl
theorem runA (w : World) : RunA RowK viewK 20000 loose w := runA_of (run0 w) (run00 w)
theorem runB (w : World) : RunB RowK hk ob 20000 w := runB_of (m := 20) (m' := 20) (p := 260) (run1 w) (run2 w) (run3 w) (run3b w) (run4 w) (run5 w) (run6 w) (run7 w) (run8 w) (run9 w) (run9b w)
theorem run (w : World) : HandSHeadRun.RunEq RowK viewK hk ob 20000 loose w := run_two (runA w) (runB w)
end Z
namespace Z
open PySem
/-- a stream -/
def St (hd : Hd) (n : Nat) : Prop := ∃ a b c, lsAt hd n = some [.int a, .int b, .int c]
def To (n : Nat) (hd hd' : Hd) : Prop := ∃ a b c, hd' = hd.set n (.lst [.int a, .int b, .int c])
theorem take_ {k : Nat} {hd : Hd} {n : Nat} {sz : Int} (st : St hd n) (h0 : 0 < sz) (h1 : sz < 1073741824) :
    ∃ r hd', callF T (k + 1) ("", "_law_take") [.obj n, .int sz] [] hd = .ok (.int r) hd' ∧ (0 ≤ r ∧ r < sz) ∧ To n hd hd' := by
  obtain ⟨a, b, c, e⟩ := st
  have hn := at_lt e
  have md : ∀ (hd : Hd) (x : Int), binS false .Mod (.int x) (.int 2147483629) hd = .ok (.int (x % 2147483629)) hd := fun hd x => mod_int (by decide)
  have md2 : ∀ (hd : Hd) (x : Int), binS false .Mod (.int x) (.int 2147483579) hd = .ok (.int (x % 2147483579)) hd := fun hd x => mod_int (by decide)
  have ms : ∀ (hd : Hd) (x : Int), binS false .Mod (.int x) (.int sz) hd = .ok (.int (x % sz)) hd := fun hd x => mod_int h0
  have ds : ∀ (hd : Hd) (x : Int), binS false .FloorDiv (.int x) (.int sz) hd = .ok (.int (x / sz)) hd := fun hd x => div_int ⟨h0, h1⟩
  have d8 : ∀ (hd : Hd) (x : Int), binS false .FloorDiv (.int x) (.int 128) hd = .ok (.int (x / 128)) hd := fun hd x => div_int (by decide)
  have m1 : ∀ (hd : Hd) (x : Int), binS false .Mult (.int 7368787) (.int x) hd = .ok (.int (7368787 * x)) hd := fun hd x => mul_int (.inl (by decide))
  have m2 : ∀ (hd : Hd) (x : Int), binS false .Mult (.int 40507) (.int x) hd = .ok (.int (40507 * x)) hd := fun hd x => mul_int (.inl (by decide))
  have m3 : ∀ (hd : Hd) (x : Int), binS false .Mult (.int (x % 2147483629)) (.int (x % 2147483629)) hd = .ok (.int ((x % 2147483629) * (x % 2147483629))) hd := fun hd x => mul_int (.inl (by
    have := Int.emod_nonneg x (show (2147483629 : Int) ≠ 0 by decide)
    have := Int.emod_lt_of_pos x (show (0 : Int) < 2147483629 by decide)
    unfold big
    omega))
  have rg : ∀ x : Int, 0 ≤ x % sz ∧ x % sz < sz := fun x => ⟨Int.emod_nonneg x (by omega), Int.emod_lt_of_pos x h0⟩
  rw [D_law_take.c0]
  by_cases ha : 0 < a
  · simp [D_law_take.tree, e, at_set hn, atI, ixn, md, md2, ms, ds, d8, m1, m2, m3, ha, fin_same, rg, To]
    exact ⟨_, _, ⟨rfl, rfl⟩, rg _, _, _, _, rfl⟩
  · simp [D_law_take.tree, e, at_set hn, atI, ixn, md, md2, ms, ds, d8, m1, m2, m3, ha, fin_same, rg, To]
    exact ⟨_, _, ⟨rfl, rfl⟩, rg _, _, _, _, rfl⟩
end Z
namespace Z
open PySem
/-! ### heaps of streams -/
section
variable {hd h1 h2 hd' : Hd} {n : Nat} {x : MO}
theorem St.lt (s : St hd n) : n < hd.length := by
  obtain ⟨a, b, c, e⟩ := s
  exact at_lt e
theorem To.len (t : To n hd hd') : hd'.length = hd.length := by
  obtain ⟨a, b, c, rfl⟩ := t
  simp
theorem To.st (t : To n hd hd') (h : n < hd.length) : St hd' n := by
  obtain ⟨a, b, c, rfl⟩ := t
  exact ⟨a, b, c, at_set h⟩
theorem To.refl (s : St hd n) : To n hd hd := by
  obtain ⟨a, b, c, e⟩ := s
  refine ⟨a, b, c, ?_⟩
  have h : hd[n]? = some (.lst [.int a, .int b, .int c]) := by
    unfold lsAt at e
    split at e
    · rename_i xs q
      cases e
      exact q
    · cases e
  have hn := (List.getElem?_eq_some_iff.mp h).1
  have hv := (List.getElem?_eq_some_iff.mp h).2
  rw [← hv]
  exact (List.set_getElem_self hn).symm
theorem To.trans (a : To n hd h1) (b : To n h1 h2) : To n hd h2 := by
  obtain ⟨x1, y1, z1, rfl⟩ := a
  obtain ⟨x2, y2, z2, rfl⟩ := b
  exact ⟨x2, y2, z2, by rw [List.set_set]⟩
theorem St.more (s : St hd n) : St (hd ++ [x]) n := by
  obtain ⟨a, b, c, e⟩ := s
  exact ⟨a, b, c, by rw [at_more (at_lt e)]; exact e⟩
theorem To.more (t : To n (hd ++ [x]) hd') (h : n < hd.length) : ∃ h2, hd' = h2 ++ [x] ∧ To n hd h2 := by
  obtain ⟨a, b, c, rfl⟩ := t
  exact ⟨_, set_more h, a, b, c, rfl⟩
/-- nothing names a place -/
def Ss (hd : Hd) : Prop := ∀ mo ∈ hd, ∀ N, lowO N mo = true
theorem Ss.at_ (_ : Ss hd) (h : St hd n) : St hd n := h
theorem Ss.to (s : Ss hd) (t : To n hd hd') : Ss hd' := by
  obtain ⟨a, b, c, rfl⟩ := t
  intro mo h
  rcases List.mem_or_eq_of_mem_set h with h | h
  · exact s mo h
  · rw [h]
    exact fun N => rfl
theorem Ss.low (s : Ss hd) (N : Nat) : hd.all (lowO N) = true := by
  rw [List.all_eq_true]
  exact fun mo h => s mo h N
/-- a value that names nothing new goes out, the new things are let go -/
theorem fin_low {d : D} {tl : Hd} (s : Ss hd) (hl : low hd.length d = true) : fin false hd.length (.rt d (hd ++ tl)) = .ok d hd := by
  show (if false = true ∨ (hd ++ tl).length = hd.length then R.ok d (hd ++ tl) else if ((hd ++ tl).take hd.length).all (lowO hd.length) = true then
      (if low hd.length d = true then R.ok d ((hd ++ tl).take hd.length) else _) else _) = _
  have e : (hd ++ tl).take hd.length = hd := by simp
  split
  · rename_i h
    rcases h with h | h
    · cases h
    · have : tl = [] := by
        have : tl.length = 0 := by
          rw [List.length_append] at h
          omega
        exact List.length_eq_zero_iff.mp this
      subst this
      simp
  · rw [e, if_pos (s.low _)]
end
/-! ### loops -/
theorem forV_run {sto : D → Env → Hd → Option Env} {body : Env → Hd → O} (P : Nat → Env → Hd → Prop) : ∀ (vs : List D) (i : Nat) (env : Env) (hd : Hd), P i env hd →
    (∀ j v env hd, vs[j]? = some v → P (i + j) env hd → ∃ env1 env2 hd2, sto v env hd = some env1 ∧ body env1 hd = .nx env2 hd2 ∧ P (i + j + 1) env2 hd2) → ∃ env' hd', forV sto body vs env hd = .nx env' hd' ∧ P (i + vs.length) env' hd'
  | [], i, env, hd, h, _ => ⟨env, hd, rfl, h⟩
  | v :: vs, i, env, hd, h, st => by
    obtain ⟨env1, env2, hd2, e1, e2, h2⟩ := st 0 v env hd rfl h
    obtain ⟨env', hd', e3, h3⟩ := forV_run P vs (i + 1) env2 hd2 h2 fun j w env hd q p => by
      have := st (j + 1) w env hd q (by rw [show i + (j + 1) = i + 1 + j by omega]; exact p)
      rw [show i + (j + 1) + 1 = i + 1 + j + 1 by omega] at this
      exact this
    refine ⟨env', hd', ?_, by rw [show i + (v :: vs).length = i + 1 + vs.length by rw [List.length_cons]; omega]; exact h3⟩
    show (match sto v env hd with
      | none => O.bad
      | some env1 => match body env1 hd with
        | .nx env2 h2 => forV sto body vs env2 h2
        | .ct env2 h2 => forV sto body vs env2 h2
        | .bk env2 h2 => .nx env2 h2
        | o => o) = _
    rw [e1]
    dsimp only
    rw [e2]
    exact e3
theorem lcV_run {sto : D → Env → Hd → Option Env} {tst : Env → Hd → R Bool} {elt : Env → Hd → R D} {env : Env} (P : Nat → List D → Hd → Prop) : ∀ (vs : List D) (i : Nat) (acc : List D) (hd : Hd), P i acc hd → acc.length + vs.length ≤ line →
    (∀ j v acc hd, vs[j]? = some v → P (i + j) acc hd → ∃ env1 y h2, sto v env hd = some env1 ∧ tst env1 hd = .ok true hd ∧ elt env1 hd = .ok y h2 ∧ P (i + j + 1) (acc ++ [y]) h2) →
    ∃ ys hd', lcV sto tst elt env vs acc hd = .ok ys hd' ∧ P (i + vs.length) ys hd'
  | [], i, acc, hd, h, _, _ => ⟨acc, hd, rfl, h⟩
  | v :: vs, i, acc, hd, h, hl, st => by
    obtain ⟨env1, y, h2, e1, e2, e3, p⟩ := st 0 v acc hd rfl h
    rw [List.length_cons] at hl
    obtain ⟨ys, hd', e4, h4⟩ := lcV_run P vs (i + 1) (acc ++ [y]) h2 p (by rw [List.length_append, List.length_singleton]; omega) fun j w acc hd q p => by
      have := st (j + 1) w acc hd q (by rw [show i + (j + 1) = i + 1 + j by omega]; exact p)
      rw [show i + (j + 1) + 1 = i + 1 + j + 1 by omega] at this
      exact this
    refine ⟨ys, hd', ?_, by rw [show i + (v :: vs).length = i + 1 + vs.length by rw [List.length_cons]; omega]; exact h4⟩
    show (match sto v env hd with
      | none => R.bad
      | some env1 => match tst env1 hd with
        | .ok true h1 => match elt env1 h1 with
          | .ok y h2 => if acc.length < line then lcV sto tst elt env vs (acc ++ [y]) h2 else .bad
          | _ => .bad
        | .ok false h1 => lcV sto tst elt env vs acc h1
        | _ => .bad) = _
    rw [e1]
    dsimp only
    rw [e2]
    dsimp only
    rw [e3]
    dsimp only
    rw [if_pos (by omega)]
    exact e4
/-- a comprehension without a test, its items one by one, the heap as it is -/
theorem lcV_map {sto : D → Env → Hd → Option Env} {elt : Env → Hd → R D} {env : Env} {hd : Hd} {f : D → D} (vs : List D) (hl : vs.length ≤ line)
    (st : ∀ v ∈ vs, ∃ env1, sto v env hd = some env1 ∧ elt env1 hd = .ok (f v) hd) : lcV sto (fun _ hd => .ok true hd) elt env vs [] hd = .ok (vs.map f) hd := by
  obtain ⟨ys, hd', e, p⟩ := lcV_run (P := fun i acc h => h = hd ∧ acc = (vs.take i).map f) (sto := sto) (tst := fun _ hd => .ok true hd) (elt := elt) (env := env) vs 0 [] hd ⟨rfl, by simp⟩ (by simpa using hl) fun j v acc h q p => by
    obtain ⟨rfl, rfl⟩ := p
    obtain ⟨env1, e1, e2⟩ := st v (List.mem_of_getElem? q)
    refine ⟨env1, f v, _, e1, rfl, e2, rfl, ?_⟩
    rw [Nat.zero_add, List.take_add_one, q]
    simp
  obtain ⟨rfl, rfl⟩ := p
  rw [e]
  simp
/-! ### draws -/
theorem atI_nat {α : Type} {xs : List α} {r : Int} (h0 : 0 ≤ r) (h1 : r < xs.length) : ∃ v ∈ xs, atI xs r = some v := by
  have hr : r.toNat < xs.length := by omega
  refine ⟨xs[r.toNat], List.getElem_mem hr, ?_⟩
  unfold atI ixn
  rw [if_pos h0, if_pos h1]
  simp [hr]
theorem pick_str {k : Nat} {hd : Hd} {n : Nat} {z : List Nat} (st : St hd n) (h0 : z ≠ []) (h1 : z.length ≤ line) :
    ∃ c hd', callF T (k + 2) ("", "_law_pick") [.obj n, .str z] [] hd = .ok (.str [c]) hd' ∧ c ∈ z ∧ To n hd hd' := by
  have hz : 0 < z.length := List.length_pos_iff.mpr h0
  obtain ⟨r, hd', e, hr, t⟩ := take_ (k := k) (sz := z.length) st (by omega) (by unfold line at h1; omega)
  obtain ⟨c, hc, e2⟩ := atI_nat (xs := z) hr.1 hr.2
  refine ⟨c, hd', ?_, hc, t⟩
  rw [D_law_pick.c0]
  simp [D_law_pick.tree, len_str h1, e, ix_str h1 e2, fin_same t.len]
theorem pick_lst {k : Nat} {hd : Hd} {n : Nat} {xs : List D} (st : St hd n) (h0 : xs ≠ []) (h1 : xs.length ≤ line) :
    ∃ v hd', callF T (k + 2) ("", "_law_pick") [.obj n, .lst xs] [] hd = .ok v hd' ∧ v ∈ xs ∧ To n hd hd' := by
  have hz : 0 < xs.length := List.length_pos_iff.mpr h0
  obtain ⟨r, hd', e, hr, t⟩ := take_ (k := k) (sz := xs.length) st (by omega) (by unfold line at h1; omega)
  obtain ⟨c, hc, e2⟩ := atI_nat (xs := xs) hr.1 hr.2
  refine ⟨c, hd', ?_, hc, t⟩
  rw [D_law_pick.c0]
  simp [D_law_pick.tree, e, ix_items items_lst e2, fin_same t.len]
end Z
namespace Z
open PySem
def sg : List Nat := [35, 42, 43, 58, 61, 62, 124]
/-- all signs -/
def Sg (z : List Nat) : Prop := ∀ c ∈ z, c ∈ sg
theorem con_signs : T.con "SIGNS" = some (.str sg) := by rfl
theorem map_erase {α β : Type} (f : α → β) : ∀ (l : List α) (i : Nat), (l.map f).eraseIdx i = (l.eraseIdx i).map f
  | [], _ => by simp
  | a :: l, 0 => by simp
  | a :: l, i + 1 => by simp [map_erase f l i]
theorem palette_ {k : Nat} {hd : Hd} {n : Nat} {sz : Int} (ss : Ss hd) (st : St hd n) (h0 : 0 ≤ sz) (h1 : sz ≤ 7) :
    ∃ z hd', callF T (k + 2) ("", "_law_palette") [.obj n, .int sz] [] hd = .ok (.str z) hd' ∧ (z.length = sz.toNat ∧ Sg z) ∧ To n hd hd' := by
  have hl : sg.length ≤ line := by decide
  rw [D_law_palette.c0]
  have it : ∀ hd, iterS .range [.int sz] hd = some (.inl (rng sz.toNat)) := fun hd => it_rng (by omega) (by omega)
  have ls : ∀ hd, biS ⟨T, callF T (k + 1)⟩ true .list [.str sg] hd = .ok (.obj hd.length) (hd ++ [.lst (sg.map fun c => .str [c])]) := fun hd => by
    show (if sg.length ≤ line then mkL true (sg.map fun c => D.str [c]) hd else .bad) = _
    rw [if_pos hl]
    rfl
  obtain ⟨env', hd', e, p⟩ := forV_run (P := fun i env h => ∃ h1 rest z kk, h = h1 ++ [.lst (rest.map fun c => .str [c])] ∧ To n hd h1 ∧ env = [some (.obj n), some (.int sz), kk, some (.obj hd.length), some (.str z)] ∧ rest.length + i = 7 ∧ z.length = i ∧ Sg rest ∧ Sg z)
    (sto := storeS (.name 2)) (body := fun env hd => evS ⟨T, callF T (k + 1)⟩ D_law_palette.b0 env hd)
    (rng sz.toNat) 0 [some (.obj n), some (.int sz), none, some (.obj hd.length), some (.str [])] (hd ++ [.lst (sg.map fun c => .str [c])])
    ⟨hd, sg, [], none, rfl, .refl (ss.at_ st), rfl, rfl, rfl, fun c h => h, fun c h => by cases h⟩ fun j v env h q p => by
      obtain ⟨h1, rest, z, kk, rfl, t, rfl, l1, l2, s1, s2⟩ := p
      obtain ⟨hj, rfl⟩ := rng_get q
      have hr : 0 < rest.length := by omega
      have tl : h1.length = hd.length := t.len
      have a1 : lsAt (h1 ++ [.lst (rest.map fun c => .str [c])]) hd.length = some (rest.map fun c => D.str [c]) := by
        rw [← tl]
        exact at_end
      obtain ⟨r, h2, e1, hr2, t2⟩ := take_ (k := k) (hd := h1 ++ [.lst (rest.map fun c => .str [c])]) (n := n) (sz := (rest.length : Nat)) (t.st st.lt).more (by omega) (by omega)
      obtain ⟨h3, rfl, t3⟩ := t2.more (by rw [tl]; exact st.lt)
      have tl3 : h3.length = hd.length := by rw [t3.len, tl]
      have hrn : r.toNat < rest.length := by omega
      have a3 : lsAt (h3 ++ [.lst (rest.map fun c => .str [c])]) hd.length = some (rest.map fun c => D.str [c]) := by
        rw [← tl3]
        exact at_end
      have pp := pop_at (m := false) (j := r.toNat) (i := r) (v := .str [rest[r.toNat]]) a3 (by unfold ixn; rw [if_pos hr2.1, if_pos (by simpa using hr2.2)]) (by simp [hrn]) (by simp [line]; omega)
      rw [← tl3, set_end, map_erase, tl3] at pp
      have ad : binS false .Add (.str z) (.str [rest[r.toNat]]) (h3 ++ [.lst ((rest.eraseIdx r.toNat).map fun c => .str [c])]) = .ok (.str (z ++ [rest[r.toNat]])) (h3 ++ [.lst ((rest.eraseIdx r.toNat).map fun c => .str [c])]) := add_str (by simp [line]; omega)
      refine ⟨_, _, _, rfl, ?_, h3, rest.eraseIdx r.toNat, z ++ [rest[r.toNat]], some (.int j), rfl, t.trans t3, rfl, ?_, by simp; omega, fun c hc => s1 c (List.mem_of_mem_eraseIdx hc), fun c hc => ?_⟩
      · simp [D_law_palette.b0, a1, a3, e1, pp, ad, isLM]
      · rw [List.length_eraseIdx_of_lt hrn]
        omega
      · rcases List.mem_append.mp hc with hc | hc
        · exact s2 c hc
        · rw [List.mem_singleton.mp hc]
          exact s1 _ (List.getElem_mem hrn)
  obtain ⟨h1, rest, z, kk, rfl, t, rfl, l1, l2, s1, s2⟩ := p
  refine ⟨z, h1, ?_, ⟨by rw [l2, rng_len]; omega, s2⟩, t⟩
  have fl := fin_low (d := .str z) (tl := [.lst (rest.map fun c => .str [c])]) (ss.to t) rfl
  rw [t.len] at fl
  simp [D_law_palette.tree, show (D.str [35, 42, 43, 58, 61, 62, 124]) = .str sg from rfl, ls, it, setAll, store_names items_tup, e, fl, line]
end Z
namespace Z
open PySem
def lt : List Nat := [97, 98, 99, 100, 101, 102, 103, 104, 105, 106, 107, 108, 109, 110, 111, 112, 113, 114, 115, 116, 117, 118, 119, 120, 121, 122]
def dg : List Nat := [48, 49, 50, 51, 52, 53, 54, 55, 56, 57]
/-- a right name -/
def Nm (z : List Nat) : Prop := (1 ≤ z.length ∧ z.length ≤ 8) ∧ (∃ c, z[0]? = some c ∧ c ∈ lt) ∧ ∀ c ∈ z, c ∈ lt ++ dg
def words : List D := [.str [112, 101, 114, 115, 111, 110], .str [112, 114, 111, 103, 114, 97, 109], .str [97, 110, 115, 119, 101, 114], .str [98, 101, 103, 105, 110], .str [111, 110, 108, 121], .str [101, 108, 115, 101], .str [103, 111, 110, 101], .str [110, 111, 110, 101]]
theorem words_nm : ∀ d ∈ words, ∃ z, d = .str z ∧ Nm z := by
  intro d h
  simp only [words, List.mem_cons, List.not_mem_nil, or_false] at h
  rcases h with rfl | rfl | rfl | rfl | rfl | rfl | rfl | rfl <;> exact ⟨_, rfl, ⟨by decide, by decide⟩, ⟨_, rfl, by decide⟩, by decide⟩
theorem tag_ {k : Nat} {hd : Hd} {n : Nat} (st : St hd n) : ∃ z hd', callF T (k + 3) ("", "_law_tag") [.obj n] [] hd = .ok (.str z) hd' ∧ Nm z ∧ To n hd hd' := by
  have hn := st.lt
  rw [D_law_tag.c0]
  obtain ⟨r, h1, e1, hr, t1⟩ := take_ (k := k + 1) (sz := 7) st (by decide) (by decide)
  by_cases h0 : r = 0
  · subst h0
    obtain ⟨v, h2, e2, hv, t2⟩ := pick_lst (k := k) (xs := words) (t1.st hn) (by decide) (by decide)
    obtain ⟨z, rfl, hz⟩ := words_nm v hv
    refine ⟨z, h2, ?_, hz, t1.trans t2⟩
    simp [D_law_tag.tree, e1, line, show callF T (k + 2) ("", "_law_pick") [D.obj n, .lst [.str [112, 101, 114, 115, 111, 110], .str [112, 114, 111, 103, 114, 97, 109], .str [97, 110, 115, 119, 101, 114], .str [98, 101, 103, 105, 110], .str [111, 110, 108, 121], .str [101, 108, 115, 101], .str [103, 111, 110, 101], .str [110, 111, 110, 101]]] [] h1 = _ from e2, mkL, fin_same (t1.trans t2).len]
  · obtain ⟨c, h2, e2, hc, t2⟩ := pick_str (k := k) (z := lt) (t1.st hn) (by decide) (by decide)
    have t12 := t1.trans t2
    obtain ⟨s, h3, e3, hs, t3⟩ := take_ (k := k + 1) (sz := 8) (t12.st hn) (by decide) (by decide)
    have t13 := t12.trans t3
    obtain ⟨env', hd', e, p⟩ := forV_run (P := fun i env h => ∃ z kk, To n hd h ∧ env = [some (.obj n), some (.str lt), some (.str z), kk] ∧ z.length = 1 + i ∧ z[0]? = some c ∧ ∀ c ∈ z, c ∈ lt ++ dg)
      (sto := storeS (.name 3)) (body := fun env hd => evS ⟨T, callF T (k + 2)⟩ D_law_tag.b0 env hd) (rng s.toNat) 0 [some (.obj n), some (.str lt), some (.str [c]), none] h3
      ⟨[c], none, t13, rfl, rfl, rfl, fun x hx => by rw [List.mem_singleton.mp hx]; exact List.mem_append_left _ hc⟩ fun j v env h q p => by
        obtain ⟨z, kk, t, rfl, l, z0, al⟩ := p
        obtain ⟨hj, rfl⟩ := rng_get q
        obtain ⟨d, h4, e4, hd4, t4⟩ := pick_str (k := k) (z := lt ++ dg) (t.st hn) (by decide) (by decide)
        have a1 : binS false .Add (.str lt) (.str [48, 49, 50, 51, 52, 53, 54, 55, 56, 57]) h = .ok (.str (lt ++ dg)) h := add_str (by decide)
        have a2 : binS false .Add (.str z) (.str [d]) h4 = .ok (.str (z ++ [d])) h4 := add_str (by simp [line]; omega)
        refine ⟨_, _, _, rfl, ?_, z ++ [d], some (.int j), t.trans t4, rfl, by simp; omega, by rw [List.getElem?_append_left (by omega)]; exact z0, fun x hx => ?_⟩
        · simp [D_law_tag.b0, a1, a2, e4]
        · rcases List.mem_append.mp hx with hx | hx
          · exact al x hx
          · rw [List.mem_singleton.mp hx]
            exact hd4
    obtain ⟨z, kk, t, rfl, l, z0, al⟩ := p
    rw [rng_len] at l
    refine ⟨z, hd', ?_, ⟨by omega, ⟨c, z0, hc⟩, al⟩, t⟩
    simp [D_law_tag.tree, e1, h0, show (D.str [97, 98, 99, 100, 101, 102, 103, 104, 105, 106, 107, 108, 109, 110, 111, 112, 113, 114, 115, 116, 117, 118, 119, 120, 121, 122]) = .str lt from rfl, e2, e3, it_rng (n := s) (by omega) (by omega), e, fin_same t.len]
/-- a put -/
def pD : Option (List Nat) → D
  | none => .non
  | some z => .str z
def Pt (p : Option (List Nat)) : Prop := ∀ z, p = some z → z.length ≤ 3 ∧ ∀ c ∈ z, c ∈ sg ∨ c = 64
/-- of the signs of pal alone -/
def Wp (pal : List Nat) (p : Option (List Nat)) : Prop := ∀ z, p = some z → ∀ c ∈ z, c ∈ pal ∨ c = 64
theorem put_w {k : Nat} {hd : Hd} {n : Nat} {pal : List Nat} (st : St hd n) (hp : Sg pal) (hl : pal.length ≤ 7) : ∃ p hd', callF T (k + 3) ("", "_law_put") [.obj n, .str pal] [] hd = .ok (pD p) hd' ∧ (Pt p ∧ Wp pal p) ∧ To n hd hd' := by
  have hn := st.lt
  rw [D_law_put.c0]
  obtain ⟨r, h1, e1, hr, t1⟩ := take_ (k := k + 1) (sz := 8) st (by decide) (by decide)
  by_cases h2 : r < 2
  · refine ⟨if r = 0 then none else some [], h1, ?_, ⟨fun z hz => ?_, fun z hz => ?_⟩, t1⟩
    · by_cases h0 : r = 0
      · subst h0
        simp [D_law_put.tree, e1, fin_same t1.len, pD]
      · simp [D_law_put.tree, e1, h2, h0, fin_same t1.len, pD]
    · split at hz
      · cases hz
      · cases hz
        exact ⟨by decide, fun c h => by cases h⟩
    · split at hz
      · cases hz
      · cases hz
        exact fun c h => by cases h
  · obtain ⟨s, h3, e3, hs, t3⟩ := take_ (k := k + 1) (sz := 3) (t1.st hn) (by decide) (by decide)
    have t13 := t1.trans t3
    obtain ⟨env', hd', e, p⟩ := forV_run (P := fun i env h => ∃ z kk, To n hd h ∧ env = [some (.obj n), some (.str pal), some (.int r), some (.str z), kk] ∧ z.length = i ∧ ∀ c ∈ z, c ∈ pal ∨ c = 64)
      (sto := storeS (.name 4)) (body := fun env hd => evS ⟨T, callF T (k + 2)⟩ D_law_put.b0 env hd) (rng (1 + s).toNat) 0 [some (.obj n), some (.str pal), some (.int r), some (.str []), none] h3
      ⟨[], none, t13, rfl, rfl, fun x hx => by cases hx⟩ fun j v env h q p => by
        obtain ⟨z, kk, t, rfl, l, al⟩ := p
        obtain ⟨hj, rfl⟩ := rng_get q
        obtain ⟨d, h4, e4, hd4, t4⟩ := pick_str (k := k) (z := pal ++ [64]) (t.st hn) (by simp) (by simp [line]; omega)
        have a1 : binS false .Add (.str pal) (.str [64]) h = .ok (.str (pal ++ [64])) h := add_str (by simp [line]; omega)
        have a2 : binS false .Add (.str z) (.str [d]) h4 = .ok (.str (z ++ [d])) h4 := add_str (by simp [line]; omega)
        refine ⟨_, _, _, rfl, ?_, z ++ [d], some (.int j), t.trans t4, rfl, by simp; omega, fun x hx => ?_⟩
        · simp [D_law_put.b0, a1, a2, e4]
        · rcases List.mem_append.mp hx with hx | hx
          · exact al x hx
          · rw [List.mem_singleton.mp hx]
            rcases List.mem_append.mp hd4 with h | h
            · exact .inl h
            · exact .inr (List.mem_singleton.mp h)
    obtain ⟨z, kk, t, rfl, l, al⟩ := p
    rw [rng_len] at l
    refine ⟨some z, hd', ?_, ⟨fun y hy => by cases hy; exact ⟨by omega, fun c hc => (al c hc).imp (hp c) id⟩, fun y hy => by cases hy; exact al⟩, t⟩
    simp [D_law_put.tree, e1, h2, e3, it_rng (n := 1 + s) (by omega) (by omega), e, fin_same t.len, pD]
theorem put_ {k : Nat} {hd : Hd} {n : Nat} {pal : List Nat} (st : St hd n) (hp : Sg pal) (hl : pal.length ≤ 7) : ∃ p hd', callF T (k + 3) ("", "_law_put") [.obj n, .str pal] [] hd = .ok (pD p) hd' ∧ Pt p ∧ To n hd hd' :=
  let ⟨p, hd', e, h, t⟩ := put_w st hp hl
  ⟨p, hd', e, h.1, t⟩
end Z
namespace Z
open PySem
structure Cs where
  b : List Nat
  o : Bool
  p : Option (List Nat)
def csD (c : Cs) : D := .tup [.str c.b, .bl c.o, pD c.p]
/-- a case that is not the last -/
def Bg (c : Cs) : Prop := (Sg c.b ∧ c.b.length ≤ 2) ∧ (c.o = true → c.b.length ≤ 1) ∧ ¬(c.b = [] ∧ c.o = false) ∧ Pt c.p
/-- the cases of a program -/
structure Cz (cs : List Cs) : Prop where
  ex : ∃ (i : List Cs) (p : Option (List Nat)), cs = i ++ [⟨[], false, p⟩] ∧ (∀ c ∈ i, Bg c) ∧ Pt p ∧ i.length ≤ 4
theorem Cz.len {cs : List Cs} (h : Cz cs) : 1 ≤ cs.length ∧ cs.length ≤ 5 := by
  obtain ⟨i, p, rfl, _, _, l⟩ := h
  simp
  omega
theorem low_pD (N : Nat) (p : Option (List Nat)) : low N (pD p) = true := by
  cases p <;> rfl
theorem low_cs (N : Nat) (c : Cs) : low N (csD c) = true := by
  show (low N (.str c.b) && (low N (.bl c.o) && (low N (pD c.p) && true))) = true
  rw [low_pD]
  rfl
theorem lows_cs (N : Nat) : ∀ (cs : List Cs), low.lows N (cs.map csD) = true
  | [] => rfl
  | c :: cs => by
    show (low N (csD c) && low.lows N (cs.map csD)) = true
    rw [low_cs, lows_cs N cs]
    rfl
theorem stx_signs : ∀ (zs : List Nat), stx (zs.map fun c => D.str [c]) = some (zs.map fun c => [c])
  | [] => rfl
  | c :: zs => by
    show (stx (zs.map fun c => D.str [c])).map _ = _
    rw [stx_signs zs]
    rfl
theorem sum_ones : ∀ (zs : List Nat), ((zs.map fun c => [c]).map (·.length)).sum = zs.length
  | [] => rfl
  | c :: zs => by
    simp only [List.map_cons, List.sum_cons, List.length_cons, List.length_nil, sum_ones zs]
    omega
theorem join_none : ∀ (zs : List Nat), TL.joinL [] (zs.map fun c => [c]) = zs
  | [] => rfl
  | [c] => rfl
  | c :: d :: zs => by
    show [c] ++ ([] ++ TL.joinL [] ((d :: zs).map fun c => [c])) = _
    rw [join_none (d :: zs)]
    rfl
theorem join_signs {m : Bool} {zs : List Nat} {hd : Hd} (h : zs.length ≤ line) : mtS m .join (.str []) [.lst (zs.map fun c => .str [c])] hd = .ok (.str zs) hd := by
  unfold mtS mtA
  simp only [items_lst, Option.bind_some, stx_signs, sum_ones, join_none]
  rw [if_pos (by simpa using h)]
/-- of the signs of pal alone -/
def Wc (pal : List Nat) (c : Cs) : Prop := (∀ x ∈ c.b, x ∈ pal) ∧ Wp pal c.p
def Ww (pal : List Nat) (cs : List Cs) : Prop := ∀ c ∈ cs, Wc pal c
theorem steps_w {k : Nat} {hd : Hd} {n : Nat} {pal : List Nat} (ss : Ss hd) (hn : St hd n) (hp : Sg pal) (hl : 1 ≤ pal.length ∧ pal.length ≤ 7) :
    ∃ cs hd', callF T (k + 4) ("", "_law_steps") [.obj n, .str pal] [] hd = .ok (.tup (cs.map csD)) hd' ∧ (Cz cs ∧ Ww pal cs) ∧ To n hd hd' := by
  have st := ss.at_ hn
  rw [D_law_steps.c0]
  have stm : St (hd ++ [.lst []]) n := st.more
  obtain ⟨r, h1', e1, hr, t1'⟩ := take_ (k := k + 2) (sz := 5) stm (by decide) (by decide)
  obtain ⟨h1, rfl, t1⟩ := t1'.more hn.lt
  obtain ⟨env', hd', e, p⟩ := forV_run (P := fun i env h => ∃ h1 cs k3 k4 k5 k6, h = h1 ++ [.lst (cs.map csD)] ∧ To n hd h1 ∧ env = [some (.obj n), some (.str pal), some (.obj hd.length), k3, k4, k5, k6] ∧ cs.length = i ∧ ∀ c ∈ cs, Bg c ∧ Wc pal c)
    (sto := storeS (.name 3)) (body := fun env hd => evS ⟨T, callF T (k + 3)⟩ D_law_steps.b0 env hd) (rng r.toNat) 0 [some (.obj n), some (.str pal), some (.obj hd.length), none, none, none, none] (h1 ++ [.lst []])
    ⟨h1, [], none, none, none, none, rfl, t1, rfl, rfl, fun x hx => by cases hx⟩ fun j v env h q p => by
      obtain ⟨ha, cs, k3, k4, k5, k6, rfl, t, rfl, l, al⟩ := p
      obtain ⟨hj, rfl⟩ := rng_get q
      have la : ha.length = hd.length := t.len
      obtain ⟨s, h2', e2, hs, t2'⟩ := take_ (k := k + 2) (sz := 3) (St.more (x := .lst (cs.map csD)) (t.st hn.lt)) (by decide) (by decide)
      obtain ⟨h2, rfl, t2⟩ := t2'.more (by rw [la]; exact hn.lt)
      have T2 := t.trans t2
      -- the begin
      obtain ⟨ys, h3', e3, p3⟩ := lcV_run (P := fun i acc h => ∃ h3 zs, h = h3 ++ [.lst (cs.map csD)] ∧ To n hd h3 ∧ acc = (zs.map fun c => D.str [c]) ∧ zs.length = i ∧ ∀ c ∈ zs, c ∈ pal)
        (sto := storeS (.name 6)) (tst := fun _ hd => .ok true hd) (elt := fun env hd => evE ⟨T, callF T (k + 3)⟩ D_law_steps.e0 env hd) (env := [some (.obj n), some (.str pal), some (.obj hd.length), some (.int j), k4, k5, none])
        (rng s.toNat) 0 [] (h2 ++ [.lst (cs.map csD)]) ⟨h2, [], rfl, T2, rfl, rfl, fun x hx => by cases hx⟩ (by rw [rng_len]; simp [line]; omega) fun j v acc h q p => by
          obtain ⟨h3, zs, rfl, t3, rfl, l3, a3⟩ := p
          obtain ⟨hj, rfl⟩ := rng_get q
          obtain ⟨d, h4', e4, hd4, t4'⟩ := pick_str (k := k + 1) (z := pal) (St.more (x := .lst (cs.map csD)) (t3.st hn.lt)) (by intro z; rw [z] at hl; simp at hl) (by simp [line]; omega)
          obtain ⟨h4, rfl, t4⟩ := t4'.more (by rw [t3.len]; exact hn.lt)
          refine ⟨_, .str [d], _, rfl, rfl, ?_, h4, zs ++ [d], rfl, t3.trans t4, by simp, by simp; omega, fun x hx => ?_⟩
          · simp [D_law_steps.e0, e4]
          · rcases List.mem_append.mp hx with hx | hx
            · exact a3 x hx
            · rw [List.mem_singleton.mp hx]
              exact hd4
      obtain ⟨h3, zs, rfl, t3, rfl, l3, a3⟩ := p3
      rw [rng_len] at l3
      have hz2 : zs.length ≤ 2 := by omega
      have sz : Sg zs := fun c hc => hp c (a3 c hc)
      have ej := join_signs (m := false) (zs := zs) (hd := h3 ++ [.lst (cs.map csD)]) (by simp [line]; omega)
      -- only
      have only : ∃ o h4, evE ⟨T, callF T (k + 3)⟩ (.or (.cmp .Eq (.var 4) (.con (.str []))) (.and (.cmp .Eq (.bi false .len (.cons (.var 4) .nil)) (.con (.int 1))) (.cmp .Eq (.fn "_law_take" (.cons (.var 0) (.cons (.con (.int 2)) .nil)) [] .nil) (.con (.int 0)))))
          [some (.obj n), some (.str pal), some (.obj hd.length), some (.int j), some (.str zs), k5, k6] (h3 ++ [.lst (cs.map csD)]) = .ok (.bl o) (h4 ++ [.lst (cs.map csD)]) ∧ To n hd h4 ∧ (o = true → zs.length ≤ 1) ∧ ¬ (zs = [] ∧ o = false) := by
        by_cases z0 : zs = []
        · subst z0
          exact ⟨true, h3, by simp, t3, fun _ => (by decide), fun h => (by cases h.2)⟩
        · by_cases z1 : zs.length = 1
          · obtain ⟨u, h4', e4, hu, t4'⟩ := take_ (k := k + 2) (sz := 2) (St.more (x := .lst (cs.map csD)) (t3.st hn.lt)) (by decide) (by decide)
            obtain ⟨h4, rfl, t4⟩ := t4'.more (by rw [t3.len]; exact hn.lt)
            refine ⟨decide (u = 0), h4, ?_, t3.trans t4, fun _ => (by omega), fun h => z0 h.1⟩
            simp [z0, z1, len_str (show zs.length ≤ line by simp [line]; omega), e4]
          · refine ⟨false, h3, ?_, t3, fun h => (by cases h), fun h => z0 h.1⟩
            have : ¬ ((zs.length : Int) = 1) := by omega
            simp [z0, z1, this, len_str (show zs.length ≤ line by simp [line]; omega)]
      obtain ⟨o, h4, e4, t4, o1, o2⟩ := only
      obtain ⟨pt, h5', e5, hpt, t5'⟩ := put_w (k := k) (pal := pal) (St.more (x := .lst (cs.map csD)) (t4.st hn.lt)) hp hl.2
      obtain ⟨h5, rfl, t5⟩ := t5'.more (by rw [t4.len]; exact hn.lt)
      have l5 : h5.length = hd.length := (t4.trans t5).len
      have ap := append_at (m := false) (hd := h5 ++ [.lst (cs.map csD)]) (n := hd.length) (y := .tup [.str zs, .bl o, pD pt]) (by rw [← l5]; exact at_end) (by simp [line]; omega)
      rw [← l5, set_end, l5, show cs.map csD ++ [.tup [.str zs, .bl o, pD pt]] = (cs ++ [(⟨zs, o, pt⟩ : Cs)]).map csD by simp [csD]] at ap
      have a4 : lsAt (h4 ++ [.lst (cs.map csD)]) hd.length = some (cs.map csD) := by
        rw [← t4.len]
        exact at_end
      refine ⟨_, _, h5 ++ [.lst ((cs ++ [(⟨zs, o, pt⟩ : Cs)]).map csD)], rfl, ?_, h5, cs ++ [⟨zs, o, pt⟩], some (.int j), some (.str zs), some (.bl o), k6, rfl, t4.trans t5, rfl, by simp; omega, fun c hc => ?_⟩
      · rw [D_law_steps.b0]
        simp only [evS_seq, evS_set, evE_mt, evE_con, R.bind_ok, ty_join, if_true, evEs_more, evE_lc, evE_fn, evE_var, evEs_nil]
        simp [e2, it_rng (n := s) (by omega) (by omega), wipe, e3, mkL, ej, e4, a4, e5, line, ap, -List.map_append, -evE_or]
      · rcases List.mem_append.mp hc with hc | hc
        · exact al c hc
        · rw [List.mem_singleton.mp hc]
          exact ⟨⟨⟨sz, hz2⟩, o1, o2, hpt.1⟩, a3, hpt.2⟩
  obtain ⟨ha, cs, k3, k4, k5, k6, rfl, t, rfl, l, al⟩ := p
  rw [rng_len] at l
  have la : ha.length = hd.length := t.len
  obtain ⟨pt, h5', e5, hpt, t5'⟩ := put_w (k := k) (pal := pal) (St.more (x := .lst (cs.map csD)) (t.st hn.lt)) hp hl.2
  obtain ⟨h5, rfl, t5⟩ := t5'.more (by rw [la]; exact hn.lt)
  have T5 := t.trans t5
  refine ⟨cs ++ [⟨[], false, pt⟩], h5, ?_, ⟨⟨cs, pt, rfl, fun c hc => (al c hc).1, hpt.1, by omega⟩, fun c hc => ?_⟩, T5⟩
  rotate_left
  · rcases List.mem_append.mp hc with hc | hc
    · exact (al c hc).2
    · rw [List.mem_singleton.mp hc]
      exact ⟨fun x hx => (by cases hx), hpt.2⟩
  have a1 : lsAt (ha ++ [.lst (cs.map csD)]) hd.length = some (cs.map csD) := by
    rw [← la]
    exact at_end
  have at_ : binS false .Add (.tup (cs.map csD)) (.tup [.tup [.str [], .bl false, pD pt]]) (h5 ++ [.lst (cs.map csD)]) = .ok (.tup ((cs ++ [(⟨[], false, pt⟩ : Cs)]).map csD)) (h5 ++ [.lst (cs.map csD)]) := by
    rw [add_tup (by simp [line]; omega)]
    simp [csD]
  have tu : ∀ h, biS ⟨T, callF T (k + 3)⟩ false .tuple [.obj hd.length] h = match lsAt h hd.length with
    | some xs => .ok (.tup xs) h
    | none => .bad := fun h => rfl
  have fl := fin_low (d := .tup ((cs ++ [(⟨[], false, pt⟩ : Cs)]).map csD)) (tl := [.lst (cs.map csD)]) (ss.to T5) (show low.lows _ _ = true from lows_cs _ _)
  rw [T5.len] at fl
  rw [D_law_steps.tree]
  simp only [evS_seq, evS_set, evE_lst, evEs_nil, R.bind_ok]
  simp [line, mkL, e1, it_rng (n := r) (by omega) (by omega), e, tu, a1, e5, at_]
  simpa using fl
theorem steps_ {k : Nat} {hd : Hd} {n : Nat} {pal : List Nat} (ss : Ss hd) (hn : St hd n) (hp : Sg pal) (hl : 1 ≤ pal.length ∧ pal.length ≤ 7) :
    ∃ cs hd', callF T (k + 4) ("", "_law_steps") [.obj n, .str pal] [] hd = .ok (.tup (cs.map csD)) hd' ∧ Cz cs ∧ To n hd hd' :=
  let ⟨cs, hd', e, h, t⟩ := steps_w ss hn hp hl
  ⟨cs, hd', e, h.1, t⟩
end Z
namespace Z
open PySem
theorem lcV_maps {α : Type} {item f : α → D} {sto : D → Env → Hd → Option Env} {elt : Env → Hd → R D} {env : Env} {hd : Hd} (l : List α) (hl : l.length ≤ line)
    (st : ∀ a ∈ l, ∃ env1, sto (item a) env hd = some env1 ∧ elt env1 hd = .ok (f a) hd) : lcV sto (fun _ hd => .ok true hd) elt env (l.map item) [] hd = .ok (l.map f) hd := by
  obtain ⟨ys, hd', e, p⟩ := lcV_run (P := fun i acc h => h = hd ∧ acc = (l.take i).map f) (sto := sto) (tst := fun _ hd => .ok true hd) (elt := elt) (env := env) (l.map item) 0 [] hd ⟨rfl, by simp⟩ (by simpa using hl) fun j v acc h q p => by
    obtain ⟨rfl, rfl⟩ := p
    rw [List.getElem?_map] at q
    obtain ⟨a, qa, rfl⟩ := Option.map_eq_some_iff.mp q
    obtain ⟨env1, e1, e2⟩ := st a (List.mem_of_getElem? qa)
    refine ⟨env1, f a, _, e1, rfl, e2, rfl, ?_⟩
    rw [Nat.zero_add, List.take_add_one, qa]
    simp
  obtain ⟨rfl, rfl⟩ := p
  rw [e]
  simp
theorem bls_map_ {α : Type} {p : α → Bool} : ∀ (l : List α), bls (l.map fun a => D.bl (p a)) = some (l.map p)
  | [] => rfl
  | a :: l => by
    show (bls (l.map fun a => D.bl (p a))).map _ = _
    rw [bls_map_ l]
    rfl
theorem all_bls {α : Type} {p : α → Bool} {g : G} {m : Bool} {hd : Hd} (l : List α) : biS g m .all [.lst (l.map fun a => .bl (p a))] hd = .ok (.bl (l.all p)) hd := by
  unfold biS biS1
  simp only [items_lst, Option.bind_some, bls_map_, isTup, if_true]
  simp [List.all_map]
theorem isi_str {g : G} {hd : Hd} {z : List Nat} : isiS g false "str" (.str z) hd = some true := by simp [isiS, tyD]
theorem isi_tup {g : G} {hd : Hd} {z : List D} : isiS g false "tuple" (.tup z) hd = some true := by simp [isiS, tyD]
theorem isi_bl {g : G} {hd : Hd} {z : Bool} : isiS g false "bool" (.bl z) hd = some true := by simp [isiS, tyD]
theorem con_letters : T.con "_LETTERS" = some (.str lt) := by rfl
theorem con_both : T.con "_LETTERS_AND_DIGITS" = some (.str (lt ++ dg)) := by rfl
theorem con_name : T.con "_LONGEST_NAME" = some (.int 8) := by rfl
theorem con_begin : T.con "_LONGEST_BEGIN" = some (.int 2) := by rfl
theorem con_only : T.con "_LONGEST_ONLY_BEGIN" = some (.int 1) := by rfl
theorem con_put : T.con "_LONGEST_PUT" = some (.int 3) := by rfl
theorem con_cases : T.con "MOST_CASES" = some (.int 5) := by rfl
theorem con_gone : T.con "_GONE" = some (.str [103, 111, 110, 101]) := by rfl
theorem con_none : T.con "_NOTHING" = some (.str [110, 111, 110, 101]) := by rfl
theorem it_str {z : List Nat} {hd : Hd} (h : z.length ≤ line) : iterS .plain [.str z] hd = some (.inl (z.map fun c => .str [c])) := if_pos h
theorem is_marks_ {k : Nat} {hd : Hd} {z : List Nat} (h : z.length ≤ line) : callF T (k + 1) ("", "is_marks") [.str z] [] hd = .ok (.bl (z.all fun c => decide (c ∈ sg))) hd := by
  rw [Dis_marks.c0]
  have e : ((stpL sg z) == ([] : List Nat)) = (z.all fun c => decide (c ∈ sg)) := by
    cases q : (z.all fun c => decide (c ∈ sg)) with
    | true => rw [stp_nil.mpr q]; rfl
    | false =>
      have : stpL sg z ≠ [] := fun w => by
        rw [stp_nil.mp w] at q
        cases q
      simpa using this
  have m : mtS false .strip (.str z) [.str sg] hd = .ok (.str (stpL sg z)) hd := by
    show (if z.length ≤ line then _ else _) = _
    rw [if_pos h]
  simp [Dis_marks.tree, isi_str, con_signs, m, fin_same]
  rw [← e]
  cases stpL sg z <;> rfl
theorem is_name_ {k : Nat} {hd : Hd} {z : List Nat} (h : Nm z) : callF T (k + 1) ("", "is_name") [.str z] [] hd = .ok (.bl true) hd := by
  obtain ⟨⟨l1, l2⟩, ⟨c, z0, hc⟩, al⟩ := h
  have hz : z.length ≤ line := by simp [line]; omega
  rw [Dis_name.c0]
  have e := lcV_maps (item := fun c => D.str [c]) (f := fun c => D.bl (decide (c ∈ lt ++ dg))) (sto := storeS (.name 1)) (elt := fun env hd => evE ⟨T, callF T k⟩ Dis_name.e0 env hd) (env := [some (.str z), none]) (hd := hd) z hz fun c hc => ⟨_, rfl, by simp only [Dis_name.e0, evE_cmp, evE_var, evE_glo, con_both, List.set_cons_succ, List.set_cons_zero, List.getElem?_cons_succ, List.getElem?_cons_zero, R.bind_ok, in_str, R.st_ok]⟩
  have a0 : atI z 0 = some c := by
    unfold atI ixn
    rw [if_pos (by decide), if_pos (by omega)]
    exact z0
  have all_ : (z.all fun c => decide (c ∈ lt ++ dg)) = true := by
    rw [List.all_eq_true]
    intro x hx
    exact decide_eq_true (al x hx)
  have c1 : decide ((1 : Int) ≤ (z.length : Int)) = true := decide_eq_true (by omega)
  have c2 : decide ((z.length : Int) ≤ 8) = true := decide_eq_true (by omega)
  have cx : decide (c ∈ lt) = true := decide_eq_true hc
  have ab := all_bls (g := ⟨T, callF T k⟩) (m := false) (hd := hd) (p := fun c => decide (c ∈ lt ++ dg)) z
  rw [all_] at ab
  simp only [Dis_name.tree, evS_seq, evS_ifs, evE_or, evE_not, evE_isi, evE_var, List.getElem?_cons_zero, R.bind_ok, isi_str, R.of_some, truthR_ok, truth_bl, Bool.not_true, Bool.false_eq_true, if_false, evE_cmp2, evE_con, evE_bi, evEs_more, evEs_nil, ne_eq, reduceCtorEq, not_false_eq_true, implies_true, len_str hz, R.st_ok, le_int, c1, c2, evE_glo, con_name, if_true, R.to_ok, evS_skip, O.then_nx, evS_ret, evE_and, evE_ix, ix_str hz a0, con_letters, evE_cmp, in_str, cx, evE_lc, it_str hz, wipe, List.set_cons_succ, List.set_cons_zero, evAll_nil, e, mkL, ab, O.then_rt, fin_same]
theorem is_put_ {k : Nat} {hd : Hd} {p : Option (List Nat)} (h : Pt p) : callF T (k + 2) ("", "_is_put") [pD p] [] hd = .ok (.bl true) hd := by
  rw [D_is_put.c0]
  cases p with
  | none => simp [D_is_put.tree, pD, isNon, fin_same]
  | some z =>
    obtain ⟨l, al⟩ := h z rfl
    have hz : z.length ≤ line := by simp [line]; omega
    have hm := is_marks_ (k := k) (hd := hd) (z := z.filter (· != 64)) (Nat.le_trans (List.length_filter_le _ _) hz)
    have all_ : ((z.filter (· != 64)).all fun c => decide (c ∈ sg)) = true := by
      rw [List.all_eq_true]
      intro x hx
      obtain ⟨h1, h2⟩ := List.mem_filter.mp hx
      rcases al x h1 with h | h
      · exact decide_eq_true h
      · rw [h] at h2
        cases h2
    rw [all_] at hm
    have c3 : decide ((z.length : Int) ≤ 3) = true := decide_eq_true (by omega)
    simp [D_is_put.tree, pD, isNon, repS, isi_str, hz, con_put, c3, show z.length ≤ 1000000 by omega, hm, fin_same]
    simp [show (z.length : Int) ≤ 3 by omega, show z.length ≤ 1000000 by omega, hm, fin_same]
end Z
namespace Z
open PySem
theorem ne_int {g : G} {a b : Int} {hd : Hd} : cmpS g .NotEq (.int a) (.int b) hd = .ok (.bl (!decide (a = b))) hd := by
  unfold cmpS
  try (unfold eqS2; try dsimp only)
  unfold eqS
  dsimp only
  rw [eqd_int]
  rfl
/-- one case, wherever it stands -/
def Ok1 (c : Cs) : Prop := (Sg c.b ∧ c.b.length ≤ 2) ∧ (c.o = true → c.b.length ≤ 1) ∧ Pt c.p
theorem Cz.at_ {cs : List Cs} (h : Cz cs) {j : Nat} {c : Cs} (q : cs[j]? = some c) : Ok1 c ∧ (decide (c.b = []) && !c.o) = decide (j = cs.length - 1) := by
  obtain ⟨i, p, rfl, al, hp, l⟩ := h
  rw [List.length_append, List.length_singleton, Nat.add_sub_cancel]
  by_cases hj : j < i.length
  · rw [List.getElem?_append_left hj] at q
    obtain ⟨a1, a2, a3, a4⟩ := al c (List.mem_of_getElem? q)
    refine ⟨⟨a1, a2, a4⟩, ?_⟩
    rw [decide_eq_false (by omega : ¬ j = i.length)]
    cases hb : decide (c.b = []) with
    | false => rfl
    | true =>
      cases ho : c.o with
      | true => rfl
      | false => exact absurd ⟨of_decide_eq_true hb, ho⟩ a3
  · rw [List.getElem?_append_right (by omega)] at q
    have hj2 : j - i.length = 0 := by
      have := (List.getElem?_eq_some_iff.mp q).1
      simp at this
      omega
    rw [hj2] at q
    cases q
    refine ⟨⟨⟨fun c h => (by cases h), Nat.zero_le _⟩, fun h => (by cases h), hp⟩, ?_⟩
    rw [decide_eq_true (by omega : j = i.length)]
    rfl
theorem is_begin_ {k : Nat} {hd : Hd} {c : Cs} (h : Ok1 c) : callF T (k + 2) ("", "_is_begin") [.str c.b, .bl c.o] [] hd = .ok (.bl true) hd := by
  obtain ⟨⟨s, l⟩, lo, _⟩ := h
  have hz : c.b.length ≤ line := by simp [line]; omega
  have hm := is_marks_ (k := k) (hd := hd) hz
  rw [show (c.b.all fun c => decide (c ∈ sg)) = true from List.all_eq_true.mpr fun x hx => decide_eq_true (s x hx)] at hm
  rw [D_is_begin.c0]
  cases ho : c.o with
  | true =>
    have := lo ho
    simp [D_is_begin.tree, con_only, hm, len_str hz, fin_same, show ((c.b.length : Int) ≤ 1) by omega]
  | false => simp [D_is_begin.tree, con_begin, hm, len_str hz, fin_same, show ((c.b.length : Int) ≤ 2) by omega]
theorem is_case_ {k : Nat} {hd : Hd} {c : Cs} (h : Ok1 c) : callF T (k + 3) ("", "_is_case") [csD c] [] hd = .ok (.bl true) hd := by
  have h1 := is_begin_ (k := k) (hd := hd) h
  have h2 := is_put_ (k := k) (hd := hd) h.2.2
  rw [D_is_case.c0]
  unfold csD
  simp [D_is_case.tree, isi_tup, isi_bl, ne_int, store_names items_tup, setAll, h1, h2, fin_same]
theorem is_else_ {k : Nat} {hd : Hd} {c : Cs} : callF T (k + 1) ("", "_is_else") [csD c] [] hd = .ok (.bl (decide (c.b = []) && !c.o)) hd := by
  rw [D_is_else.c0]
  unfold csD
  cases hb : decide (c.b = []) <;> cases ho : c.o <;> simp [D_is_else.tree, store_names items_tup, setAll, hb, fin_same]
/-- what enumerate walks -/
def enL (us : List D) : List D := ((((List.range us.length).map fun (i : Nat) => D.int (i : Int))).zip us).map fun p => .tup [p.1, p.2]
theorem enL_get {us : List D} {j : Nat} {v : D} (q : (enL us)[j]? = some v) : ∃ u, us[j]? = some u ∧ v = .tup [.int j, u] := by
  unfold enL at q
  rw [List.getElem?_map] at q
  obtain ⟨p, qz, rfl⟩ := Option.map_eq_some_iff.mp q
  obtain ⟨q1, q2⟩ := List.getElem?_zip_eq_some.mp qz
  refine ⟨p.2, q2, ?_⟩
  rw [List.getElem?_map] at q1
  obtain ⟨i, q1, e⟩ := Option.map_eq_some_iff.mp q1
  have := List.getElem?_range (n := us.length) (i := j)
  have hj := (List.getElem?_eq_some_iff.mp q1).1
  simp at hj
  rw [List.getElem?_range hj] at q1
  cases q1
  rw [← e]
theorem it_enum {us : List D} {hd : Hd} : iterS .enum [.tup us] hd = some (.inl (enL us)) := rfl
theorem first_wrong_ {k : Nat} {hd : Hd} {cs : List Cs} (h : Cz cs) : callF T (k + 4) ("", "_first_wrong") [.tup (cs.map csD)] [] hd = .ok .non hd := by
  have hl := h.len
  rw [D_first_wrong.c0]
  obtain ⟨env', hd', e, p⟩ := forV_run (P := fun i env h => h = hd ∧ ∃ k2 k3, env = [some (.tup (cs.map csD)), some (.int ((cs.length : Int) - 1)), k2, k3])
    (sto := storeS (.names [2, 3])) (body := fun env hd => evS ⟨T, callF T (k + 3)⟩ D_first_wrong.b0 env hd) (enL (cs.map csD)) 0 [some (.tup (cs.map csD)), some (.int ((cs.length : Int) - 1)), none, none] hd
    ⟨rfl, none, none, rfl⟩ fun j v env hx q p => by
      obtain ⟨rfl, k2, k3, rfl⟩ := p
      obtain ⟨u, q1, rfl⟩ := enL_get q
      rw [List.getElem?_map] at q1
      obtain ⟨c, q2, rfl⟩ := Option.map_eq_some_iff.mp q1
      obtain ⟨o1, o2⟩ := h.at_ q2
      have hj : j < cs.length := (List.getElem?_eq_some_iff.mp q2).1
      have e1 := is_case_ (k := k) (hd := hx) o1
      have e2 := is_else_ (k := k + 2) (hd := hx) (c := c)
      rw [o2] at e2
      have e3 : decide ((j : Int) = (cs.length : Int) - 1) = decide (j = cs.length - 1) := decide_eq_decide.mpr (by omega)
      refine ⟨_, _, _, store_names items_tup rfl, ?_, rfl, some (.int j), some (csD c), rfl⟩
      simp [D_first_wrong.b0, setAll, con_cases, e1, e2, e3, show ¬ ((5 : Int) ≤ (j : Int)) by omega]
  obtain ⟨rfl, k2, k3, rfl⟩ := p
  simp [D_first_wrong.tree, it_enum, e, fin_same]
/-- a program as it is made -/
def prD (z : List Nat) (cs : List Cs) : D := .ins "Program" [("_name", .str z), ("_cases", .tup (cs.map csD))]
theorem cl_prog : T.cl "Program" = some { own := [("__init__", .meth), ("read", .cls), ("name", .prop), ("cases", .prop), ("treat", .meth), ("taken", .meth), ("__eq__", .meth), ("__str__", .meth), ("__repr__", .meth)], flds := ["_name", "_cases"], kept := false } := by rfl
theorem init_body {k : Nat} {hd : Hd} {z : List Nat} {cs : List Cs} (hz : Nm z) (hc : Cz cs) : evS ⟨T, callF T (k + 4)⟩ DProgram_u_init_u.tree [some (.obj hd.length), some (.str z), some (.tup (cs.map csD)), none] (hd ++ [.ins "Program" []]) =
    .nx [some (.obj hd.length), some (.str z), some (.tup (cs.map csD)), some .non] (hd ++ [.ins "Program" [("_name", .str z), ("_cases", .tup (cs.map csD))]]) := by
  have e1 := is_name_ (k := k + 3) (hd := hd ++ [.ins "Program" []]) hz
  have e2 := first_wrong_ (k := k) (hd := hd ++ [.ins "Program" []]) hc
  have hl := hc.len
  have n0 : ¬ cs = [] := fun h => by rw [h] at hl; simp at hl
  have nz : ¬ ((cs.length : Int) = 0) := by omega
  have s1 : setaS ⟨T, callF T (k + 4)⟩ (.obj hd.length) "_name" (.str z) (hd ++ [.ins "Program" []]) = some (hd ++ [.ins "Program" [("_name", .str z)]]) := by
    unfold setaS
    dsimp only
    rw [show (hd ++ [MO.ins "Program" []])[hd.length]? = some (.ins "Program" []) by simp]
    dsimp only
    rw [cl_prog]
    dsimp only
    rw [if_pos ⟨by decide, by decide, by decide⟩, set_end]
    rfl
  have s2 : setaS ⟨T, callF T (k + 4)⟩ (.obj hd.length) "_cases" (.tup (cs.map csD)) (hd ++ [.ins "Program" [("_name", .str z)]]) = some (hd ++ [.ins "Program" [("_name", .str z), ("_cases", .tup (cs.map csD))]]) := by
    unfold setaS
    dsimp only
    rw [show (hd ++ [MO.ins "Program" [("_name", .str z)]])[hd.length]? = some (.ins "Program" [("_name", .str z)]) by simp]
    dsimp only
    rw [cl_prog]
    dsimp only
    rw [if_pos ⟨by decide, by decide, by simp⟩, set_end]
    rfl
  simp [DProgram_u_init_u.tree, e1, isi_tup, nz, n0, e2, isNon, s1, s2]
theorem new_end {k : Nat} {hd : Hd} {z : List Nat} {cs : List Cs} {xs : List D} {ks : List (String × D)} (e : callF T k ("Program", "__init__") (.obj hd.length :: xs) ks (hd ++ [.ins "Program" []]) = .ok .non (hd ++ [.ins "Program" [("_name", .str z), ("_cases", .tup (cs.map csD))]])) (ss : Ss hd) :
    newS ⟨T, callF T k⟩ "Program" xs ks hd = .ok (prD z cs) hd := by
  unfold newS
  dsimp only
  rw [e]
  dsimp only
  rw [cl_prog, show (hd ++ [MO.ins "Program" [("_name", .str z), ("_cases", .tup (cs.map csD))]])[hd.length]? = some (.ins "Program" [("_name", .str z), ("_cases", .tup (cs.map csD))]) by simp]
  dsimp only
  rw [if_pos ⟨by simp, rfl⟩]
  have tk : (hd ++ [MO.ins "Program" [("_name", .str z), ("_cases", .tup (cs.map csD))]]).take hd.length = hd := by simp
  rw [if_neg (by decide), tk, if_pos ⟨by
    show (true && (low hd.length (.tup (cs.map csD)) && true)) = true
    rw [show low hd.length (.tup (cs.map csD)) = true from lows_cs _ _]
    rfl, ss.low _⟩]
  rfl
theorem new_ {k : Nat} {hd : Hd} {z : List Nat} {cs : List Cs} (hz : Nm z) (hc : Cz cs) (ss : Ss hd) : newS ⟨T, callF T (k + 5)⟩ "Program" [.str z, .tup (cs.map csD)] [] hd = .ok (prD z cs) hd := by
  refine new_end ?_ ss
  rw [DProgram_u_init_u.c0, init_body hz hc]
  show (if false = true ∨ (hd ++ [MO.ins "Program" [("_name", .str z), ("_cases", .tup (cs.map csD))]]).length = (hd ++ [MO.ins "Program" []]).length then R.ok D.non _ else _) = _
  rw [if_pos (.inr (by simp))]
end Z
namespace Z
open PySem
theorem Cs.ext' {a b : Cs} (h1 : a.b = b.b) (h2 : a.o = b.o) (h3 : a.p = b.p) : a = b := by
  cases a
  cases b
  cases h1
  cases h2
  cases h3
  rfl
instance : DecidableEq Cs := fun a b =>
  if h : a.b = b.b ∧ a.o = b.o ∧ a.p = b.p then isTrue (Cs.ext' h.1 h.2.1 h.2.2) else isFalse fun e => h (by rw [e]; exact ⟨rfl, rfl, rfl⟩)
def pP : Option (List Nat) → PyData
  | none => .none
  | some z => .str ⟨z.toArray⟩
def csP (c : Cs) : PyData := .tuple [.str ⟨c.b.toArray⟩, .bool c.o, pP c.p]
theorem toP_pD (p : Option (List Nat)) : toP (pD p) = some (pP p) := by cases p <;> rfl
theorem toP_cs (c : Cs) : toP (csD c) = some (csP c) := by
  show (toPs [.str c.b, .bl c.o, pD c.p]).map PyData.tuple = _
  simp only [toPs, toP, toP_pD]
  rfl
theorem toPs_cs : ∀ (cs : List Cs), toPs (cs.map csD) = some (cs.map csP)
  | [] => rfl
  | c :: cs => by
    simp only [List.map_cons, toPs, toP_cs, toPs_cs cs]
theorem eqv_str (a b : List Nat) : PyData.eqv (.str ⟨a.toArray⟩) (.str ⟨b.toArray⟩) = decide (a = b) := by
  by_cases e : a = b
  · subst e
    simp [PyData.eqv]
  · have n : ¬ ((⟨a.toArray⟩ : PySem.Str) = ⟨b.toArray⟩) := fun q => e (txt_inj.mp q)
    simp [PyData.eqv, e]
theorem eqv_pP (a b : Option (List Nat)) : PyData.eqv (pP a) (pP b) = decide (a = b) := by
  cases a with
  | none => cases b <;> simp [pP, PyData.eqv]
  | some a => cases b with
    | none => simp [pP, PyData.eqv]
    | some b =>
      show PyData.eqv (.str ⟨a.toArray⟩) (.str ⟨b.toArray⟩) = _
      rw [eqv_str]
      simp
theorem eqv_cs (a b : Cs) : PyData.eqv (csP a) (csP b) = decide (a = b) := by
  show (PyData.eqv (.str ⟨a.b.toArray⟩) (.str ⟨b.b.toArray⟩) && (PyData.eqv (.bool a.o) (.bool b.o) && (PyData.eqv (pP a.p) (pP b.p) && true))) = _
  rw [eqv_str, eqv_pP]
  by_cases h : a = b
  · subst h
    simp [PyData.eqv]
  · rw [decide_eq_false h]
    by_cases h1 : a.b = b.b
    · by_cases h2 : a.o = b.o
      · by_cases h3 : a.p = b.p
        · exact absurd (Cs.ext' h1 h2 h3) h
        · simp [h3]
      · have : PyData.eqv (.bool a.o) (.bool b.o) = false := by
          simp only [PyData.eqv]
          cases ha : a.o <;> cases hb : b.o <;> simp_all
        simp [this]
    · simp [h1]
theorem eqvs_cs : ∀ (as bs : List Cs), PyData.eqvAll (as.map csP) (bs.map csP) = decide (as = bs)
  | [], [] => by simp [PyData.eqvAll]
  | [], b :: bs => by simp [PyData.eqvAll]
  | a :: as, [] => by simp [PyData.eqvAll]
  | a :: as, b :: bs => by
    simp only [List.map_cons, PyData.eqvAll, eqv_cs, eqvs_cs as bs]
    by_cases h1 : a = b <;> by_cases h2 : as = bs <;> simp [h1, h2]
theorem plain_pP (p : Option (List Nat)) : (pP p).plain = true := by cases p <;> rfl
theorem plain_cs (c : Cs) : (csP c).plain = true := by
  show (true && (true && ((pP c.p).plain && true))) = true
  rw [plain_pP]
  rfl
theorem plains_cs : ∀ (cs : List Cs), PyData.plainAll (cs.map csP) = true
  | [] => rfl
  | c :: cs => by
    simp only [List.map_cons, PyData.plainAll, plain_cs, plains_cs cs]
    rfl
theorem depth_pP (p : Option (List Nat)) : (pP p).depth = 0 := by cases p <;> rfl
theorem depth_cs (c : Cs) : (csP c).depth = 1 := by
  show PyData.depthAll [.str ⟨c.b.toArray⟩, .bool c.o, pP c.p] + 1 = 1
  simp [PyData.depthAll, PyData.depth, depth_pP]
theorem depths_cs : ∀ (cs : List Cs), PyData.depthAll (cs.map csP) ≤ 1
  | [] => Nat.zero_le _
  | c :: cs => by
    simp only [List.map_cons, PyData.depthAll, depth_cs]
    have := depths_cs cs
    omega
section
variable {g : G} {hd : Hd}
theorem eqd_of {x y : D} {a b : PyData} (hx : topP hd x = some a) (hy : topP hd y = some b) (pa : a.plain = true) (pb : b.plain = true) (da : a.depth ≤ 64) : eqd hd x y = some (PyData.eqv a b) := by
  unfold eqd
  rw [hx, hy]
  exact if_pos ⟨pa, pb, Nat.le_trans (Nat.min_le_left _ _) da⟩
theorem eqd_cases {as bs : List Cs} : eqd hd (.tup (as.map csD)) (.tup (bs.map csD)) = some (decide (as = bs)) := by
  rw [eqd_of (a := .tuple (as.map csP)) (b := .tuple (bs.map csP)) (by show (toPs (as.map csD)).map PyData.tuple = _; rw [toPs_cs]; rfl) (by show (toPs (bs.map csD)).map PyData.tuple = _; rw [toPs_cs]; rfl) (plains_cs _) (plains_cs _) (by
    show PyData.depthAll (as.map csP) + 1 ≤ 64
    have := depths_cs as
    omega)]
  show some (PyData.eqvAll (as.map csP) (bs.map csP)) = _
  rw [eqvs_cs]
/-- == of data -/
theorem cmp_eq {g : G} {hd : Hd} {x y : D} {b : Bool} (h : eqd hd x y = some b) (n : ∀ C fs, x ≠ .ins C fs) : cmpS g .Eq x y hd = .ok (.bl b) hd := by
  show (eqS2 g x y hd).bind (fun b hd => R.ok (D.bl b) hd) = _
  have : eqS2 g x y hd = .ok b hd := by
    unfold eqS2
    split
    · rw [h]
    · unfold eqS
      split
      · exact absurd rfl (n _ _)
      · rw [h]
        rfl
  rw [this]
  rfl
theorem cmp_ne {g : G} {hd : Hd} {x y : D} {b : Bool} (h : eqd hd x y = some b) (n : ∀ C fs, x ≠ .ins C fs) : cmpS g .NotEq x y hd = .ok (.bl (!b)) hd := by
  show (eqS g x y hd).bind (fun b hd => R.ok (D.bl (!b)) hd) = _
  have : eqS g x y hd = .ok b hd := by
    unfold eqS
    split
    · exact absurd rfl (n _ _)
    · rw [h]
      rfl
  rw [this]
  rfl
theorem eq_cases {as bs : List Cs} : cmpS g .Eq (.tup (as.map csD)) (.tup (bs.map csD)) hd = .ok (.bl (decide (as = bs))) hd := cmp_eq eqd_cases (by intro C fs e; cases e)
/-- texts and truths -/
def flD : List Nat ⊕ Bool → D
  | .inl z => .str z
  | .inr b => .bl b
def flP : List Nat ⊕ Bool → PyData
  | .inl z => .str ⟨z.toArray⟩
  | .inr b => .bool b
theorem toPs_fl : ∀ (xs : List (List Nat ⊕ Bool)), toPs (xs.map flD) = some (xs.map flP)
  | [] => rfl
  | x :: xs => by
    have : toP (flD x) = some (flP x) := by cases x <;> rfl
    simp only [List.map_cons, toPs, this, toPs_fl xs]
theorem eqv_fl (a b : List Nat ⊕ Bool) : PyData.eqv (flP a) (flP b) = decide (a = b) := by
  cases a with
  | inl a => cases b with
    | inl b =>
      show PyData.eqv (.str ⟨a.toArray⟩) (.str ⟨b.toArray⟩) = _
      rw [eqv_str]
      simp
    | inr b => simp [flP, PyData.eqv]
  | inr a => cases b with
    | inl b => simp [flP, PyData.eqv]
    | inr b =>
      simp only [flP, PyData.eqv]
      cases a <;> cases b <;> rfl
theorem eqvs_fl : ∀ (as bs : List (List Nat ⊕ Bool)), PyData.eqvAll (as.map flP) (bs.map flP) = decide (as = bs)
  | [], [] => by simp [PyData.eqvAll]
  | [], b :: bs => by simp [PyData.eqvAll]
  | a :: as, [] => by simp [PyData.eqvAll]
  | a :: as, b :: bs => by
    simp only [List.map_cons, PyData.eqvAll, eqv_fl, eqvs_fl as bs]
    by_cases h1 : a = b <;> by_cases h2 : as = bs <;> simp [h1, h2]
theorem plains_fl : ∀ (as : List (List Nat ⊕ Bool)), PyData.plainAll (as.map flP) = true
  | [] => rfl
  | a :: as => by
    have : (flP a).plain = true := by cases a <;> rfl
    simp only [List.map_cons, PyData.plainAll, this, plains_fl as]
    rfl
theorem depths_fl : ∀ (as : List (List Nat ⊕ Bool)), PyData.depthAll (as.map flP) = 0
  | [] => rfl
  | a :: as => by
    have : (flP a).depth = 0 := by cases a <;> rfl
    simp only [List.map_cons, PyData.depthAll, this, depths_fl as]
    rfl
theorem eqd_fl {as bs : List (List Nat ⊕ Bool)} : eqd hd (.lst (as.map flD)) (.lst (bs.map flD)) = some (decide (as = bs)) := by
  rw [eqd_of (a := .list (as.map flP)) (b := .list (bs.map flP)) (by show (toPs (as.map flD)).map PyData.list = _; rw [toPs_fl]; rfl) (by show (toPs (bs.map flD)).map PyData.list = _; rw [toPs_fl]; rfl) (plains_fl _) (plains_fl _) (by
    show PyData.depthAll (as.map flP) + 1 ≤ 64
    rw [depths_fl]
    omega)]
  show some (PyData.eqvAll (as.map flP) (bs.map flP)) = _
  rw [eqvs_fl]
theorem ne_fl (as bs : List (List Nat ⊕ Bool)) : cmpS g .NotEq (.lst (as.map flD)) (.lst (bs.map flD)) hd = .ok (.bl (!decide (as = bs))) hd := by
  unfold cmpS
  try (unfold eqS2; try dsimp only)
  unfold eqS
  dsimp only
  rw [eqd_fl]
  rfl
/-- repr of a title and its cases: some text -/
theorem show_pP (p : Option (List Nat)) (h : ∀ z, p = some z → ∀ c ∈ z, c < 128) : (pP p).showable = true ∧ (pP p).leavesShort 8 = true := by
  cases p with
  | none => exact ⟨rfl, rfl⟩
  | some z => exact ⟨rfl, by
      show (z.toArray.toList.all fun c => decide (c < 16 ^ 8)) = true
      rw [List.all_eq_true]
      intro c hc
      have := h z rfl c (by simpa using hc)
      exact decide_eq_true (by omega)⟩
end
end Z
namespace Z
open PySem
def wordT : Option (List Nat) → List Nat
  | none => [103, 111, 110, 101]
  | some [] => [110, 111, 110, 101]
  | some (c :: z) => c :: z
def headT (c : Cs) : List Nat := if c.b = [] then (if c.o = true then [111, 110, 108, 121] else [101, 108, 115, 101]) else if c.o = true then [111, 110, 108, 121, 32] ++ c.b else [98, 101, 103, 105, 110, 32] ++ c.b
def rowT (c : Cs) : List Nat := headT c ++ ([58, 32] ++ wordT c.p)
theorem word_len {p : Option (List Nat)} (h : Pt p) : (wordT p).length ≤ 4 := by
  cases p with
  | none => decide
  | some z => cases z with
    | nil => decide
    | cons c z =>
      have := (h _ rfl).1
      exact Nat.le_succ_of_le this
theorem head_len {c : Cs} (h : Ok1 c) : (headT c).length ≤ 8 := by
  have := h.1.2
  unfold headT
  split
  · split <;> decide
  · split <;> (simp; omega)
theorem row_len {c : Cs} (h : Ok1 c) : (rowT c).length ≤ 14 := by
  have h1 := word_len h.2.2
  have h2 := head_len h
  unfold rowT
  rw [List.length_append, List.length_append]
  simp
  omega
theorem le_line {n : Nat} (h : n ≤ 1000) : (n ≤ line) = True := eq_true (Nat.le_trans h (by decide))
theorem fmt_str {z : List Nat} {hd : Hd} (h : z.length ≤ 1000) : fmtS (.str z) hd = .ok (.str z) hd := if_pos (Nat.le_trans h (by decide))
theorem truth_st {z : List Nat} {hd : Hd} (h : z.length ≤ 1000) : truth hd (.str z) = some (!z.isEmpty) := if_pos (Nat.le_trans h (by decide))
theorem add_st {a b : List Nat} {m : Bool} {hd : Hd} (h : a.length + b.length ≤ 1000) : binS m .Add (.str a) (.str b) hd = .ok (.str (a ++ b)) hd := if_pos (Nat.le_trans h (by decide))
theorem evF_go {g : G} {e : E} {es : Es} {acc z : List Nat} {env : Env} {hd : Hd} (he : evE g e env hd = .ok (.str z) hd) (hl : acc.length + z.length ≤ line) : evF g (.cons e es) acc env hd = evF g es (acc ++ z) env hd := by
  rw [evF_cons, he]
  exact if_pos hl
theorem word_of_ {k : Nat} {hd : Hd} {p : Option (List Nat)} (h : Pt p) : callF T (k + 1) ("", "_word_of") [pD p] [] hd = .ok (.str (wordT p)) hd := by
  rw [D_word_of.c0]
  cases p with
  | none => simp [D_word_of.tree, pD, isNon, con_gone, wordT, fin_same]
  | some z =>
    have hz := (h z rfl).1
    have ht := truth_st (hd := hd) (show z.length ≤ 1000 by omega)
    cases z with
    | nil => simp [D_word_of.tree, pD, isNon, con_none, wordT, ht, fin_same]
    | cons c z => simp [D_word_of.tree, pD, isNon, con_none, wordT, ht, fin_same]
theorem row_of_ {k : Nat} {hd : Hd} {c : Cs} (h : Ok1 c) : callF T (k + 2) ("", "_row_of") [csD c] [] hd = .ok (.str (rowT c)) hd := by
  have e1 := is_else_ (k := k) (hd := hd) (c := c)
  have e2 := word_of_ (k := k) (hd := hd) h.2.2
  have l1 := h.1.2
  have l2 := word_len h.2.2
  have l3 := head_len h
  have fb := fmt_str (hd := hd) (show c.b.length ≤ 1000 by omega)
  have fh := fmt_str (hd := hd) (show (headT c).length ≤ 1000 by omega)
  have fw := fmt_str (hd := hd) (show (wordT c.p).length ≤ 1000 by omega)
  have ef : evE ⟨T, callF T (k + 1)⟩ (.fs (.cons (.fmt (.var 4)) (.cons (.con (.str [58, 32])) (.cons (.fmt (.fn "_word_of" (.cons (.var 3) .nil) [] .nil)) .nil)))) [some (csD c), some (.str c.b), some (.bl c.o), some (pD c.p), some (.str (headT c))] hd = .ok (.str (rowT c)) hd := by
    rw [evE_fs, evF_go (z := headT c) (by simp [fh]) (by simp [line]; omega), evF_go (z := [58, 32]) rfl (by simp [line]; omega), evF_go (z := wordT c.p) (by simp [e2, fw]) (by simp [line]; omega), evF_nil]
    simp [rowT]
  have eh : evS ⟨T, callF T (k + 1)⟩ (.ifs (.fn "_is_else" (.cons (.var 0) .nil) [] .nil) (.seq (.set (.name 4) (.con (.str [101, 108, 115, 101]))) .skip) (.seq (.ifs (.cmp .Eq (.var 1) (.con (.str []))) (.seq (.set (.name 4) (.con (.str [111, 110, 108, 121]))) .skip)
      (.seq (.set (.name 4) (.ite (.var 2) (.fs (.cons (.con (.str [111, 110, 108, 121, 32])) (.cons (.fmt (.var 1)) .nil))) (.fs (.cons (.con (.str [98, 101, 103, 105, 110, 32])) (.cons (.fmt (.var 1)) .nil))))) .skip)) .skip))
      [some (csD c), some (.str c.b), some (.bl c.o), some (pD c.p), none] hd = .nx [some (csD c), some (.str c.b), some (.bl c.o), some (pD c.p), some (.str (headT c))] hd := by
    by_cases hb : c.b = []
    · cases ho : c.o with
      | true => simp [e1, hb, ho, headT]
      | false => simp [e1, hb, ho, headT]
    · have eo : evF ⟨T, callF T (k + 1)⟩ (.cons (.con (.str [111, 110, 108, 121, 32])) (.cons (.fmt (.var 1)) .nil)) [] [some (csD c), some (.str c.b), some (.bl c.o), some (pD c.p), none] hd = .ok (.str ([111, 110, 108, 121, 32] ++ c.b)) hd := by
        rw [evF_go (z := [111, 110, 108, 121, 32]) rfl (by decide), evF_go (z := c.b) (by simp [fb]) (by simp [line]; omega), evF_nil]
        rfl
      have eb : evF ⟨T, callF T (k + 1)⟩ (.cons (.con (.str [98, 101, 103, 105, 110, 32])) (.cons (.fmt (.var 1)) .nil)) [] [some (csD c), some (.str c.b), some (.bl c.o), some (pD c.p), none] hd = .ok (.str ([98, 101, 103, 105, 110, 32] ++ c.b)) hd := by
        rw [evF_go (z := [98, 101, 103, 105, 110, 32]) rfl (by decide), evF_go (z := c.b) (by simp [fb]) (by simp [line]; omega), evF_nil]
        rfl
      cases ho : c.o with
      | true =>
        rw [ho] at eo
        simp [e1, hb, ho, headT, eo, -evF_cons]
      | false =>
        rw [ho] at eb
        simp [e1, hb, ho, headT, eb, -evF_cons]
  rw [D_row_of.c0]
  have i3 : items hd (csD c) = some [.str c.b, .bl c.o, pD c.p] := rfl
  have s3 : ∀ env, storeS (.names [1, 2, 3]) (csD c) env hd = some (setAll env [1, 2, 3] [.str c.b, .bl c.o, pD c.p]) := fun env => store_names i3 rfl
  simp [D_row_of.tree, s3, setAll, eh, ef, -evS_ifs, -evE_fs, fin_same]
/-- the text of a program -/
def progW : List Nat := [112, 114, 111, 103, 114, 97, 109, 32]
def textT (z : List Nat) (cs : List Cs) : List Nat := TL.joinL [10] ((progW ++ z) :: cs.map rowT)
theorem stx_strs : ∀ (l : List (List Nat)), stx (l.map D.str) = some l
  | [] => rfl
  | c :: zs => by
    show (stx (zs.map D.str)).map _ = _
    rw [stx_strs zs]
    rfl
theorem join_strs {m : Bool} {sep : List Nat} {l : List (List Nat)} {hd : Hd} (h : (l.map (·.length)).sum + l.length * sep.length ≤ line) : mtS m .join (.str sep) [.lst (l.map .str)] hd = .ok (.str (TL.joinL sep l)) hd := by
  unfold mtS mtA
  simp only [items_lst, Option.bind_some, stx_strs]
  rw [if_pos h]
theorem sum_rows : ∀ (cs : List Cs), (∀ c ∈ cs, Ok1 c) → ((cs.map rowT).map (·.length)).sum ≤ 14 * cs.length
  | [], _ => by simp
  | c :: cs, h => by
    have h1 := row_len (h c (List.mem_cons_self ..))
    have h2 := sum_rows cs fun x hx => h x (List.mem_cons_of_mem _ hx)
    simp only [List.map_cons, List.sum_cons, List.length_cons] at h2 ⊢
    omega
theorem Cz.all {cs : List Cs} (h : Cz cs) : ∀ c ∈ cs, Ok1 c := fun c hc => by
  obtain ⟨j, hj⟩ := List.getElem?_of_mem hc
  exact (h.at_ hj).1
theorem join_text {m : Bool} {z : List Nat} {cs : List Cs} {hd : Hd} (hz : Nm z) (hc : Cz cs) : mtS m .join (.str [10]) [.lst (.str (progW ++ z) :: cs.map fun c => .str (rowT c))] hd = .ok (.str (textT z cs)) hd := by
  have e : (D.str (progW ++ z) :: cs.map fun c => D.str (rowT c)) = ((progW ++ z) :: cs.map rowT).map D.str := by simp
  have h1 := sum_rows cs hc.all
  have h2 := hc.len
  have h3 := hz.1
  rw [e, join_strs]
  · rfl
  · simp only [List.map_cons, List.sum_cons, List.length_cons, List.length_map, List.length_append, List.length_nil] at h1 ⊢
    have : progW.length = 8 := rfl
    simp only [line]
    omega
end Z
namespace Z
open PySem
section
variable {F : String × String → List D → List (String × D) → Hd → R D} {hd : Hd} {z z' : List Nat} {cs cs' : List Cs} {k : Nat} {m : Bool}
theorem att_name : attS ⟨T, F⟩ (prD z cs) "_name" hd = .ok (.str z) hd := by
  unfold attS prD
  dsimp only
  rw [cl_prog]
  rfl
theorem att_cases : attS ⟨T, F⟩ (prD z cs) "_cases" hd = .ok (.tup (cs.map csD)) hd := by
  unfold attS prD
  dsimp only
  rw [cl_prog]
  rfl
theorem prop_name : attS ⟨T, F⟩ (prD z cs) "name" hd = F ("Program", "name") [prD z cs] [] hd := by
  unfold attS prD
  dsimp only
  rw [cl_prog]
  rfl
theorem prop_cases : attS ⟨T, F⟩ (prD z cs) "cases" hd = F ("Program", "cases") [prD z cs] [] hd := by
  unfold attS prD
  dsimp only
  rw [cl_prog]
  rfl
theorem name_ : attS ⟨T, callF T (k + 1)⟩ (prD z cs) "name" hd = .ok (.str z) hd := by
  rw [prop_name, DProgram_name.c0]
  simp [DProgram_name.tree, att_name, fin_same]
theorem cases_ : attS ⟨T, callF T (k + 1)⟩ (prD z cs) "cases" hd = .ok (.tup (cs.map csD)) hd := by
  rw [prop_cases, DProgram_cases.c0]
  simp [DProgram_cases.tree, att_cases, fin_same]
theorem it_tup {us : List D} {hd : Hd} : iterS .plain [.tup us] hd = some (.inl us) := rfl
theorem it_lst {us : List D} {hd : Hd} : iterS .plain [.lst us] hd = some (.inl us) := rfl
theorem str_run (hz : Nm z) (hc : Cz cs) : callF T (k + 3) ("Program", "__str__") [prD z cs] [] hd = .ok (.str (textT z cs)) hd := by
  rw [DProgram_u_str_u.c0]
  have hl := hc.len
  have hn := hz.1
  have e := lcV_maps (item := csD) (f := fun c => D.str (rowT c)) (sto := storeS (.name 2)) (elt := fun env hd => evE ⟨T, callF T (k + 2)⟩ DProgram_u_str_u.e0 env hd) (env := [some (prD z cs), none, none]) (hd := hd) cs (by simp [line]; omega) fun c hc' => ⟨_, rfl, by simp [DProgram_u_str_u.e0, row_of_ (k := k) (hd := hd) (hc.all c hc')]⟩
  have ef : evF ⟨T, callF T (k + 2)⟩ (.cons (.con (.str [112, 114, 111, 103, 114, 97, 109, 32])) (.cons (.fmt (.att (.var 0) "_name")) .nil)) [] [some (prD z cs), some (.lst (cs.map fun c => D.str (rowT c))), none] hd = .ok (.str (progW ++ z)) hd := by
    rw [evF_go (z := progW) rfl (by decide), evF_go (z := z) (by simp [att_name, fmt_str (hd := hd) (show z.length ≤ 1000 by omega)]) (by simp [line, progW]; omega), evF_nil]
    rfl
  simp [DProgram_u_str_u.tree, att_cases, it_tup, wipe, e, mkL, ef, -evF_cons, line, show cs.length + 1 ≤ 16777216 by omega, join_text hz hc, fin_same]
theorem str_ (hz : Nm z) (hc : Cz cs) : biS ⟨T, callF T (k + 3)⟩ m .str [prD z cs] hd = .ok (.str (textT z cs)) hd := by
  unfold biS biS1 strS
  have e := str_run (k := k) (hd := hd) hz hc
  unfold prD at e ⊢
  simp only [Bool.false_eq_true, if_false, cl_prog]
  rw [if_pos (by decide), e]
  rfl
def reprT (z : List Nat) (n : Nat) : List Nat := [80, 114, 111, 103, 114, 97, 109, 32] ++ z ++ [32, 111, 102, 32] ++ decI n ++ [32, 99, 97, 115, 101, 115]
theorem dec_small {n : Nat} (h : n ≤ 5) : (decI n).length ≤ 1 := by
  rcases (by omega : n = 0 ∨ n = 1 ∨ n = 2 ∨ n = 3 ∨ n = 4 ∨ n = 5) with rfl | rfl | rfl | rfl | rfl | rfl <;> decide +kernel
theorem fmt_int {i : Nat} (h : i ≤ 5) : fmtS (.int i) hd = .ok (.str (decI i)) hd := by
  refine if_pos ?_
  have : Nat.log2 ((i : Int).natAbs) ≤ (i : Int).natAbs := Nat.log2_le_self _
  omega
theorem repr_run (hz : Nm z) (hc : Cz cs) : callF T (k + 1) ("Program", "__repr__") [prD z cs] [] hd = .ok (.str (reprT z cs.length)) hd := by
  rw [DProgram_u_repr_u.c0]
  have hl := hc.len
  have hn := hz.1
  have hd1 := dec_small hl.2
  have ef : evF ⟨T, callF T k⟩ (.cons (.con (.str [80, 114, 111, 103, 114, 97, 109, 32])) (.cons (.fmt (.att (.var 0) "_name")) (.cons (.con (.str [32, 111, 102, 32])) (.cons (.fmt (.bi false .len (.cons (.att (.var 0) "_cases") .nil))) (.cons (.con (.str [32, 99, 97, 115, 101, 115])) .nil))))) [] [some (prD z cs)] hd = .ok (.str (reprT z cs.length)) hd := by
    rw [evF_go (z := [80, 114, 111, 103, 114, 97, 109, 32]) rfl (by decide), evF_go (z := z) (by simp [att_name, fmt_str (hd := hd) (show z.length ≤ 1000 by omega)]) (by simp [line]; omega), evF_go (z := [32, 111, 102, 32]) rfl (by simp [line]; omega),
      evF_go (z := decI cs.length) (by simp [att_cases, fmt_int (hd := hd) hl.2]) (by simp [line]; omega), evF_go (z := [32, 99, 97, 115, 101, 115]) rfl (by simp [line]; omega), evF_nil]
    rfl
  simp [DProgram_u_repr_u.tree, ef, -evF_cons, fin_same]
theorem repr_ (hz : Nm z) (hc : Cz cs) : biS ⟨T, callF T (k + 1)⟩ m .repr [prD z cs] hd = .ok (.str (reprT z cs.length)) hd := by
  unfold biS biS1 strS
  have e := repr_run (k := k) (hd := hd) hz hc
  unfold prD at e ⊢
  simp only [if_true, cl_prog]
  rw [if_pos (by decide), e]
  rfl
theorem isi_prog : isiS ⟨T, F⟩ true "Program" (prD z cs) hd = some true := by
  unfold prD
  simp [isiS, tyD, insOf, cl_prog]
theorem isi_other {y : D} {t : String} (h : tyD hd y = some t) : isiS ⟨T, F⟩ true "Program" y hd = some false := by
  simp [isiS, h, cl_prog]
theorem eq_run : callF T (k + 1) ("Program", "__eq__") [prD z cs, prD z' cs'] [] hd = .ok (.bl (decide (z = z') && decide (cs = cs'))) hd := by
  rw [DProgram_u_eq_u.c0]
  by_cases h : z = z' <;> simp [DProgram_u_eq_u.tree, isi_prog, att_name, att_cases, eq_cases, h, fin_same]
theorem eq_other {y : D} {t : String} (h : tyD hd y = some t) : callF T (k + 1) ("Program", "__eq__") [prD z cs, y] [] hd = .ok (.bl false) hd := by
  rw [DProgram_u_eq_u.c0]
  simp [DProgram_u_eq_u.tree, isi_other h, fin_same]
theorem cmp_own {y : D} {b : Bool} (hy : cmpOk ⟨T, callF T k⟩ y hd = true) (e : callF T k ("Program", "__eq__") [prD z cs, y] [] hd = .ok (.bl b) hd) : cmpS ⟨T, callF T k⟩ .Eq (prD z cs) y hd = .ok (.bl b) hd ∧ cmpS ⟨T, callF T k⟩ .NotEq (prD z cs) y hd = .ok (.bl (!b)) hd := by
  have h : eqS ⟨T, callF T k⟩ (prD z cs) y hd = .ok b hd := by
    unfold eqS
    unfold prD at e ⊢
    simp only [cl_prog]
    rw [if_pos ⟨by decide, hy⟩, e]
    rfl
  have h2 : eqS2 ⟨T, callF T k⟩ (prD z cs) y hd = .ok b hd := h
  unfold cmpS
  simp only [h, h2]
  exact ⟨rfl, rfl⟩
theorem cmp_prog : cmpS ⟨T, callF T (k + 1)⟩ .Eq (prD z cs) (prD z' cs') hd = .ok (.bl (decide (z = z') && decide (cs = cs'))) hd ∧ cmpS ⟨T, callF T (k + 1)⟩ .NotEq (prD z cs) (prD z' cs') hd = .ok (.bl (!(decide (z = z') && decide (cs = cs')))) hd :=
  cmp_own (by simp [cmpOk, prD, tyD, insOf, cl_prog]) eq_run
theorem cmp_other {y : D} {t : String} (h : tyD hd y = some t) : cmpS ⟨T, callF T (k + 1)⟩ .Eq (prD z cs) y hd = .ok (.bl false) hd ∧ cmpS ⟨T, callF T (k + 1)⟩ .NotEq (prD z cs) y hd = .ok (.bl true) hd :=
  cmp_own (by simp [cmpOk, h]) (eq_other h)
/-! ### the law's own writing -/
theorem law_row_ {c : Cs} (h : Ok1 c) : callF T (k + 1) ("", "_law_row") [csD c] [] hd = .ok (.str (rowT c)) hd := by
  rw [D_law_row.c0]
  have l1 := h.1.2
  have l2 := word_len h.2.2
  have i3 : items hd (csD c) = some [.str c.b, .bl c.o, pD c.p] := rfl
  have s3 : ∀ env, storeS (.names [2, 3, 4]) (csD c) env hd = some (setAll env [2, 3, 4] [.str c.b, .bl c.o, pD c.p]) := fun env => store_names i3 rfl
  have et : evE ⟨T, callF T k⟩ (.ite (.cmp .Is (.var 4) (.con (.non))) (.con (.str [58, 32, 103, 111, 110, 101])) (.ite (.cmp .Eq (.var 4) (.con (.str []))) (.con (.str [58, 32, 110, 111, 110, 101])) (.bin false .Add (.con (.str [58, 32])) (.var 4))))
      [some (csD c), none, some (.str c.b), some (.bl c.o), some (pD c.p)] hd = .ok (.str ([58, 32] ++ wordT c.p)) hd := by
    cases hp : c.p with
    | none => simp [pD, isNon, wordT]
    | some z => cases z with
      | nil => simp [pD, isNon, wordT]
      | cons a z =>
        have := (h.2.2 _ hp).1
        have ad : binS false .Add (.str [58, 32]) (.str (a :: z)) hd = .ok (.str ([58, 32] ++ (a :: z))) hd := add_st (by simp at this ⊢; omega)
        simp [pD, isNon, wordT, ad]
  have a1 : binS false .Add (.str [111, 110, 108, 121]) (.str ([58, 32] ++ wordT c.p)) hd = .ok (.str ([111, 110, 108, 121] ++ ([58, 32] ++ wordT c.p))) hd := add_st (by simp; omega)
  have a2 : binS false .Add (.str [101, 108, 115, 101]) (.str ([58, 32] ++ wordT c.p)) hd = .ok (.str ([101, 108, 115, 101] ++ ([58, 32] ++ wordT c.p))) hd := add_st (by simp; omega)
  have a3 : binS false .Add (.str [111, 110, 108, 121, 32]) (.str c.b) hd = .ok (.str ([111, 110, 108, 121, 32] ++ c.b)) hd := add_st (by simp; omega)
  have a4 : binS false .Add (.str [98, 101, 103, 105, 110, 32]) (.str c.b) hd = .ok (.str ([98, 101, 103, 105, 110, 32] ++ c.b)) hd := add_st (by simp; omega)
  have a5 : binS false .Add (.str ([111, 110, 108, 121, 32] ++ c.b)) (.str ([58, 32] ++ wordT c.p)) hd = .ok (.str ([111, 110, 108, 121, 32] ++ c.b ++ ([58, 32] ++ wordT c.p))) hd := add_st (by simp; omega)
  have a6 : binS false .Add (.str ([98, 101, 103, 105, 110, 32] ++ c.b)) (.str ([58, 32] ++ wordT c.p)) hd = .ok (.str ([98, 101, 103, 105, 110, 32] ++ c.b ++ ([58, 32] ++ wordT c.p))) hd := add_st (by simp; omega)
  unfold rowT headT
  simp only [D_law_row.tree, evS_seq, evS_set, evE_var, List.getElem?_cons_zero, R.to_ok, s3, O.then_nx, setAll, List.set_cons_succ, List.set_cons_zero, et, store_name, evS_ifs, List.getElem?_cons_succ, truthR_ok, truth_bl, R.of_some]
  by_cases hb : c.b = []
  · cases ho : c.o <;> simp only [Bool.false_eq_true, if_false, if_true, evS_seq, evS_skip, O.then_nx, evS_ret, evE_ite, evE_cmp, evE_var, evE_con, evE_bin, List.getElem?_cons_zero, List.getElem?_cons_succ, R.bind_ok, hb, eq_str, R.st_ok, decide_true, truthR_ok, truth_bl, R.of_some, a1, a2, R.to_ok, O.then_rt, fin_same]
  · cases ho : c.o <;> simp only [Bool.false_eq_true, if_false, if_true, evS_seq, evS_skip, O.then_nx, evS_ret, evE_ite, evE_cmp, evE_var, evE_con, evE_bin, List.getElem?_cons_zero, List.getElem?_cons_succ, R.bind_ok, hb, eq_str, R.st_ok, decide_false, truthR_ok, truth_bl, R.of_some, a3, a4, a5, a6, R.to_ok, O.then_rt, fin_same]
theorem law_text_ (hz : Nm z) (hc : Cz cs) : callF T (k + 2) ("", "_law_program_text") [.str z, .tup (cs.map csD)] [] hd = .ok (.str (textT z cs)) hd := by
  rw [D_law_program_text.c0]
  have hl := hc.len
  have hn := hz.1
  have e := lcV_maps (item := csD) (f := fun c => D.str (rowT c)) (sto := storeS (.name 2)) (elt := fun env hd => evE ⟨T, callF T (k + 1)⟩ D_law_program_text.e0 env hd) (env := [some (.str z), some (.tup (cs.map csD)), none]) (hd := hd) cs (by simp [line]; omega) fun c hc' => ⟨_, rfl, by simp [D_law_program_text.e0, law_row_ (k := k) (hd := hd) (hc.all c hc')]⟩
  have a1 : binS false .Add (.str [112, 114, 111, 103, 114, 97, 109, 32]) (.str z) hd = .ok (.str (progW ++ z)) hd := add_st (by simp; omega)
  have a2 : binS false .Add (.lst [.str (progW ++ z)]) (.lst (cs.map fun c => D.str (rowT c))) hd = .ok (.lst (.str (progW ++ z) :: cs.map fun c => D.str (rowT c))) hd := add_lst (by simp [line]; omega)
  simp [D_law_program_text.tree, a1, mkL, line, it_tup, wipe, e, a2, join_text hz hc, fin_same]
end
end Z
/-! P1: the program's checks, of whatever data. -/
namespace Z
open PySem
/-- data, as it may be handed over -/
def Od : D → Prop
  | .non => True
  | .bl _ => True
  | .int _ => True
  | .str z => z.length ≤ 1000
  | .tup xs => xs.length ≤ 1000
  | .lst _ => True
  | .dic _ => True
  | _ => False
/-- a case, or what stands in its place -/
def Oc : D → Prop
  | .tup xs => xs.length ≤ 1000 ∧ ∀ x ∈ xs, Od x
  | d => Od d
def odS : D → Bool
  | .str _ => true
  | _ => false
def mkB : D → Bool
  | .str z => z.all fun c => decide (c ∈ sg)
  | _ => false
def lenD : D → Nat
  | .str z => z.length
  | _ => 0
def hdB : List Nat → Bool
  | c :: _ => decide (c ∈ lt)
  | [] => false
def nmD : D → Bool
  | .str z => (decide (1 ≤ z.length) && decide (z.length ≤ 8)) && (hdB z && z.all fun c => decide (c ∈ lt ++ dg))
  | _ => false
def ptB : D → Bool
  | .non => true
  | .str z => decide (z.length ≤ 3) && z.all fun c => decide (c ∈ sg ∨ c = 64)
  | _ => false
def bgB (d : D) (o : Bool) : Bool := mkB d && decide (lenD d ≤ if o then 1 else 2)
def csB : D → Bool
  | .tup [b, .bl o, p] => bgB b o && ptB p
  | _ => false
theorem Oc.od {d : D} (h : Oc d) : Od d := by
  cases d <;> first
    | exact h
    | exact h.1
theorem isi_s {g : G} {d : D} {hd : Hd} (h : Od d) : isiS g false "str" d hd = some (odS d) := by
  cases d <;> first
    | exact h.elim
    | simp [isiS, tyD, odS]
def odT : D → Bool
  | .tup _ => true
  | _ => false
def odB : D → Bool
  | .bl _ => true
  | _ => false
theorem isi_t {g : G} {d : D} {hd : Hd} (h : Od d) : isiS g false "tuple" d hd = some (odT d) := by
  cases d <;> first
    | exact h.elim
    | simp [isiS, tyD, odT]
theorem isi_b {g : G} {d : D} {hd : Hd} (h : Od d) : isiS g false "bool" d hd = some (odB d) := by
  cases d <;> first
    | exact h.elim
    | simp [isiS, tyD, odB]
theorem notS {d : D} (h : odS d = false) : mkB d = false ∧ nmD d = false := by
  cases d <;> first
    | exact ⟨rfl, rfl⟩
    | (cases h; done)
theorem marks_g {k : Nat} {hd : Hd} {d : D} (h : Od d) : callF T (k + 1) ("", "is_marks") [d] [] hd = .ok (.bl (mkB d)) hd := by
  cases hs : odS d with
  | true =>
    cases d <;> first
      | (cases hs; done)
      | exact is_marks_ (Nat.le_trans h (by decide))
  | false =>
    rw [Dis_marks.c0, (notS hs).1]
    simp [Dis_marks.tree, isi_s h, hs, fin_same]
theorem at0 {z : List Nat} {c : Nat} {r : List Nat} (e : z = c :: r) : atI z 0 = some c := by
  subst e
  unfold atI ixn
  rw [if_pos (by decide), if_pos (by simp only [List.length_cons]; omega)]
  rfl
theorem name_g {k : Nat} {hd : Hd} {d : D} (h : Od d) : callF T (k + 1) ("", "is_name") [d] [] hd = .ok (.bl (nmD d)) hd := by
  cases hs : odS d with
  | false =>
    rw [Dis_name.c0, (notS hs).2]
    simp [Dis_name.tree, isi_s h, hs, fin_same]
  | true =>
    cases d with
    | str z =>
      have hz : z.length ≤ line := Nat.le_trans h (by decide)
      rw [Dis_name.c0]
      by_cases c1 : 1 ≤ z.length ∧ z.length ≤ 8
      · cases z with
        | nil => simp at c1
        | cons c r =>
          have e := lcV_maps (item := fun c => D.str [c]) (f := fun c => D.bl (decide (c ∈ lt ++ dg))) (sto := storeS (.name 1)) (elt := fun env hd => evE ⟨T, callF T k⟩ Dis_name.e0 env hd) (env := [some (.str (c :: r)), none]) (hd := hd) (c :: r) hz fun c hc => ⟨_, rfl, by simp only [Dis_name.e0, evE_cmp, evE_var, evE_glo, con_both, List.set_cons_succ, List.set_cons_zero, List.getElem?_cons_succ, List.getElem?_cons_zero, R.bind_ok, in_str, R.st_ok]⟩
          have ab := all_bls (g := ⟨T, callF T k⟩) (m := false) (hd := hd) (p := fun c => decide (c ∈ lt ++ dg)) (c :: r)
          have q1 : decide ((1 : Int) ≤ ((c :: r).length : Int)) = true := decide_eq_true (by omega)
          have q2 : decide (((c :: r).length : Int) ≤ 8) = true := decide_eq_true (by omega)
          have nd : nmD (.str (c :: r)) = (decide (c ∈ lt) && (c :: r).all fun c => decide (c ∈ lt ++ dg)) := by
            show ((decide (1 ≤ (c :: r).length) && decide ((c :: r).length ≤ 8)) && (decide (c ∈ lt) && _)) = _
            rw [decide_eq_true c1.1, decide_eq_true c1.2]
            rfl
          rw [nd]
          have fst : ∀ b : Bool, decide (c ∈ lt) = b → fin false hd.length (evS ⟨T, callF T k⟩ Dis_name.tree [some (.str (c :: r)), none] hd) = .ok (.bl (b && (c :: r).all fun c => decide (c ∈ lt ++ dg))) hd := fun b cx => by
            cases b with
            | true => simp only [Dis_name.tree, evS_seq, evS_ifs, evE_or, evE_not, evE_isi, evE_var, List.getElem?_cons_zero, R.bind_ok, isi_str, R.of_some, truthR_ok, truth_bl, Bool.not_true, Bool.false_eq_true, if_false, evE_cmp2, evE_con, evE_bi, evEs_more, evEs_nil, ne_eq, reduceCtorEq, not_false_eq_true, implies_true, len_str hz, R.st_ok, le_int, q1, q2, evE_glo, con_name, if_true, R.to_ok, evS_skip, O.then_nx, evS_ret, evE_and, evE_ix, ix_str hz (at0 rfl), con_letters, evE_cmp, in_str, cx, evE_lc, it_str hz, wipe, List.set_cons_succ, List.set_cons_zero, evAll_nil, e, mkL, ab, O.then_rt, fin_same, Bool.true_and]
            | false => simp only [Dis_name.tree, evS_seq, evS_ifs, evE_or, evE_not, evE_isi, evE_var, List.getElem?_cons_zero, R.bind_ok, isi_str, R.of_some, truthR_ok, truth_bl, Bool.not_true, Bool.false_eq_true, if_false, evE_cmp2, evE_con, evE_bi, evEs_more, evEs_nil, ne_eq, reduceCtorEq, not_false_eq_true, implies_true, len_str hz, R.st_ok, le_int, q1, q2, evE_glo, con_name, if_true, R.to_ok, evS_skip, O.then_nx, evS_ret, evE_and, evE_ix, ix_str hz (at0 rfl), con_letters, evE_cmp, in_str, cx, evE_lc, it_str hz, wipe, List.set_cons_succ, List.set_cons_zero, evAll_nil, e, mkL, ab, O.then_rt, fin_same, Bool.false_and]
          exact fst _ rfl
      · have nd : nmD (.str z) = false := by
          show ((decide (1 ≤ z.length) && decide (z.length ≤ 8)) && _) = false
          have : (decide (1 ≤ z.length) && decide (z.length ≤ 8)) = false := by
            rw [← Bool.decide_and]
            exact decide_eq_false c1
          rw [this]
          rfl
        rw [nd]
        by_cases c2 : 1 ≤ z.length
        · have q1 : decide ((1 : Int) ≤ (z.length : Int)) = true := decide_eq_true (by omega)
          have q2 : decide ((z.length : Int) ≤ 8) = false := decide_eq_false (by omega)
          simp only [Dis_name.tree, evS_seq, evS_ifs, evE_or, evE_not, evE_isi, evE_var, List.getElem?_cons_zero, R.bind_ok, isi_str, R.of_some, truthR_ok, truth_bl, Bool.not_true, Bool.not_false, Bool.false_eq_true, if_false, evE_cmp2, evE_con, evE_bi, evEs_more, evEs_nil, ne_eq, reduceCtorEq, not_false_eq_true, implies_true, len_str hz, R.st_ok, le_int, q1, q2, evE_glo, con_name, if_true, R.to_ok, evS_skip, O.then_nx, evS_ret, O.then_rt, fin_same]
        · have q1 : decide ((1 : Int) ≤ (z.length : Int)) = false := decide_eq_false (by omega)
          simp only [Dis_name.tree, evS_seq, evS_ifs, evE_or, evE_not, evE_isi, evE_var, List.getElem?_cons_zero, R.bind_ok, isi_str, R.of_some, truthR_ok, truth_bl, Bool.not_true, Bool.not_false, Bool.false_eq_true, if_false, evE_cmp2, evE_con, evE_bi, evEs_more, evEs_nil, ne_eq, reduceCtorEq, not_false_eq_true, implies_true, len_str hz, R.st_ok, le_int, q1, evE_glo, con_name, if_true, R.to_ok, evS_skip, O.then_nx, evS_ret, O.then_rt, fin_same]
    | _ => cases hs
theorem put_g {k : Nat} {hd : Hd} {d : D} (h : Od d) : callF T (k + 2) ("", "_is_put") [d] [] hd = .ok (.bl (ptB d)) hd := by
  rw [D_is_put.c0]
  cases hs : odS d with
  | false =>
    cases d <;> first
      | exact h.elim
      | (cases hs; done)
      | simp [D_is_put.tree, isNon, ptB, repS, isi_s h, odS, fin_same]
  | true =>
    cases d with
    | str z =>
      have hz : z.length ≤ line := Nat.le_trans h (by decide)
      have hm := is_marks_ (k := k) (hd := hd) (z := z.filter (· != 64)) (Nat.le_trans (List.length_filter_le _ _) hz)
      have ef : ((z.filter (· != 64)).all fun c => decide (c ∈ sg)) = z.all fun c => decide (c ∈ sg ∨ c = 64) := by
        rw [List.all_filter]
        congr 1
        funext c
        by_cases h1 : c = 64 <;> by_cases h2 : c ∈ sg <;> simp [h1, h2]
      rw [ef] at hm
      by_cases c3 : z.length ≤ 3
      · have q : decide ((z.length : Int) ≤ 3) = true := decide_eq_true (by omega)
        rw [show ptB (.str z) = z.all fun c => decide (c ∈ sg ∨ c = 64) by show (decide (z.length ≤ 3) && _) = _; rw [decide_eq_true c3]; rfl]
        simp [D_is_put.tree, isNon, repS, isi_str, hz, con_put, show z.length ≤ 1000000 by omega]
        simp [show (z.length : Int) ≤ 3 by omega, show z.length ≤ 1000000 by omega, hm, fin_same]
      · rw [show ptB (.str z) = false by show (decide (z.length ≤ 3) && _) = _; rw [decide_eq_false c3]; rfl]
        simp [D_is_put.tree, isNon, repS, isi_str, hz, con_put]
        simp [show ¬ (z.length : Int) ≤ 3 by omega, fin_same]
    | _ => cases hs
theorem mk_s {d : D} (h : mkB d = true) : ∃ z, d = .str z := by
  cases d with
  | str z => exact ⟨z, rfl⟩
  | _ => cases h
theorem begin_g {k : Nat} {hd : Hd} {d : D} {o : Bool} (h : Od d) : callF T (k + 2) ("", "_is_begin") [d, .bl o] [] hd = .ok (.bl (bgB d o)) hd := by
  have hm := marks_g (k := k) (hd := hd) h
  rw [D_is_begin.c0]
  cases hb : mkB d with
  | false =>
    rw [hb] at hm
    rw [show bgB d o = false by unfold bgB; rw [hb]; rfl]
    cases o <;> simp [D_is_begin.tree, con_only, con_begin, hm, fin_same]
  | true =>
    rw [hb] at hm
    obtain ⟨z, rfl⟩ := mk_s hb
    have hz : z.length ≤ line := Nat.le_trans h (by decide)
    rw [show bgB (.str z) o = decide (z.length ≤ if o then 1 else 2) by unfold bgB; rw [hb]; rfl]
    cases o with
    | true =>
      rw [if_pos rfl, show decide (z.length ≤ 1) = decide ((z.length : Int) ≤ 1) from decide_eq_decide.mpr (by omega)]
      simp [D_is_begin.tree, con_only, hm, len_str hz, fin_same]
    | false =>
      rw [if_neg (by decide), show decide (z.length ≤ 2) = decide ((z.length : Int) ≤ 2) from decide_eq_decide.mpr (by omega)]
      simp [D_is_begin.tree, con_begin, hm, len_str hz, fin_same]
theorem case_g {k : Nat} {hd : Hd} {d : D} (h : Oc d) : callF T (k + 3) ("", "_is_case") [d] [] hd = .ok (.bl (csB d)) hd := by
  rw [D_is_case.c0]
  cases ht : odT d with
  | false =>
    rw [show csB d = false by cases d <;> first | rfl | (cases ht; done)]
    simp [D_is_case.tree, isi_t h.od, ht, fin_same]
  | true =>
    cases d with
    | tup xs =>
      obtain ⟨hl, ho⟩ := h
      by_cases h3 : xs.length = 3
      · match xs, h3, ho with
        | [b, o, p], _, ho =>
          have ob := ho b (by simp)
          have oo := ho o (by simp)
          have op := ho p (by simp)
          cases hb : odB o with
          | false =>
            rw [show csB (.tup [b, o, p]) = false by cases o <;> first | rfl | (cases hb; done)]
            simp [D_is_case.tree, isi_tup, isi_b oo, hb, ne_int, store_names items_tup, setAll, fin_same, len_tup]
          | true =>
            cases o with
            | bl o =>
              have h1 := begin_g (k := k) (hd := hd) (o := o) ob
              have h2 := put_g (k := k) (hd := hd) op
              rw [show csB (.tup [b, .bl o, p]) = (bgB b o && ptB p) from rfl]
              cases hbg : bgB b o <;> simp [D_is_case.tree, isi_tup, isi_bl, ne_int, store_names items_tup, setAll, h1, h2, hbg, fin_same, len_tup]
            | _ => cases hb
      · have : csB (.tup xs) = false := by
          unfold csB
          split
          · rename_i e
            cases e
            exact absurd rfl h3
          · rfl
        rw [this]
        simp [D_is_case.tree, isi_tup, ne_int, fin_same, len_tup, show ¬ ((xs.length : Int) = 3) by omega]
    | _ => cases ht
end Z
/-! P2: the first wrong case. -/
namespace Z
open PySem
/-- the first of n places from i on -/
def fstN (b : Nat → Bool) : Nat → Nat → Option Nat
  | _, 0 => none
  | i, n + 1 => if b i = true then some i else fstN b (i + 1) n
theorem forV_fst {sto : D → Env → Hd → Option Env} {body : Env → Hd → O} {hd : Hd} (b : Nat → Bool) (r : Nat → D) (Q : Env → Prop) : ∀ (vs : List D) (i : Nat) (env : Env), Q env →
    (∀ j v env, vs[j]? = some v → Q env → ∃ env1, sto v env hd = some env1 ∧ ((b (i + j) = true ∧ body env1 hd = .rt (r (i + j)) hd) ∨ (b (i + j) = false ∧ ∃ env2, body env1 hd = .nx env2 hd ∧ Q env2))) →
    (∃ j, fstN b i vs.length = some j ∧ forV sto body vs env hd = .rt (r j) hd) ∨ (fstN b i vs.length = none ∧ ∃ env', forV sto body vs env hd = .nx env' hd ∧ Q env')
  | [], i, env, h, _ => .inr ⟨rfl, env, rfl, h⟩
  | v :: vs, i, env, h, st => by
    obtain ⟨env1, e1, h1⟩ := st 0 v env rfl h
    rw [Nat.add_zero] at h1
    have un : forV sto body (v :: vs) env hd = (match body env1 hd with
        | .nx env2 h2 => forV sto body vs env2 h2
        | .ct env2 h2 => forV sto body vs env2 h2
        | .bk env2 h2 => .nx env2 h2
        | o => o) := by
      show (match sto v env hd with
        | none => O.bad
        | some env1 => match body env1 hd with
          | .nx env2 h2 => forV sto body vs env2 h2
          | .ct env2 h2 => forV sto body vs env2 h2
          | .bk env2 h2 => .nx env2 h2
          | o => o) = _
      rw [e1]
    rcases h1 with ⟨hb, hr⟩ | ⟨hb, env2, hr, hq⟩
    · refine .inl ⟨i, ?_, by rw [un, hr]⟩
      show (if b i = true then some i else _) = _
      rw [if_pos hb]
    · have ih := forV_fst b r Q vs (i + 1) env2 hq fun j w env q p => by
        have := st (j + 1) w env q p
        rw [show i + (j + 1) = i + 1 + j by omega] at this
        exact this
      have eq : fstN b i (v :: vs).length = fstN b (i + 1) vs.length := by
        show (if b i = true then some i else _) = _
        rw [if_neg (by rw [hb]; decide)]
      rw [eq, un, hr]
      exact ih
theorem fst_some {b : Nat → Bool} : ∀ {n i j : Nat}, fstN b i n = some j → i ≤ j ∧ j < i + n ∧ b j = true
  | 0, _, _, h => by cases h
  | n + 1, i, j, h => by
    unfold fstN at h
    split at h
    · rename_i hb
      cases h
      exact ⟨Nat.le_refl _, by omega, hb⟩
    · obtain ⟨h1, h2, h3⟩ := fst_some h
      exact ⟨by omega, by omega, h3⟩
theorem fst_none {b : Nat → Bool} : ∀ {n i : Nat}, fstN b i n = none → ∀ j, i ≤ j → j < i + n → b j = false
  | 0, _, _, j, h1, h2 => by omega
  | n + 1, i, h, j, h1, h2 => by
    unfold fstN at h
    split at h
    · cases h
    · rename_i hb
      by_cases e : j = i
      · rw [e]
        simpa using hb
      · exact fst_none h j (by omega) (by omega)
/-- the case for all marks that are left -/
def elB : D → Bool
  | .tup [.str b, .bl o, _] => decide (b = []) && !o
  | _ => false
/-- what is wrong at i -/
def badX (xs : List D) (i : Nat) : Bool := match xs[i]? with
  | some x => decide (5 ≤ i) || (!csB x || (elB x != decide (i = xs.length - 1)))
  | none => true
def wrX (xs : List D) : Option Nat := fstN (badX xs) 0 xs.length
theorem pt_of {d : D} (h : ptB d = true) : ∃ p, d = pD p ∧ Pt p := by
  cases d with
  | non => exact ⟨none, rfl, fun z hz => by cases hz⟩
  | str z =>
    obtain ⟨h1, h2⟩ := and_t (show (decide (z.length ≤ 3) && z.all fun c => decide (c ∈ sg ∨ c = 64)) = true from h)
    exact ⟨some z, rfl, fun y hy => by
      cases hy
      exact ⟨of_decide_eq_true h1, fun c hc => of_decide_eq_true (List.all_eq_true.mp h2 c hc)⟩⟩
  | _ => cases h
theorem cs_of {d : D} (h : csB d = true) : ∃ c, d = csD c ∧ Ok1 c := by
  unfold csB at h
  split at h
  · rename_i b o p
    obtain ⟨h1, h2⟩ := and_t h
    obtain ⟨q, rfl, hq⟩ := pt_of h2
    obtain ⟨h3, h4⟩ := and_t h1
    obtain ⟨z, rfl⟩ := mk_s h3
    have hz : Sg z := fun c hc => of_decide_eq_true (List.all_eq_true.mp h3 c hc)
    have hl : z.length ≤ if o then 1 else 2 := of_decide_eq_true h4
    refine ⟨⟨z, o, q⟩, rfl, ⟨hz, ?_⟩, fun ho => ?_, hq⟩
    · cases o with
      | true =>
        have : z.length ≤ 1 := hl
        show z.length ≤ 2
        omega
      | false => exact hl
    · have ho : o = true := ho
      subst ho
      exact hl
  · cases h
theorem cs_ok {c : Cs} (h : Ok1 c) : csB (csD c) = true := by
  obtain ⟨⟨s, l⟩, lo, hp⟩ := h
  show ((mkB (.str c.b) && decide (c.b.length ≤ if c.o then 1 else 2)) && ptB (pD c.p)) = true
  have a1 : mkB (.str c.b) = true := List.all_eq_true.mpr fun x hx => decide_eq_true (s x hx)
  have a2 : c.b.length ≤ if c.o = true then 1 else 2 := by
    split
    · rename_i h
      exact lo h
    · exact l
  have a3 : ptB (pD c.p) = true := by
    cases e : c.p with
    | none => rfl
    | some z =>
      obtain ⟨h1, h2⟩ := hp z e
      show (decide (z.length ≤ 3) && z.all fun c => decide (c ∈ sg ∨ c = 64)) = true
      rw [decide_eq_true h1]
      exact List.all_eq_true.mpr fun x hx => decide_eq_true (h2 x hx)
  rw [a1, a3, decide_eq_true a2]
  rfl
theorem el_cs {c : Cs} : elB (csD c) = (decide (c.b = []) && !c.o) := rfl
theorem cs_eta {c : Cs} (h1 : c.b = []) (h2 : c.o = false) : c = ⟨[], false, c.p⟩ := by
  obtain ⟨b, o, p⟩ := c
  have h1 : b = [] := h1
  have h2 : o = false := h2
  rw [h1, h2]
/-- what is right is a program's cases -/
theorem cz_of {xs : List D} (h0 : xs ≠ []) (h : wrX xs = none) : ∃ cs, xs = cs.map csD ∧ Cz cs := by
  have hb := fst_none h
  have at_ : ∀ i x, xs[i]? = some x → i < 5 ∧ csB x = true ∧ elB x = decide (i = xs.length - 1) := fun i x e => by
    have hi := (List.getElem?_eq_some_iff.mp e).1
    have q := hb i (Nat.zero_le _) (by omega)
    unfold badX at q
    rw [e] at q
    simp only [Bool.or_eq_false_iff, decide_eq_false_iff_not, Bool.not_eq_false', bne_eq_false_iff_eq] at q
    exact ⟨by omega, q.2.1, q.2.2⟩
  have ex : ∀ ys : List D, (∀ x ∈ ys, csB x = true) → ∃ cs : List Cs, ys = cs.map csD ∧ ∀ c ∈ cs, Ok1 c := fun ys => by
    induction ys with
    | nil => exact fun _ => ⟨[], rfl, fun c hc => by cases hc⟩
    | cons y ys ih =>
      intro hy
      obtain ⟨cs, e, hcs⟩ := ih fun x hx => hy x (List.mem_cons_of_mem _ hx)
      obtain ⟨c, ec, hc⟩ := cs_of (hy y (List.mem_cons_self ..))
      exact ⟨c :: cs, by rw [e, ec]; rfl, fun d hd => (List.mem_cons.mp hd).elim (fun z => by rw [z]; exact hc) (hcs d)⟩
  obtain ⟨cs, rfl, ok⟩ := ex xs fun x hx => by
    obtain ⟨i, e⟩ := List.mem_iff_getElem?.mp hx
    exact (at_ i x e).2.1
  refine ⟨cs, rfl, ?_⟩
  have n0 : cs ≠ [] := fun z => h0 (by rw [z]; rfl)
  have ce := (List.dropLast_concat_getLast n0)
  have al : ∀ i c, cs[i]? = some c → i < 5 ∧ (decide (c.b = []) && !c.o) = decide (i = cs.length - 1) := fun i c e => by
    have := at_ i (csD c) (by rw [List.getElem?_map, e]; rfl)
    rw [List.length_map] at this
    exact ⟨this.1, this.2.2⟩
  have hn : 0 < cs.length := List.length_pos_iff.mpr n0
  have lst := al (cs.length - 1) (cs.getLast n0) (by rw [List.getLast_eq_getElem]; exact List.getElem?_eq_getElem _)
  have l5 : cs.length ≤ 5 := by
    have := lst.1
    omega
  have e2 := lst.2
  rw [decide_eq_true rfl] at e2
  obtain ⟨b1, b2⟩ := and_t e2
  have b1 := of_decide_eq_true b1
  have b2 : (cs.getLast n0).o = false := by simpa using b2
  have lp := (ok (cs.getLast n0) (List.getLast_mem n0)).2.2
  refine ⟨cs.dropLast, (cs.getLast n0).p, ?_, fun c hc => ?_, lp, by rw [List.length_dropLast]; omega⟩
  · conv => lhs; rw [← ce]
    rw [cs_eta b1 b2]
  · obtain ⟨i, e⟩ := List.mem_iff_getElem?.mp hc
    have hi := (List.getElem?_eq_some_iff.mp e).1
    rw [List.length_dropLast] at hi
    have ec : cs[i]? = some c := by
      rw [← e, List.getElem?_dropLast]
      rw [if_pos hi]
    obtain ⟨o1, o2, o3⟩ := ok c (List.mem_of_getElem? ec)
    have q := (al i c ec).2
    rw [decide_eq_false (by omega : ¬ i = cs.length - 1)] at q
    refine ⟨o1, o2, fun ⟨z1, z2⟩ => ?_, o3⟩
    rw [z1, z2] at q
    cases q
theorem enL_len (us : List D) : (enL us).length = us.length := by
  unfold enL
  simp
def noD : Option Nat → D
  | none => .non
  | some j => .int j
theorem first_wrong_g {k : Nat} {hd : Hd} {xs : List D} (ho : ∀ x ∈ xs, Oc x) : callF T (k + 4) ("", "_first_wrong") [.tup xs] [] hd = .ok (noD (wrX xs)) hd := by
  rw [D_first_wrong.c0]
  have run := forV_fst (hd := hd) (badX xs) (fun j => .int j) (fun env => ∃ k2 k3, env = [some (.tup xs), some (.int ((xs.length : Int) - 1)), k2, k3])
    (sto := storeS (.names [2, 3])) (body := fun env hd => evS ⟨T, callF T (k + 3)⟩ D_first_wrong.b0 env hd) (enL xs) 0 [some (.tup xs), some (.int ((xs.length : Int) - 1)), none, none] ⟨none, none, rfl⟩ fun j v env q p => by
      obtain ⟨k2, k3, rfl⟩ := p
      obtain ⟨u, q1, rfl⟩ := enL_get q
      have hj : j < xs.length := (List.getElem?_eq_some_iff.mp q1).1
      rw [Nat.zero_add]
      refine ⟨_, store_names items_tup rfl, ?_⟩
      have e1 := case_g (k := k) (hd := hd) (ho u (List.mem_of_getElem? q1))
      have e3 : decide ((j : Int) = (xs.length : Int) - 1) = decide (j = xs.length - 1) := decide_eq_decide.mpr (by omega)
      unfold badX
      rw [q1]
      dsimp only
      by_cases h5 : 5 ≤ j
      · refine .inl ⟨by rw [decide_eq_true h5]; rfl, ?_⟩
        simp [D_first_wrong.b0, setAll, con_cases, show (5 : Int) ≤ (j : Int) by omega]
      · rw [decide_eq_false h5, Bool.false_or]
        cases hc : csB u with
        | false =>
          refine .inl ⟨rfl, ?_⟩
          rw [hc] at e1
          simp [D_first_wrong.b0, setAll, con_cases, show ¬ ((5 : Int) ≤ (j : Int)) by omega, e1]
        | true =>
          rw [hc] at e1
          obtain ⟨c, rfl, hk⟩ := cs_of hc
          have e2 := is_else_ (k := k + 2) (hd := hd) (c := c)
          rw [el_cs]
          cases hb : (decide (c.b = []) && !c.o) <;> cases hl : decide (j = xs.length - 1) <;> rw [hb] at e2 <;> rw [hl] at e3
          · exact .inr ⟨rfl, _, by simp [D_first_wrong.b0, setAll, con_cases, show ¬ ((5 : Int) ≤ (j : Int)) by omega, e1, e2, e3], some (.int j), some (csD c), rfl⟩
          · exact .inl ⟨rfl, by simp [D_first_wrong.b0, setAll, con_cases, show ¬ ((5 : Int) ≤ (j : Int)) by omega, e1, e2, e3]⟩
          · exact .inl ⟨rfl, by simp [D_first_wrong.b0, setAll, con_cases, show ¬ ((5 : Int) ≤ (j : Int)) by omega, e1, e2, e3]⟩
          · exact .inr ⟨rfl, _, by simp [D_first_wrong.b0, setAll, con_cases, show ¬ ((5 : Int) ≤ (j : Int)) by omega, e1, e2, e3], some (.int j), some (csD c), rfl⟩
  rw [enL_len] at run
  unfold wrX
  rcases run with ⟨j, e1, e2⟩ | ⟨e1, env', e2, k2, k3, rfl⟩
  · rw [e1]
    simp [D_first_wrong.tree, it_enum, e2, fin_same, noD]
  · rw [e1]
    simp [D_first_wrong.tree, it_enum, e2, fin_same, noD]
end Z
/-! P3: a program made, or refused. -/
namespace Z
open PySem
theorem evS_raise {g : G} {env : Env} {hd : Hd} {C : String} {es : Es} : evS g (.raise C es) env hd = (evEs g es env hd).to env fun xs hd => match g.T.exc C with
    | some x => if xs.length = 1 ∧ x.fld.length = 1 then .exc C (x.fld.zip xs) env hd else .bad
    | none => .bad := rfl
theorem evE_told {g : G} {env : Env} {hd : Hd} {e : E} : evE g (.told e) env hd = toldS g.T (evE g e env hd) := rfl
theorem exc_name : T.exc "InvalidName" = some XCInvalidName.ex := by rfl
theorem exc_cases : T.exc "InvalidCases" = some XCInvalidCases.ex := by rfl
theorem raise_name {F : String × String → List D → List (String × D) → Hd → R D} {env : Env} {hd : Hd} {i : Nat} {d : D} (h : env[i]? = some (some d)) : evS ⟨T, F⟩ (.raise "InvalidName" (.cons (.var i) .nil)) env hd = .exc "InvalidName" [("given", d)] env hd := by
  rw [evS_raise]
  simp only [evEs_more, evEs_nil, ne_eq, reduceCtorEq, not_false_eq_true, implies_true, evE_var, h, R.bind_ok, R.to_ok, exc_name]
  rfl
theorem raise_cases {F : String × String → List D → List (String × D) → Hd → R D} {env : Env} {hd : Hd} {e : E} {d : D} (h : evE ⟨T, F⟩ e env hd = .ok d hd) (n : ∀ y, e ≠ .star y) : evS ⟨T, F⟩ (.raise "InvalidCases" (.cons e .nil)) env hd = .exc "InvalidCases" [("index", d)] env hd := by
  rw [evS_raise]
  rw [evEs_more n, h]
  simp only [evEs_nil, R.bind_ok, R.to_ok, exc_cases]
  rfl
/-- what may be handed over as the cases -/
def Ox : D → Prop
  | .tup xs => xs.length ≤ 1000 ∧ ∀ x ∈ xs, Oc x
  | d => Od d
theorem Ox.od {d : D} (h : Ox d) : Od d := by
  cases d <;> first
    | exact h
    | exact h.1
/-- the place of the fault, where there is one -/
def fault : D → Option (Option Nat)
  | .tup [] => some none
  | .tup xs => (wrX xs).map some
  | _ => some none
theorem fault_none {d : D} (h : fault d = none) : ∃ cs, d = .tup (cs.map csD) ∧ Cz cs := by
  cases d with
  | tup xs =>
    cases xs with
    | nil => cases h
    | cons y ys =>
      have h : (wrX (y :: ys)).map some = none := h
      obtain ⟨cs, e, hc⟩ := cz_of (by simp) (Option.map_eq_none_iff.mp h)
      exact ⟨cs, by rw [e], hc⟩
  | _ => cases h
section
variable {k n : Nat} {hd : Hd} {d x : D}
theorem init_name (od : Od d) (nm_ : nmD d = false) : evS ⟨T, callF T (k + 4)⟩ DProgram_u_init_u.tree [some (.obj n), some d, some x, none] hd = .exc "InvalidName" [("given", d)] [some (.obj n), some d, some x, none] hd := by
  have e1 := name_g (k := k + 3) (hd := hd) od
  rw [nm_] at e1
  simp [DProgram_u_init_u.tree, e1, raise_name]
theorem init_cases {j : Option Nat} (od : Od d) (nm_ : nmD d = true) (ox : Ox x) (hf : fault x = some j) : ∃ w, evS ⟨T, callF T (k + 4)⟩ DProgram_u_init_u.tree [some (.obj n), some d, some x, none] hd = .exc "InvalidCases" [("index", noD j)] [some (.obj n), some d, some x, w] hd := by
  have e1 := name_g (k := k + 3) (hd := hd) od
  rw [nm_] at e1
  have rn : ∀ env, evS ⟨T, callF T (k + 4)⟩ (.raise "InvalidCases" (.cons (.con .non) .nil)) env hd = .exc "InvalidCases" [("index", .non)] env hd := fun env => raise_cases rfl (fun y z => by cases z)
  cases ht : odT x with
  | false =>
    have : j = none := by
      cases x <;> first
        | (cases ht; done)
        | (cases hf; rfl)
    subst this
    refine ⟨none, ?_⟩
    simp [DProgram_u_init_u.tree, e1, isi_t ox.od, ht, rn, noD]
  | true =>
    cases x with
    | tup xs =>
      cases xs with
      | nil =>
        cases hf
        refine ⟨none, ?_⟩
        simp [DProgram_u_init_u.tree, e1, isi_tup, rn, noD]
      | cons y ys =>
        have e2 := first_wrong_g (k := k) (hd := hd) ox.2
        obtain ⟨q, e3, rfl⟩ := Option.map_eq_some_iff.mp (show (wrX (y :: ys)).map some = some j from hf)
        rw [e3] at e2
        refine ⟨some (.int q), ?_⟩
        have rr : evS ⟨T, callF T (k + 4)⟩ (.raise "InvalidCases" (.cons (.var 3) .nil)) [some (.obj n), some d, some (.tup (y :: ys)), some (.int q)] hd = .exc "InvalidCases" [("index", .int q)] [some (.obj n), some d, some (.tup (y :: ys)), some (.int q)] hd := raise_cases rfl (fun y z => by cases z)
        simp [DProgram_u_init_u.tree, e1, isi_tup, e2, isNon, noD, rr, show ¬ ((ys.length : Int) + 1 = 0) by omega]
    | _ => cases ht
theorem new_exc {C : String} {fs : List (String × D)} {env : Env} (e : evS ⟨T, callF T k⟩ DProgram_u_init_u.tree [some (.obj hd.length), some d, some x, none] (hd ++ [.ins "Program" []]) = .exc C fs env (hd ++ [.ins "Program" []])) (lw : low.lowf hd.length fs = true) (ss : Ss hd) :
    newS ⟨T, callF T (k + 1)⟩ "Program" [d, x] [] hd = .exc C fs hd := by
  unfold newS
  dsimp only
  rw [DProgram_u_init_u.c0, e]
  have f : fin false (hd ++ [MO.ins "Program" []]).length (.exc C fs env (hd ++ [MO.ins "Program" []])) = .exc C fs (hd ++ [MO.ins "Program" []]) := if_pos rfl
  rw [f]
  dsimp only
  have tk : (hd ++ [MO.ins "Program" []]).take hd.length = hd := by simp
  rw [tk, if_pos ⟨lw, ss.low _⟩]
end
def wName : List Nat := [73, 110, 118, 97, 108, 105, 100, 78, 97, 109, 101]
def wCases : List Nat := [73, 110, 118, 97, 108, 105, 100, 67, 97, 115, 101, 115]
def wTold : List Nat := [116, 111, 108, 100]
/-- where it stands, shown -/
def shN : Option Nat → List Nat
  | none => [78, 111, 110, 101]
  | some j => decI j
theorem sh_no {hd : Hd} {j : Option Nat} (h : ∀ i, j = some i → i ≤ 5) : shwS (noD j) hd = .ok (.str (shN j)) hd := by
  cases j with
  | none => rfl
  | some i =>
    have hi := h i rfl
    have : i = 0 ∨ i = 1 ∨ i = 2 ∨ i = 3 ∨ i = 4 ∨ i = 5 := by omega
    rcases this with rfl | rfl | rfl | rfl | rfl | rfl <;> rfl
theorem fst_le {b : Nat → Bool} : ∀ {n i j m : Nat}, fstN b i n = some j → b m = true → i ≤ m → m < i + n → j ≤ m
  | 0, _, _, _, h, _, _, _ => by cases h
  | n + 1, i, j, m, h, hb, h1, h2 => by
    unfold fstN at h
    split at h
    · cases h
      exact h1
    · rename_i hn
      by_cases e : m = i
      · rw [e] at hb
        exact absurd hb hn
      · exact fst_le h hb (by omega) (by omega)
theorem wr_le {xs : List D} {j : Nat} (h : wrX xs = some j) : j ≤ 5 := by
  by_cases hl : 5 < xs.length
  · refine fst_le h ?_ (Nat.zero_le _) (by omega)
    unfold badX
    rw [List.getElem?_eq_getElem hl]
    rfl
  · have := (fst_some h).2.1
    omega
theorem fault_le {d : D} {j : Option Nat} (h : fault d = some j) : ∀ i, j = some i → i ≤ 5 := fun i e => by
  subst e
  cases d with
  | tup xs =>
    cases xs with
    | nil => cases h
    | cons y ys =>
      obtain ⟨q, e3, e4⟩ := Option.map_eq_some_iff.mp (show (wrX (y :: ys)).map some = some (some i) from h)
      cases e4
      exact wr_le e3
  | _ => cases h
section
variable {k : Nat} {hd : Hd} {d x : D}
theorem told_name {s : List Nat} (od : Od d) (nm_ : nmD d = false) (lw : low hd.length d = true) (sh : shwS d hd = .ok (.str s) hd) (ss : Ss hd) : toldS T (newS ⟨T, callF T (k + 5)⟩ "Program" [d, x] [] hd) = .ok (.lst [.str wName, .str s]) hd := by
  rw [new_exc (init_name od nm_) (by show (low hd.length d && true) = true; rw [lw]; rfl) ss]
  show (match T.exc "InvalidName" with
    | some x => _
    | none => R.bad) = _
  rw [exc_name]
  show (shwS d hd).st.bind _ = _
  rw [sh]
  rfl
theorem told_cases {j : Option Nat} (od : Od d) (nm_ : nmD d = true) (ox : Ox x) (hf : fault x = some j) (ss : Ss hd) : toldS T (newS ⟨T, callF T (k + 5)⟩ "Program" [d, x] [] hd) = .ok (.lst [.str wCases, .str (shN j)]) hd := by
  obtain ⟨w, e⟩ := init_cases (k := k) (n := hd.length) (hd := hd ++ [.ins "Program" []]) od nm_ ox hf
  rw [new_exc e (by show (low hd.length (noD j) && true) = true; cases j <;> rfl) ss]
  show (match T.exc "InvalidCases" with
    | some x => _
    | none => R.bad) = _
  rw [exc_cases]
  show (shwS (noD j) hd).st.bind _ = _
  rw [sh_no (fault_le hf)]
  rfl
theorem nm_of (h : nmD d = true) : ∃ z, d = .str z ∧ Nm z := by
  cases d with
  | str z =>
    obtain ⟨h1, h2⟩ := and_t (show ((decide (1 ≤ z.length) && decide (z.length ≤ 8)) && (hdB z && z.all fun c => decide (c ∈ lt ++ dg))) = true from h)
    obtain ⟨h3, h4⟩ := and_t h1
    obtain ⟨h5, h6⟩ := and_t h2
    refine ⟨z, rfl, ⟨of_decide_eq_true h3, of_decide_eq_true h4⟩, ?_, fun c hc => of_decide_eq_true (List.all_eq_true.mp h6 c hc)⟩
    cases z with
    | nil => cases h5
    | cons c r => exact ⟨c, rfl, of_decide_eq_true h5⟩
  | _ => cases h
end
end Z
/-! P4: the law's own checks, of whatever data. -/
namespace Z
open PySem
theorem is_tag_g {k : Nat} {hd : Hd} {d : D} (h : Od d) : callF T (k + 1) ("", "_law_is_tag") [d] [] hd = .ok (.bl (nmD d)) hd := by
  cases hs : odS d with
  | false =>
    rw [D_law_is_tag.c0, (notS hs).2]
    simp [D_law_is_tag.tree, isi_s h, hs, fin_same]
  | true =>
    cases d with
    | str z =>
      have hz : z.length ≤ line := Nat.le_trans h (by decide)
      rw [D_law_is_tag.c0]
      by_cases c1 : 1 ≤ z.length ∧ z.length ≤ 8
      · cases z with
        | nil => simp at c1
        | cons c r =>
          have a1 : ∀ hd, binS false .Add (.str [97, 98, 99, 100, 101, 102, 103, 104, 105, 106, 107, 108, 109, 110, 111, 112, 113, 114, 115, 116, 117, 118, 119, 120, 121, 122]) (.str [48, 49, 50, 51, 52, 53, 54, 55, 56, 57]) hd = .ok (.str (lt ++ dg)) hd := fun hd => add_str (by decide)
          have e := lcV_maps (item := fun c => D.str [c]) (f := fun c => D.bl (decide (c ∈ lt ++ dg))) (sto := storeS (.name 2)) (elt := fun env hd => evE ⟨T, callF T k⟩ D_law_is_tag.e0 env hd) (env := [some (.str (c :: r)), some (.str [97, 98, 99, 100, 101, 102, 103, 104, 105, 106, 107, 108, 109, 110, 111, 112, 113, 114, 115, 116, 117, 118, 119, 120, 121, 122]), none]) (hd := hd) (c :: r) hz fun c hc => ⟨_, rfl, by simp only [D_law_is_tag.e0, evE_cmp, evE_var, evE_bin, evE_con, a1, List.set_cons_succ, List.set_cons_zero, List.getElem?_cons_succ, List.getElem?_cons_zero, R.bind_ok, in_str, R.st_ok]⟩
          have ab := all_bls (g := ⟨T, callF T k⟩) (m := false) (hd := hd) (p := fun c => decide (c ∈ lt ++ dg)) (c :: r)
          have q2 : ¬ ((8 : Int) < ((c :: r).length : Int)) := by omega
          have nd : nmD (.str (c :: r)) = (decide (c ∈ lt) && (c :: r).all fun c => decide (c ∈ lt ++ dg)) := by
            show ((decide (1 ≤ (c :: r).length) && decide ((c :: r).length ≤ 8)) && (decide (c ∈ lt) && _)) = _
            rw [decide_eq_true c1.1, decide_eq_true c1.2]
            rfl
          rw [nd]
          have pre : ∀ b : Bool, decide (c ∈ lt) = b → fin false hd.length (evS ⟨T, callF T k⟩ D_law_is_tag.tree [some (.str (c :: r)), none, none] hd) = .ok (.bl (b && (c :: r).all fun c => decide (c ∈ lt ++ dg))) hd := fun b cx => by
            have inl : ∀ hd, cmpS ⟨T, callF T k⟩ .In (.str [c]) (.str [97, 98, 99, 100, 101, 102, 103, 104, 105, 106, 107, 108, 109, 110, 111, 112, 113, 114, 115, 116, 117, 118, 119, 120, 121, 122]) hd = .ok (.bl b) hd := fun hd => by
              rw [← cx]
              exact in_str
            have g8 : ∀ hd, cmpS ⟨T, callF T k⟩ .Gt (.int ((c :: r).length : Nat)) (.int 8) hd = .ok (.bl false) hd := fun hd => by
              rw [gt_int, decide_eq_false q2]
            have e0 : ∀ hd, cmpS ⟨T, callF T k⟩ .Eq (.str (c :: r)) (.str []) hd = .ok (.bl false) hd := fun hd => by
              rw [eq_str]
              rfl
            cases b with
            | true => simp only [D_law_is_tag.tree, evS_seq, evS_set, evS_ifs, evE_or, evE_not, evE_isi, evE_var, List.getElem?_cons_zero, List.getElem?_cons_succ, R.bind_ok, isi_str, R.of_some, truthR_ok, truth_bl, Bool.not_true, Bool.false_eq_true, if_false, evE_con, evE_bi, evEs_more, evEs_nil, ne_eq, reduceCtorEq, not_false_eq_true, implies_true, len_str hz, R.st_ok, if_true, R.to_ok, evS_skip, O.then_nx, evS_ret, evE_and, evE_ix, ix_str hz (at0 rfl), evE_cmp, inl, g8, e0, storeS, evE_lc, it_str hz, wipe, List.set_cons_succ, List.set_cons_zero, evAll_nil, e, mkL, ab, O.then_rt, fin_same, Bool.true_and]
            | false => simp only [D_law_is_tag.tree, evS_seq, evS_set, evS_ifs, evE_or, evE_not, evE_isi, evE_var, List.getElem?_cons_zero, List.getElem?_cons_succ, R.bind_ok, isi_str, R.of_some, truthR_ok, truth_bl, Bool.not_true, Bool.false_eq_true, if_false, evE_con, evE_bi, evEs_more, evEs_nil, ne_eq, reduceCtorEq, not_false_eq_true, implies_true, len_str hz, R.st_ok, if_true, R.to_ok, evS_skip, O.then_nx, evS_ret, evE_and, evE_ix, ix_str hz (at0 rfl), evE_cmp, inl, g8, e0, storeS, evE_lc, it_str hz, wipe, List.set_cons_succ, List.set_cons_zero, evAll_nil, e, mkL, ab, O.then_rt, fin_same, Bool.false_and]
          exact pre _ rfl
      · have nd : nmD (.str z) = false := by
          show ((decide (1 ≤ z.length) && decide (z.length ≤ 8)) && _) = false
          have : (decide (1 ≤ z.length) && decide (z.length ≤ 8)) = false := by
            rw [← Bool.decide_and]
            exact decide_eq_false c1
          rw [this]
          rfl
        rw [nd]
        cases z with
        | nil => simp [D_law_is_tag.tree, isi_str, fin_same]
        | cons c r =>
          have q2 : (8 : Int) < ((c :: r).length : Int) := by
            simp only [List.length_cons] at c1 ⊢
            omega
          have g8 : ∀ hd, cmpS ⟨T, callF T k⟩ .Gt (.int ((c :: r).length : Nat)) (.int 8) hd = .ok (.bl true) hd := fun hd => by
            rw [gt_int, decide_eq_true q2]
          have e0 : ∀ hd, cmpS ⟨T, callF T k⟩ .Eq (.str (c :: r)) (.str []) hd = .ok (.bl false) hd := fun hd => by
            rw [eq_str]
            rfl
          simp only [D_law_is_tag.tree, evS_seq, evS_set, evS_ifs, evE_or, evE_not, evE_isi, evE_var, List.getElem?_cons_zero, List.getElem?_cons_succ, R.bind_ok, isi_str, R.of_some, truthR_ok, truth_bl, Bool.not_true, Bool.false_eq_true, if_false, evE_con, evE_bi, evEs_more, evEs_nil, ne_eq, reduceCtorEq, not_false_eq_true, implies_true, len_str hz, R.st_ok, if_true, R.to_ok, evS_skip, O.then_nx, evS_ret, evE_cmp, g8, e0, storeS, List.set_cons_succ, List.set_cons_zero, O.then_rt, fin_same]
    | _ => cases hs
theorem front_g {k : Nat} {hd : Hd} {d : D} (h : Od d) : callF T (k + 1) ("", "_law_is_front") [d] [] hd = .ok (.bl (mkB d)) hd := by
  rw [D_law_is_front.c0]
  cases hs : odS d with
  | false =>
    rw [(notS hs).1]
    simp [D_law_is_front.tree, isi_s h, hs, fin_same]
  | true =>
    cases d with
    | str z =>
      have hz : z.length ≤ line := Nat.le_trans h (by decide)
      have e := lcV_maps (item := fun c => D.str [c]) (f := fun c => D.bl (decide (c ∈ sg))) (sto := storeS (.name 1)) (elt := fun env hd => evE ⟨T, callF T k⟩ D_law_is_front.e0 env hd) (env := [some (.str z), none]) (hd := hd) z hz fun c hc => ⟨_, rfl, by simp only [D_law_is_front.e0, evE_cmp, evE_var, evE_con, List.set_cons_succ, List.set_cons_zero, List.getElem?_cons_succ, List.getElem?_cons_zero, R.bind_ok, in_str, R.st_ok]; rfl⟩
      have ab := all_bls (g := ⟨T, callF T k⟩) (m := false) (hd := hd) (p := fun c => decide (c ∈ sg)) z
      simp only [D_law_is_front.tree, evS_seq, evE_isi, evE_var, List.getElem?_cons_zero, R.bind_ok, isi_str, R.of_some, truth_bl, if_true, evE_bi, evEs_more, evEs_nil, ne_eq, reduceCtorEq, not_false_eq_true, implies_true, R.st_ok, R.to_ok, evS_ret, evE_and, evE_lc, it_str hz, wipe, List.set_cons_succ, List.set_cons_zero, evAll_nil, e, mkL, Bool.false_eq_true, if_false, ab, O.then_rt, fin_same]
      rfl
    | _ => cases hs
end Z
/-! P5: the law's check of a case. -/
namespace Z
open PySem
section
variable {k : Nat} {hd : Hd} {b o p : D}
theorem ix0 : ixS (.tup [b, o, p]) (.int 0) hd = .ok b hd := ix_items items_tup rfl
theorem ix1 : ixS (.tup [b, o, p]) (.int 1) hd = .ok o hd := ix_items items_tup rfl
theorem ix2 : ixS (.tup [b, o, p]) (.int 2) hd = .ok p hd := ix_items items_tup rfl
def putE : E := .or (.cmp .Is (.ix (.var 0) (.con (.int 2))) (.con (.non))) (.and (.isi (.ix (.var 0) (.con (.int 2))) false "str") (.and (.cmp .Lt (.bi false .len (.cons (.ix (.var 0) (.con (.int 2))) .nil)) (.con (.int 4))) (.bi false .all (.cons (.lc false D_law_is_step.e0 [1] (.name 1) .plain (.cons (.ix (.var 0) (.con (.int 2))) .nil) .nil) .nil))))
theorem put_e (hp : Od p) : evE ⟨T, callF T k⟩ putE [some (.tup [b, o, p]), none] hd = .ok (.bl (ptB p)) hd := by
  cases hs : odS p with
  | false =>
    cases p <;> first
      | exact hp.elim
      | (cases hs; done)
      | simp [putE, isNon, ptB, ix2, isi_s hp, odS]
  | true =>
    cases p with
    | str z =>
      have hz : z.length ≤ line := Nat.le_trans hp (by decide)
      have e := lcV_maps (item := fun c => D.str [c]) (f := fun c => D.bl (decide (c ∈ sg ∨ c = 64))) (sto := storeS (.name 1)) (elt := fun env hd => evE ⟨T, callF T k⟩ D_law_is_step.e0 env hd) (env := [some (.tup [b, o, .str z]), none]) (hd := hd) z hz fun c hc => ⟨_, rfl, by
        simp only [D_law_is_step.e0, evE_cmp, evE_var, evE_con, List.set_cons_succ, List.set_cons_zero, List.getElem?_cons_succ, List.getElem?_cons_zero, R.bind_ok, in_str, R.st_ok]
        rw [show decide (c ∈ [35, 42, 43, 58, 61, 62, 124, 64]) = decide (c ∈ sg ∨ c = 64) from decide_eq_decide.mpr (by simp [sg, or_assoc])]⟩
      have ab := all_bls (g := ⟨T, callF T k⟩) (m := false) (hd := hd) (p := fun c => decide (c ∈ sg ∨ c = 64)) z
      have is_ : ∀ hd, cmpS ⟨T, callF T k⟩ .Is (.str z) .non hd = .ok (.bl false) hd := fun hd => by simp [isNon]
      by_cases c3 : z.length ≤ 3
      · have l4 : ∀ hd, cmpS ⟨T, callF T k⟩ .Lt (.int (z.length : Nat)) (.int 4) hd = .ok (.bl true) hd := fun hd => by rw [lt_int, decide_eq_true (by omega)]
        rw [show ptB (.str z) = z.all fun c => decide (c ∈ sg ∨ c = 64) by show (decide (z.length ≤ 3) && _) = _; rw [decide_eq_true c3]; rfl]
        simp only [putE, evE_or, evE_and, evE_cmp, evE_ix, evE_var, List.getElem?_cons_zero, evE_con, R.bind_ok, ix2, R.st_ok, is_, R.of_some, truth_bl, Bool.false_eq_true, if_false, evE_isi, isi_str, if_true, evE_bi, evEs_more, evEs_nil, ne_eq, reduceCtorEq, not_false_eq_true, implies_true, len_str hz, l4, evE_lc, it_str hz, wipe, List.set_cons_succ, List.set_cons_zero, evAll_nil, e, mkL, ab]
      · have l4 : ∀ hd, cmpS ⟨T, callF T k⟩ .Lt (.int (z.length : Nat)) (.int 4) hd = .ok (.bl false) hd := fun hd => by rw [lt_int, decide_eq_false (by omega)]
        rw [show ptB (.str z) = false by show (decide (z.length ≤ 3) && _) = _; rw [decide_eq_false c3]; rfl]
        simp only [putE, evE_or, evE_and, evE_cmp, evE_ix, evE_var, List.getElem?_cons_zero, evE_con, R.bind_ok, ix2, R.st_ok, is_, R.of_some, truth_bl, Bool.false_eq_true, if_false, evE_isi, isi_str, if_true, evE_bi, evEs_more, evEs_nil, ne_eq, reduceCtorEq, not_false_eq_true, implies_true, len_str hz, l4]
    | _ => cases hs
end
theorem step_tree : D_law_is_step.tree = (.seq (.ifs (.or (.not (.isi (.var 0) false "tuple")) (.or (.cmp .NotEq (.bi false .len (.cons (.var 0) .nil)) (.con (.int 3))) (.or (.not (.fn "_law_is_front" (.cons (.ix (.var 0) (.con (.int 0))) .nil) [] .nil)) (.cmp .Gt (.bi false .len (.cons (.ix (.var 0) (.con (.int 0))) .nil)) (.con (.int 2)))))) (.seq (.ret (.con (.bl false)))
      .skip) .skip)
      (.seq (.ifs (.or (.not (.isi (.ix (.var 0) (.con (.int 1))) false "bool")) (.and (.ix (.var 0) (.con (.int 1))) (.cmp .Eq (.bi false .len (.cons (.ix (.var 0) (.con (.int 0))) .nil)) (.con (.int 2))))) (.seq (.ret (.con (.bl false)))
      .skip) .skip)
      (.seq (.ret putE)
      .skip))) := rfl
theorem step_g {k : Nat} {hd : Hd} {d : D} (h : Oc d) : callF T (k + 2) ("", "_law_is_step") [d] [] hd = .ok (.bl (csB d)) hd := by
  rw [D_law_is_step.c0]
  cases ht : odT d with
  | false =>
    rw [show csB d = false by cases d <;> first | rfl | (cases ht; done)]
    simp [D_law_is_step.tree, isi_t h.od, ht, fin_same]
  | true =>
    cases d with
    | tup xs =>
      obtain ⟨hl, ho⟩ := h
      by_cases h3 : xs.length = 3
      · match xs, h3, ho with
        | [b, o, p], _, ho =>
          have ob := ho b (by simp)
          have oo := ho o (by simp)
          have op := ho p (by simp)
          have fr := front_g (k := k) (hd := hd) ob
          have pe := put_e (k := k + 1) (hd := hd) (b := b) (o := o) op
          have n3 : ∀ hd, cmpS ⟨T, callF T (k + 1)⟩ .NotEq (.int (([b, o, p] : List D).length : Nat)) (.int 3) hd = .ok (.bl false) hd := fun hd => by rw [ne_int]; rfl
          cases hb : mkB b with
          | false =>
            rw [hb] at fr
            rw [show csB (.tup [b, o, p]) = false by
              cases o <;> first
                | rfl
                | (show (bgB b _ && _) = false; unfold bgB; rw [hb]; rfl)]
            simp [step_tree, isi_tup, n3, ix0, fr, fin_same, ne_int]
          | true =>
            rw [hb] at fr
            obtain ⟨z, rfl⟩ := mk_s hb
            have hz : z.length ≤ line := Nat.le_trans ob (by decide)
            by_cases h2 : z.length ≤ 2
            · cases hbo : odB o with
              | false =>
                rw [show csB (.tup [.str z, o, p]) = false by cases o <;> first | rfl | (cases hbo; done)]
                simp [D_law_is_step.tree, isi_tup, ix0, ix1, fr, fin_same, ne_int, len_str hz, show ¬ (2 : Int) < (z.length : Int) by omega, isi_b oo, hbo]
              | true =>
                cases o with
                | bl o =>
                  have ec : csB (.tup [.str z, .bl o, p]) = (decide (z.length ≤ if o = true then 1 else 2) && ptB p) := by
                    show (bgB (.str z) o && ptB p) = _
                    unfold bgB
                    rw [hb]
                    rfl
                  rw [ec]
                  cases o with
                  | false =>
                    rw [if_neg (by decide), decide_eq_true h2, Bool.true_and]
                    simp [step_tree, isi_tup, ix0, ix1, fr, fin_same, ne_int, len_str hz, show ¬ (2 : Int) < (z.length : Int) by omega, isi_bl, pe]
                  | true =>
                    rw [if_pos rfl]
                    by_cases h1 : z.length ≤ 1
                    · rw [decide_eq_true h1, Bool.true_and]
                      simp [step_tree, isi_tup, ix0, ix1, fr, fin_same, ne_int, len_str hz, show ¬ (2 : Int) < (z.length : Int) by omega, isi_bl, pe, show ¬ (z.length : Int) = 2 by omega]
                    · rw [decide_eq_false h1, Bool.false_and]
                      simp [step_tree, isi_tup, ix0, ix1, fr, fin_same, ne_int, len_str hz, show ¬ (2 : Int) < (z.length : Int) by omega, isi_bl, show (z.length : Int) = 2 by omega]
                | _ => cases hbo
            · rw [show csB (.tup [.str z, o, p]) = false by
                cases o with
                | bl q =>
                  show ((mkB (.str z) && decide (z.length ≤ if q = true then 1 else 2)) && _) = false
                  rw [decide_eq_false (by split <;> omega), Bool.and_false]
                  rfl
                | _ => rfl]
              simp [D_law_is_step.tree, isi_tup, ix0, fr, fin_same, ne_int, len_str hz, show (2 : Int) < (z.length : Int) by omega]
      · have : csB (.tup xs) = false := by
          unfold csB
          split
          · rename_i e
            cases e
            exact absurd rfl h3
          · rfl
        rw [this]
        simp [D_law_is_step.tree, isi_tup, ne_int, fin_same, show ¬ ((xs.length : Int) = 3) by omega]
    | _ => cases ht
end Z
/-! P6: the fault as the law finds it; what is due. -/
namespace Z
open PySem
def ftD : Option (Option Nat) → D
  | none => .lst []
  | some j => .lst [noD j]
def ftA : S := (.ifs (.or (.not (.isi (.var 0) false "tuple")) (.cmp .Eq (.bi false .len (.cons (.var 0) .nil)) (.con (.int 0)))) (.seq (.ret (.lst false (.cons (.con (.non)) .nil)))
      .skip) .skip)
def ftB : S := (.for_ (.name 1) .range (.cons (.bi false .len (.cons (.var 0) .nil)) .nil) D_law_steps_fault.b0)
def ftC : S := .seq (.ret (.lst false .nil)) .skip
theorem t3 {F : String × String → List D → List (String × D) → Hd → R D} {env : Env} {hd : Hd} : evS ⟨T, F⟩ ftC env hd = .rt (.lst []) hd := by simp [ftC, mkL, line]
theorem il_ {hd : Hd} {n : Int} {l : Nat} (hn : n = (l : Int)) (h : l ≤ 1000) : iterS .range [.int n] hd = some (.inl (rng l)) := by
  have := it_rng (hd := hd) (n := n) (by omega) (by omega)
  rw [this, show n.toNat = l by omega]
theorem t2_ {k : Nat} {hd : Hd} {n : Int} {xs : List D} {l : Nat} (il : iterS .range [.int n] hd = some (.inl (rng l))) (lt_ : ∀ m : Bool, biS ⟨T, callF T (k + 2)⟩ m .len [.tup xs] hd = .ok (.int n) hd) :
   evS ⟨T, callF T (k + 2)⟩ ftB [some (.tup xs), none] hd = forV (storeS (.name 1)) (fun env hd => evS ⟨T, callF T (k + 2)⟩ D_law_steps_fault.b0 env hd) (rng l) [some (.tup xs), none] hd := by
          simp only [ftB, evS_for, evE_var, List.getElem?_cons_zero, R.bind_ok, evE_bi, evEs_more, evEs_nil, ne_eq, reduceCtorEq, not_false_eq_true, implies_true, lt_, R.st_ok, R.to_ok, il]
theorem fault_g {k : Nat} {hd : Hd} {x : D} (ox : Ox x) : callF T (k + 3) ("", "_law_steps_fault") [x] [] hd = .ok (ftD (fault x)) hd := by
  rw [D_law_steps_fault.c0]
  cases ht : odT x with
  | false =>
    rw [show fault x = some none by cases x <;> first | rfl | (cases ht; done)]
    simp [D_law_steps_fault.tree, isi_t ox.od, ht, fin_same, mkL, line, ftD, noD]
  | true =>
    cases x with
    | tup xs =>
      cases hx : xs with
      | nil => simp [D_law_steps_fault.tree, isi_tup, fin_same, mkL, line, ftD, noD, fault]
      | cons y ys =>
        rw [← hx]
        have n0 : ¬ ((xs.length : Int) = 0) := by rw [hx, List.length_cons]; omega
        have nn : ¬ xs = [] := by rw [hx]; simp
        have ff : fault (.tup xs) = (wrX xs).map some := by rw [hx]; rfl
        rw [ff]
        have run := forV_fst (hd := hd) (badX xs) (fun j => .lst [.int j]) (fun env => ∃ k1, env = [some (.tup xs), k1])
          (sto := storeS (.name 1)) (body := fun env hd => evS ⟨T, callF T (k + 2)⟩ D_law_steps_fault.b0 env hd) (rng xs.length) 0 [some (.tup xs), none] ⟨none, rfl⟩ fun j v env q p => by
            obtain ⟨k1, rfl⟩ := p
            obtain ⟨hj, rfl⟩ := rng_get q
            rw [Nat.zero_add]
            refine ⟨_, rfl, ?_⟩
            have q1 : xs[j]? = some xs[j] := List.getElem?_eq_getElem hj
            generalize xs[j] = u at q1
            have e1 := step_g (k := k) (hd := hd) (ox.2 u (List.mem_of_getElem? q1))
            have ixj : ixS (.tup xs) (.int j) hd = .ok u hd := ix_items items_tup (by
              unfold atI ixn
              rw [if_pos (by omega)]
              rw [if_pos (by omega)]
              exact q1)
            have e3 : decide ((j : Int) = (xs.length : Int) - 1) = decide (j = xs.length - 1) := decide_eq_decide.mpr (by omega)
            unfold badX
            rw [q1]
            dsimp only
            by_cases h5 : 5 ≤ j
            · refine .inl ⟨by rw [decide_eq_true h5]; rfl, ?_⟩
              simp [D_law_steps_fault.b0, show (4 : Int) < (j : Int) by omega, mkL, line]
            · rw [decide_eq_false h5, Bool.false_or]
              cases hc : csB u with
              | false =>
                refine .inl ⟨rfl, ?_⟩
                rw [hc] at e1
                simp [D_law_steps_fault.b0, show ¬ ((4 : Int) < (j : Int)) by omega, ixj, e1, mkL, line]
              | true =>
                rw [hc] at e1
                obtain ⟨c, rfl, hk⟩ := cs_of hc
                have x0 : ixS (csD c) (.int 0) hd = .ok (.str c.b) hd := ix0
                have x1 : ixS (csD c) (.int 1) hd = .ok (.bl c.o) hd := ix1
                rw [el_cs]
                cases hb : decide (c.b = []) <;> cases ho : c.o <;> cases hl : decide (j = xs.length - 1) <;> rw [hl] at e3 <;> first
                  | exact .inl ⟨rfl, by simp [D_law_steps_fault.b0, show ¬ ((4 : Int) < (j : Int)) by omega, ixj, e1, x0, x1, hb, ho, e3, mkL, line]⟩
                  | exact .inr ⟨rfl, _, by simp [D_law_steps_fault.b0, show ¬ ((4 : Int) < (j : Int)) by omega, ixj, e1, x0, x1, hb, ho, e3, mkL, line], some (.int j), rfl⟩
        rw [rng_len] at run
        unfold wrX
        have e0 : ∀ hd, cmpS ⟨T, callF T (k + 2)⟩ .Eq (.int (xs.length : Nat)) (.int 0) hd = .ok (.bl false) hd := fun hd => by rw [eq_int, decide_eq_false n0]
        have t1 : evS ⟨T, callF T (k + 2)⟩ ftA [some (.tup xs), none] hd = .nx [some (.tup xs), none] hd := by
          simp only [ftA, evS_ifs, evE_or, evE_not, evE_isi, evE_var, List.getElem?_cons_zero, R.bind_ok, isi_tup, R.of_some, truthR_ok, truth_bl, Bool.not_true, Bool.false_eq_true, if_false, evE_cmp, evE_bi, evEs_more, evEs_nil, ne_eq, reduceCtorEq, not_false_eq_true, implies_true, len_tup, R.st_ok, evE_con, e0, R.to_ok, evS_skip]
        have t2 := t2_ (k := k) (hd := hd) (n := (xs.length : Int)) (xs := xs) (l := xs.length) (il_ rfl ox.1) (fun m => rfl)
        rcases run with ⟨j, e1, e2⟩ | ⟨e1, env', e2, k1, rfl⟩
        · rw [e1]
          show fin false hd.length (O.then_ (evS ⟨T, callF T (k + 2)⟩ ftA [some (.tup xs), none] hd) fun env hd => O.then_ (evS ⟨T, callF T (k + 2)⟩ ftB env hd) fun env hd => evS ⟨T, callF T (k + 2)⟩ ftC env hd) = _
          rw [t1, O.then_nx, t2, e2, O.then_rt, fin_same rfl]
          rfl
        · rw [e1]
          show fin false hd.length (O.then_ (evS ⟨T, callF T (k + 2)⟩ ftA [some (.tup xs), none] hd) fun env hd => O.then_ (evS ⟨T, callF T (k + 2)⟩ ftB env hd) fun env hd => evS ⟨T, callF T (k + 2)⟩ ftC env hd) = _
          rw [t1, O.then_nx, t2, e2, O.then_nx, t3, fin_same rfl]
          rfl
    | _ => cases ht
theorem repr_od {g : G} {m : Bool} {d : D} {hd : Hd} (h : Od d) : biS g m .repr [d] hd = shwS d hd := by
  cases d <;> first
    | exact h.elim
    | rfl
theorem ne_ft {g : G} {hd : Hd} {f : Option (Option Nat)} : cmpS g .NotEq (ftD f) (.lst []) hd = .ok (.bl f.isSome) hd := by
  cases f with
  | none => exact cmp_ne (b := true) rfl (by intro C fs e; cases e)
  | some j =>
    cases j with
    | none => exact cmp_ne (b := false) rfl (by intro C fs e; cases e)
    | some i => exact cmp_ne (b := false) rfl (by intro C fs e; cases e)
/-- what is due -/
def dueD (d x : D) (s t : List Nat) : D := if nmD d = false then .lst [.str wName, .str s] else match fault x with
  | some j => .lst [.str wCases, .str (shN j)]
  | none => .lst [.str wTold, .str t]
theorem due_g {k : Nat} {hd : Hd} {d x : D} {s t : List Nat} (od : Od d) (ox : Ox x) (sh : nmD d = false → shwS d hd = .ok (.str s) hd) (tt : fault x = none → nmD d = true → ∀ z cs, d = .str z → x = .tup (cs.map csD) → Cz cs → t = textT z cs) :
    callF T (k + 4) ("", "_law_due") [d, x] [] hd = .ok (dueD d x s t) hd := by
  rw [D_law_due.c0]
  have e1 := is_tag_g (k := k + 2) (hd := hd) od
  unfold dueD
  cases hn : nmD d with
  | false =>
    rw [hn] at e1
    rw [if_pos rfl]
    simp [D_law_due.tree, e1, repr_od od, sh hn, mkL, line, fin_same, wName]
  | true =>
    rw [hn] at e1
    rw [if_neg (by decide)]
    have e2 := fault_g (k := k) (hd := hd) ox
    cases hf : fault x with
    | some j =>
      rw [hf] at e2
      have ne := ne_ft (g := ⟨T, callF T (k + 3)⟩) (hd := hd) (f := some j)
      have x0 : ixS (ftD (some j)) (.int 0) hd = .ok (noD j) hd := rfl
      have rj : biS ⟨T, callF T (k + 3)⟩ false .repr [noD j] hd = .ok (.str (shN j)) hd := (repr_od (by cases j <;> exact True.intro)).trans (sh_no (fault_le hf))
      simp [D_law_due.tree, e1, e2, ne, x0, rj, mkL, line, fin_same, wCases]
    | none =>
      rw [hf] at e2
      have ne := ne_ft (g := ⟨T, callF T (k + 3)⟩) (hd := hd) (f := none)
      obtain ⟨cs, rfl, hc⟩ := fault_none hf
      obtain ⟨z, rfl, hz⟩ := nm_of hn
      have e3 := law_text_ (k := k + 1) (hd := hd) hz hc
      rw [tt hf hn z cs rfl rfl hc]
      simp [D_law_due.tree, e1, e2, ne, e3, mkL, line, fin_same, wTold]
end Z
/-! P7: odd data. -/
namespace Z
open PySem
def odd0 : List D := [.non, .bl true, .bl false, .int (0), .int (1), .int (-1), .int (7), .int (1000000000000000000000000000000000000000), .str [], .str [97], .str [65], .str [97, 98, 49], .str [49, 97, 98], .str [97, 98, 99, 100, 101, 102, 103, 104, 105], .str [97, 32, 98], .str [97, 95, 98]]
def odd1 : List D := [.str [97, 110, 110, 10], .str [64], .str [62], .str [42], .str [62, 62], .str [124, 35], .str [62, 62, 62], .str [64, 64, 64], .str [64, 64, 64, 64], .str [62, 124, 120], .str [110, 111, 110, 101], .str [103, 111, 110, 101], .str [62, 32]]
def odd2 : List D := [.tup [], .tup [.non], .tup [.str [97], .str [62]], .tup [.str [97], .str [112], .str [97]], .tup [.str [], .bl false, .str [62]], .tup [.str [], .bl true, .str [64]], .tup [.str [62]]]
def odd3 : List D := [.tup [.str [97], .str [112]], .lst [], .lst [.str [97], .str [62]], .lst [.str [], .bl false, .str [62]], .lst [.int (0)], .dic [], .dic [(.str [97], .str [62])], .tup [.lst []], .tup [.str [97], .dic []]]
def odd4 : List D := [.tup [.dic [], .str [112], .lst []], .tup [.str [], .lst [], .dic []], .tup [.tup []], .str [97, 10, 62]]
def odds : List D := odd0 ++ odd1 ++ odd2 ++ odd3 ++ odd4
section
variable {F : String × String → List D → List (String × D) → Hd → R D} {env : Env} {hd : Hd}
def oddE0 : E := (.lst false (.cons (.con (.non)) (.cons (.con (.bl true)) (.cons (.con (.bl false)) (.cons (.con (.int 0)) (.cons (.con (.int 1)) (.cons (.neg (.con (.int 1))) (.cons (.con (.int 7)) (.cons (.bin false .Pow (.con (.int 10)) (.con (.int 39))) (.cons (.con (.str [])) (.cons (.con (.str [97])) (.cons (.con (.str [65])) (.cons (.con (.str [97, 98, 49])) (.cons (.con (.str [49, 97, 98])) (.cons (.con (.str [97, 98, 99, 100, 101, 102, 103, 104, 105])) (.cons (.con (.str [97, 32, 98])) (.cons (.con (.str [97, 95, 98])) .nil)))))))))))))))))
def oddE1 : E := (.lst false (.cons (.con (.str [97, 110, 110, 10])) (.cons (.con (.str [64])) (.cons (.con (.str [62])) (.cons (.con (.str [42])) (.cons (.con (.str [62, 62])) (.cons (.con (.str [124, 35])) (.cons (.con (.str [62, 62, 62])) (.cons (.con (.str [64, 64, 64])) (.cons (.con (.str [64, 64, 64, 64])) (.cons (.con (.str [62, 124, 120])) (.cons (.con (.str [110, 111, 110, 101])) (.cons (.con (.str [103, 111, 110, 101])) (.cons (.con (.str [62, 32])) .nil))))))))))))))
def oddE2 : E := (.lst false (.cons (.tup .nil) (.cons (.tup (.cons (.con (.non)) .nil)) (.cons (.tup (.cons (.con (.str [97])) (.cons (.con (.str [62])) .nil))) (.cons (.tup (.cons (.con (.str [97])) (.cons (.con (.str [112])) (.cons (.con (.str [97])) .nil)))) (.cons (.tup (.cons (.con (.str [])) (.cons (.con (.bl false)) (.cons (.con (.str [62])) .nil)))) (.cons (.tup (.cons (.con (.str [])) (.cons (.con (.bl true)) (.cons (.con (.str [64])) .nil)))) (.cons (.tup (.cons (.con (.str [62])) .nil)) .nil))))))))
def oddE3 : E := (.lst false (.cons (.tup (.cons (.con (.str [97])) (.cons (.con (.str [112])) .nil))) (.cons (.lst false .nil) (.cons (.lst false (.cons (.con (.str [97])) (.cons (.con (.str [62])) .nil))) (.cons (.lst false (.cons (.con (.str [])) (.cons (.con (.bl false)) (.cons (.con (.str [62])) .nil)))) (.cons (.lst false (.cons (.con (.int 0)) .nil)) (.cons (.dic .nil .nil) (.cons (.dic (.cons (.con (.str [97])) .nil) (.cons (.con (.str [62])) .nil)) (.cons (.tup (.cons (.lst false .nil) .nil)) (.cons (.tup (.cons (.con (.str [97])) (.cons (.dic .nil .nil) .nil))) .nil))))))))))
def oddE4 : E := (.lst false (.cons (.tup (.cons (.dic .nil .nil) (.cons (.con (.str [112])) (.cons (.lst false .nil) .nil)))) (.cons (.tup (.cons (.con (.str [])) (.cons (.lst false .nil) (.cons (.dic .nil .nil) .nil)))) (.cons (.tup (.cons (.tup .nil) .nil)) (.cons (.con (.str [97, 10, 62])) .nil)))))
theorem odd_tree : D_law_odd.tree = (.seq (.set (.name 1) oddE0) (.seq (.set (.name 1) (.bin false .Add (.var 1) oddE1)) (.seq (.set (.name 1) (.bin false .Add (.var 1) oddE2)) (.seq (.set (.name 1) (.bin false .Add (.var 1) oddE3)) (.seq (.set (.name 1) (.bin false .Add (.var 1) oddE4)) (.seq (.ret (.ix (.var 1) (.fn "_law_take" (.cons (.var 0) (.cons (.bi false .len (.cons (.var 1) .nil)) .nil)) [] .nil))) .skip)))))) := rfl
theorem odd_e0 : evE ⟨T, F⟩ oddE0 env hd = .ok (.lst odd0) hd := by rfl
theorem odd_e1 : evE ⟨T, F⟩ oddE1 env hd = .ok (.lst odd1) hd := by rfl
theorem odd_e2 : evE ⟨T, F⟩ oddE2 env hd = .ok (.lst odd2) hd := by rfl
theorem odd_e3 : evE ⟨T, F⟩ oddE3 env hd = .ok (.lst odd3) hd := by rfl
theorem odd_e4 : evE ⟨T, F⟩ oddE4 env hd = .ok (.lst odd4) hd := by rfl
end
end Z
/-! P8: odd data drawn. -/
namespace Z
open PySem
def odC : D → Bool
  | .non => true
  | .bl _ => true
  | .int _ => true
  | .str z => decide (z.length ≤ 1000)
  | .tup xs => decide (xs.length ≤ 1000)
  | .lst _ => true
  | .dic _ => true
  | _ => false
theorem odC_ok {d : D} (h : odC d = true) : Od d := by
  cases d with
  | str z => exact of_decide_eq_true (p := z.length ≤ 1000) h
  | tup z => exact of_decide_eq_true (p := z.length ≤ 1000) h
  | non => exact True.intro
  | bl b => exact True.intro
  | int i => exact True.intro
  | lst xs => exact True.intro
  | dic xs => exact True.intro
  | _ => cases h
def ocC : D → Bool
  | .tup xs => decide (xs.length ≤ 1000) && xs.all odC
  | d => odC d
theorem ocC_ok {d : D} (h : ocC d = true) : Oc d := by
  cases d with
  | tup xs =>
    obtain ⟨h1, h2⟩ := and_t h
    exact ⟨of_decide_eq_true h1, fun x hx => odC_ok (List.all_eq_true.mp h2 x hx)⟩
  | str z => exact odC_ok (d := .str z) h
  | non => exact True.intro
  | bl b => exact True.intro
  | int i => exact True.intro
  | lst xs => exact True.intro
  | dic xs => exact True.intro
  | _ => cases h
def oxC : D → Bool
  | .tup xs => decide (xs.length ≤ 1000) && xs.all ocC
  | d => odC d
theorem oxC_ok {d : D} (h : oxC d = true) : Ox d := by
  cases d with
  | tup xs =>
    obtain ⟨h1, h2⟩ := and_t h
    exact ⟨of_decide_eq_true h1, fun x hx => ocC_ok (List.all_eq_true.mp h2 x hx)⟩
  | str z => exact odC_ok (d := .str z) h
  | non => exact True.intro
  | bl b => exact True.intro
  | int i => exact True.intro
  | lst xs => exact True.intro
  | dic xs => exact True.intro
  | _ => cases h
def shO (d : D) : Option (List Nat) := match toP d with
  | some a => if a.showable = true ∧ a.depth ≤ 64 ∧ a.shown.length ≤ line then some a.shown.cps.toList else none
  | none => match toQ d with
    | some a => if a.showable = true ∧ a.depth ≤ 64 ∧ a.shown.length ≤ line then some a.shown.cps.toList else none
    | none => none
def noO : D → Bool
  | .obj _ => false
  | _ => true
theorem sh_ok {d : D} {hd : Hd} {s : List Nat} (n : noO d = true) (h : shO d = some s) : shwS d hd = .ok (.str s) hd := by
  have e : topP hd d = toP d := by
    cases d <;> first
      | rfl
      | (cases n; done)
  unfold shwS
  rw [e]
  unfold shO at h
  revert h
  cases toP d with
  | some a =>
    dsimp only
    intro h
    by_cases hc : a.showable = true ∧ a.depth ≤ 64 ∧ a.shown.length ≤ line
    · rw [if_pos hc] at h ⊢
      cases h
      rfl
    · rw [if_neg hc] at h
      cases h
  | none =>
    dsimp only
    cases toQ d with
    | some a =>
      dsimp only
      intro h
      by_cases hc : a.showable = true ∧ a.depth ≤ 64 ∧ a.shown.length ≤ line
      · rw [if_pos hc] at h ⊢
        cases h
        rfl
      · rw [if_neg hc] at h
        cases h
    | none =>
      intro h
      cases h
theorem lows_all {N : Nat} : ∀ {xs : List D}, low.lows N xs = true → ∀ x ∈ xs, low N x = true
  | [], _, x, hx => by cases hx
  | y :: ys, h, x, hx => by
    obtain ⟨h1, h2⟩ := and_t (show (low N y && low.lows N ys) = true from h)
    rcases List.mem_cons.mp hx with e | e
    · rw [e]
      exact h1
    · exact lows_all h2 x e
theorem odds_ok : (odds.all fun d => (ocC d && oxC d) && (noO d && (shO d).isSome)) = true := by decide +kernel
theorem odds_low (N : Nat) : low.lows N odds = true := by rfl
/-- odd -/
structure Odd (d : D) : Prop where
  oc : Oc d
  ox : Ox d
  lw : ∀ N, low N d = true
  sh : ∃ s, ∀ hd, shwS d hd = .ok (.str s) hd
theorem odd_of {d : D} (h : d ∈ odds) : Odd d := by
  have q := List.all_eq_true.mp odds_ok d h
  obtain ⟨q1, q2⟩ := and_t q
  obtain ⟨q3, q4⟩ := and_t q1
  obtain ⟨q5, q6⟩ := and_t q2
  obtain ⟨s, e⟩ := Option.isSome_iff_exists.mp q6
  exact ⟨ocC_ok q3, oxC_ok q4, fun N => lows_all (odds_low N) d h, s, fun hd => sh_ok q5 e⟩
theorem odd_ {k : Nat} {hd : Hd} {n : Nat} (st : St hd n) : ∃ d hd', callF T (k + 2) ("", "_law_odd") [.obj n] [] hd = .ok d hd' ∧ Odd d ∧ To n hd hd' := by
  have ln : (odds.length : Int) = 49 := by rfl
  obtain ⟨r, h1, e1, hr, t1⟩ := take_ (k := k) (sz := 49) st (by decide) (by decide)
  obtain ⟨v, hv, ev⟩ := atI_nat (xs := odds) hr.1 (by rw [ln]; exact hr.2)
  refine ⟨v, h1, ?_, odd_of hv, t1⟩
  rw [D_law_odd.c0, odd_tree]
  have a1 : ∀ hd, binS false .Add (.lst odd0) (.lst odd1) hd = .ok (.lst (odd0 ++ odd1)) hd := fun hd => rfl
  have a2 : ∀ hd, binS false .Add (.lst (odd0 ++ odd1)) (.lst odd2) hd = .ok (.lst (odd0 ++ odd1 ++ odd2)) hd := fun hd => rfl
  have a3 : ∀ hd, binS false .Add (.lst (odd0 ++ odd1 ++ odd2)) (.lst odd3) hd = .ok (.lst (odd0 ++ odd1 ++ odd2 ++ odd3)) hd := fun hd => rfl
  have a4 : ∀ hd, binS false .Add (.lst (odd0 ++ odd1 ++ odd2 ++ odd3)) (.lst odd4) hd = .ok (.lst odds) hd := fun hd => rfl
  have l49 : ∀ hd, biS ⟨T, callF T (k + 1)⟩ false .len [.lst odds] hd = .ok (.int 49) hd := fun hd => rfl
  have ix_ : ixS (.lst odds) (.int r) h1 = .ok v h1 := ix_items items_lst ev
  simp only [evS_seq, evS_set, odd_e0, odd_e1, odd_e2, odd_e3, odd_e4, R.to_ok, storeS, List.length_cons, List.length_nil, List.set_cons_succ, List.set_cons_zero, O.then_nx, evE_bin, evE_var, List.getElem?_cons_succ, List.getElem?_cons_zero, R.bind_ok, a1, a2, a3, a4, R.st_ok, evS_ret, evE_ix, evE_fn, evEs_more, evEs_nil, evE_bi, ne_eq, reduceCtorEq, not_false_eq_true, implies_true, l49, e1, ix_, O.then_rt]
  simp [e1, ix_, fin_same t1.len]
end Z
/-! P9: a step bent. -/
namespace Z
open PySem
structure Bt (d : D) : Prop where
  oc : Oc d
  lw : ∀ N, low N d = true
theorem od_pD {p : Option (List Nat)} (h : Pt p) : Od (pD p) := by
  cases p with
  | none => exact True.intro
  | some z => exact Nat.le_trans (h z rfl).1 (by decide)
theorem bt3 {a b c : D} (ha : Od a) (hb : Od b) (hc : Od c) (la : ∀ N, low N a = true) (lb : ∀ N, low N b = true) (lc : ∀ N, low N c = true) : Bt (.tup [a, b, c]) :=
  ⟨⟨by simp, fun x hx => by
    simp only [List.mem_cons, List.not_mem_nil, or_false] at hx
    rcases hx with rfl | rfl | rfl <;> assumption⟩, fun N => by
    show (low N a && (low N b && (low N c && true))) = true
    rw [la, lb, lc]
    rfl⟩
theorem bent_ {k : Nat} {hd : Hd} {n : Nat} {c : Cs} (st : St hd n) (hc : Ok1 c) : ∃ d hd', callF T (k + 3) ("", "_law_bent_step") [.obj n, csD c] [] hd = .ok d hd' ∧ Bt d ∧ To n hd hd' := by
  obtain ⟨⟨sb, lb⟩, lo, pt⟩ := hc
  have hn := st.lt
  have ob : Od (.str c.b) := Nat.le_trans lb (by decide)
  have op := od_pD pt
  have lp : ∀ N, low N (pD c.p) = true := fun N => low_pD N c.p
  have ls : ∀ N, low N (.str c.b) = true := fun N => rfl
  have lbl : ∀ (b : Bool) N, low N (.bl b) = true := fun b N => rfl
  obtain ⟨r, h1, e1, hr, t1⟩ := take_ (k := k + 1) (sz := 10) st (by decide) (by decide)
  obtain ⟨o, h2, e2, oo, t2⟩ := odd_ (k := k) (t1.st hn)
  have t12 := t1.trans t2
  have ood := oo.oc.od
  rw [D_law_bent_step.c0]
  unfold csD
  have pick : ∀ xs : List D, xs ≠ [] → xs.length ≤ line → (∀ x ∈ xs, Bt x) → ∃ v h3, callF T (k + 2) ("", "_law_pick") [.obj n, .lst xs] [] h2 = .ok v h3 ∧ Bt v ∧ To n hd h3 := fun xs h0 h1 hb => by
    obtain ⟨v, h3, e3, hv, t3⟩ := pick_lst (k := k) (xs := xs) (t12.st hn) h0 h1
    exact ⟨v, h3, e3, hb v hv, t12.trans t3⟩
  have : r = 0 ∨ r = 1 ∨ r = 2 ∨ r = 3 ∨ r = 4 ∨ r = 5 ∨ r = 6 ∨ r = 7 ∨ r = 8 ∨ r = 9 := by omega
  rcases this with rfl | rfl | rfl | rfl | rfl | rfl | rfl | rfl | rfl | rfl
  · refine ⟨_, h2, ?_, bt3 ood (b := .bl c.o) True.intro op oo.lw (lbl _) lp, t12⟩
    simp [D_law_bent_step.tree, e1, e2, store_names items_tup, setAll, mkL, line, ix_items items_lst (show atI [_, _, _] 0 = some _ from rfl), fin_same t12.len]
  · refine ⟨_, h2, ?_, bt3 ob ood op ls oo.lw lp, t12⟩
    simp [D_law_bent_step.tree, e1, e2, store_names items_tup, setAll, mkL, line, ix_items items_lst (show atI [_, _, _] 1 = some _ from rfl), fin_same t12.len]
  · refine ⟨_, h2, ?_, bt3 ob (b := .bl c.o) True.intro ood ls (lbl _) oo.lw, t12⟩
    simp [D_law_bent_step.tree, e1, e2, store_names items_tup, setAll, mkL, line, ix_items items_lst (show atI [_, _, _] 2 = some _ from rfl), fin_same t12.len]
  · refine ⟨.lst [.str c.b, .bl c.o, pD c.p], h2, ?_, ⟨True.intro, fun N => by
      show (low N (.str c.b) && (low N (.bl c.o) && (low N (pD c.p) && true))) = true
      rw [lp]
      rfl⟩, t12⟩
    have li : ∀ g hd, biS g false .list [.tup [.str c.b, .bl c.o, pD c.p]] hd = .ok (.lst [.str c.b, .bl c.o, pD c.p]) hd := fun g hd => rfl
    simp [D_law_bent_step.tree, e1, e2, store_names items_tup, setAll, line, li, fin_same t12.len]
  · refine ⟨.tup [.str c.b, .bl c.o, pD c.p, pD c.p], h2, ?_, ⟨⟨by simp, fun x hx => by
      simp only [List.mem_cons, List.not_mem_nil, or_false] at hx
      rcases hx with rfl | rfl | rfl | rfl
      · exact ob
      · exact True.intro
      · exact op
      · exact op⟩, fun N => by
      show (low N (.str c.b) && (low N (.bl c.o) && (low N (pD c.p) && (low N (pD c.p) && true)))) = true
      rw [lp]
      rfl⟩, t12⟩
    have ad : ∀ hd, binS false .Add (.tup [.str c.b, .bl c.o, pD c.p]) (.tup [pD c.p]) hd = .ok (.tup [.str c.b, .bl c.o, pD c.p, pD c.p]) hd := fun hd => rfl
    simp [D_law_bent_step.tree, e1, e2, store_names items_tup, setAll, line, ad, fin_same t12.len]
  · refine ⟨.tup [.str c.b, .bl c.o], h2, ?_, ⟨⟨by simp, fun x hx => by
      simp only [List.mem_cons, List.not_mem_nil, or_false] at hx
      rcases hx with rfl | rfl
      · exact ob
      · exact True.intro⟩, fun N => rfl⟩, t12⟩
    simp [D_law_bent_step.tree, e1, e2, store_names items_tup, setAll, line, fin_same t12.len]
  · refine ⟨.tup [.str c.b, .int (b2i c.o), pD c.p], h2, ?_, bt3 ob (b := .int (b2i c.o)) True.intro op ls (fun N => rfl) lp, t12⟩
    have ib : ∀ g hd, biS g false .int [.bl c.o] hd = .ok (.int (b2i c.o)) hd := fun g hd => rfl
    simp [D_law_bent_step.tree, e1, e2, store_names items_tup, setAll, line, ib, fin_same t12.len]
  · obtain ⟨v, h3, e3, hv, t3⟩ := pick [.tup [.str [], .bl false, pD c.p], .tup [.str [62, 62], .bl true, pD c.p], .tup [.str [35, 124], .bl true, pD c.p], .tup [.str [62, 62, 62], .bl false, pD c.p]] (by simp) (by simp [line]) fun x hx => by
      simp only [List.mem_cons, List.not_mem_nil, or_false] at hx
      rcases hx with rfl | rfl | rfl | rfl <;> exact bt3 (by show _ ≤ 1000; decide) True.intro op (fun N => rfl) (fun N => rfl) lp
    refine ⟨v, h3, ?_, hv, t3⟩
    simp [D_law_bent_step.tree, e1, e2, store_names items_tup, setAll, mkL, line, e3, fin_same t3.len]
  · obtain ⟨v, h3, e3, hv, t3⟩ := pick [.tup [.str [], .bl true, pD c.p], .tup [.str [62], .bl true, pD c.p], .tup [.str [35], .bl false, pD c.p], .tup [.str [124, 61], .bl false, pD c.p]] (by simp) (by simp [line]) fun x hx => by
      simp only [List.mem_cons, List.not_mem_nil, or_false] at hx
      rcases hx with rfl | rfl | rfl | rfl <;> exact bt3 (by show _ ≤ 1000; decide) True.intro op (fun N => rfl) (fun N => rfl) lp
    refine ⟨v, h3, ?_, hv, t3⟩
    simp [D_law_bent_step.tree, e1, e2, store_names items_tup, setAll, mkL, line, e3, fin_same t3.len]
  · refine ⟨o, h2, ?_, ⟨oo.oc, oo.lw⟩, t12⟩
    simp [D_law_bent_step.tree, e1, e2, store_names items_tup, setAll, line, fin_same t12.len]
end Z
/-! P10: some steps drawn. -/
namespace Z
open PySem
section
variable {hd h : Hd} {N n : Nat} {L : List D} {r : Int} {m : Bool}
theorem seti_end {v : D} (hN : h.length = N) (h0 : 0 ≤ r) (h1 : r < L.length) : setiS (.obj N) (.int r) v (h ++ [.lst L]) = some (h ++ [.lst (L.set r.toNat v)]) := by
  subst hN
  simp [ixn, h0, h1]
theorem ls_end (hN : h.length = N) : lsAt (h ++ [.lst L]) N = some L := by
  subst hN
  exact at_end
theorem sl_last (hN : h.length = N) : slS false (.obj N) .non (.int (-1)) (h ++ [.lst L]) = .ok (.lst (L.take (L.length - 1))) (h ++ [.lst L]) := by
  unfold slS partI
  simp only [items_at, ls_end hN, mkL, cutL, sIx]
  have e : ((-1 : Int) + (L.length : Int)).toNat = L.length - 1 := by omega
  simp [e]
theorem tup_end (hN : h.length = N) {g : G} : biS g m .tuple [.obj N] (h ++ [.lst L]) = .ok (.tup L) (h ++ [.lst L]) := by
  show (match lsAt (h ++ [MO.lst L]) N with
    | some xs => R.ok (D.tup xs) (h ++ [MO.lst L])
    | none => .bad) = _
  rw [ls_end hN]
theorem len_end (hN : h.length = N) {g : G} : biS g m .len [.obj N] (h ++ [.lst L]) = .ok (.int L.length) (h ++ [.lst L]) := by
  show (match items (h ++ [MO.lst L]) (.obj N) with
    | some xs => R.ok (D.int xs.length) (h ++ [MO.lst L])
    | none => .bad) = _
  rw [items_at, ls_end hN]
end
theorem frzs_low {hd : Hd} {n : Nat} : ∀ (k : Nat) (xs : List D), xs.length + 1 < k → low.lows n xs = true → frzs hd n k xs = some xs
  | 0, _, h, _ => absurd h (Nat.not_lt_zero _)
  | k + 1, [], _, _ => by
    unfold frzs
    rfl
  | k + 1, x :: xs, h, l => by
    have l : (low n x && low.lows n xs) = true := l
    rw [Bool.and_eq_true] at l
    rw [List.length_cons] at h
    have e1 : frz hd n k x = some x := by
      cases k with
      | zero => omega
      | succ k =>
        unfold frz
        rw [if_pos l.1]
    have e2 := frzs_low (hd := hd) k xs (by omega) l.2
    unfold frzs
    rw [e1, e2]
theorem fin_list {hd h : Hd} {n : Nat} {xs : List D} (ss : Ss hd) (t : To n hd h) (hl : xs.length ≤ 300) (l : low.lows hd.length xs = true) : fin false hd.length (.rt (.obj hd.length) (h ++ [.lst xs])) = .ok (.lst xs) h := by
  have e : h.length = hd.length := t.len
  show (if false = true ∨ (h ++ [MO.lst xs]).length = hd.length then R.ok _ _ else if ((h ++ [MO.lst xs]).take hd.length).all (lowO hd.length) = true then
      (if low hd.length (.obj hd.length) = true then R.ok _ ((h ++ [MO.lst xs]).take hd.length) else match frz (h ++ [MO.lst xs]) hd.length 400 (.obj hd.length) with
        | some d => R.ok d ((h ++ [MO.lst xs]).take hd.length)
        | none => .bad) else .bad) = _
  have tk : (h ++ [MO.lst xs]).take hd.length = h := by
    rw [← e]
    simp
  have hf : frz (h ++ [MO.lst xs]) hd.length 400 (.obj hd.length) = some (.lst xs) := by
    unfold frz
    rw [if_neg (show ¬ low hd.length (.obj hd.length) = true from fun z => absurd (of_decide_eq_true z) (Nat.lt_irrefl _))]
    dsimp only
    rw [show (h ++ [MO.lst xs])[hd.length]? = some (.lst xs) by rw [← e]; simp]
    dsimp only
    rw [frzs_low 399 xs (by omega) l]
    rfl
  rw [if_neg (by simp [e]), tk, if_pos ((ss.to t).low _), if_neg (show ¬ low hd.length (.obj hd.length) = true from fun z => absurd (of_decide_eq_true z) (Nat.lt_irrefl _)), hf]
theorem lcV_if {sto : D → Env → Hd → Option Env} {tst : Env → Hd → R Bool} {elt : Env → Hd → R D} {env : Env} (P : List D → Hd → Prop) : ∀ (vs acc : List D) (hd : Hd), P acc hd → acc.length + vs.length ≤ line →
    (∀ v ∈ vs, ∀ acc hd, P acc hd → ∃ env1 h1, sto v env hd = some env1 ∧ ((tst env1 hd = .ok false h1 ∧ P acc h1) ∨ (tst env1 hd = .ok true h1 ∧ ∃ y h2, elt env1 h1 = .ok y h2 ∧ P (acc ++ [y]) h2))) →
    ∃ ys hd', lcV sto tst elt env vs acc hd = .ok ys hd' ∧ P ys hd' ∧ ys.length ≤ acc.length + vs.length
  | [], acc, hd, h, _, _ => ⟨acc, hd, rfl, h, Nat.le_refl _⟩
  | v :: vs, acc, hd, h, hl, st => by
    obtain ⟨env1, h1, e1, e2⟩ := st v (List.mem_cons_self ..) acc hd h
    have un : lcV sto tst elt env (v :: vs) acc hd = (match tst env1 hd with
      | .ok true h1 => match elt env1 h1 with
        | .ok y h2 => if acc.length < line then lcV sto tst elt env vs (acc ++ [y]) h2 else .bad
        | _ => .bad
      | .ok false h1 => lcV sto tst elt env vs acc h1
      | _ => .bad) := by
      show (match sto v env hd with
        | none => R.bad
        | some env1 => match tst env1 hd with
          | .ok true h1 => match elt env1 h1 with
            | .ok y h2 => if acc.length < line then lcV sto tst elt env vs (acc ++ [y]) h2 else .bad
            | _ => .bad
          | .ok false h1 => lcV sto tst elt env vs acc h1
          | _ => .bad) = _
      rw [e1]
    rw [List.length_cons] at hl
    rcases e2 with ⟨et, hp⟩ | ⟨et, y, h2, ey, hp⟩
    · obtain ⟨ys, hd', e3, h3, l3⟩ := lcV_if P vs acc h1 hp (by omega) fun w hw => st w (List.mem_cons_of_mem _ hw)
      exact ⟨ys, hd', by rw [un, et]; exact e3, h3, by rw [List.length_cons]; omega⟩
    · obtain ⟨ys, hd', e3, h3, l3⟩ := lcV_if P vs (acc ++ [y]) h2 hp (by rw [List.length_append]; simp; omega) fun w hw => st w (List.mem_cons_of_mem _ hw)
      refine ⟨ys, hd', by rw [un, et]; dsimp only; rw [ey]; dsimp only; rw [if_pos (by omega)]; exact e3, h3, ?_⟩
      rw [List.length_append] at l3
      simp at l3
      rw [List.length_cons]
      omega
section
variable {k n : Nat} {hd : Hd}
/-- what is filled in before the steps -/
theorem fill_ {env : Env} (ss : Ss hd) (hn : St hd n) (e0 : env[0]? = some (some (.obj n))) (e8 : env.length = 9) : ∃ (cs : List Cs) (hd' : Hd),  evE ⟨T, callF T (k + 1)⟩ (.lc false D_law_some_steps.e0 [8] (.name 8) .plain (.cons (.con (.str [35, 124, 62, 61])) .nil) (.cons (.cmp .Eq (.fn "_law_take" (.cons (.var 0) (.cons (.con (.int 6)) .nil)) [] .nil) (.con (.int 0))) .nil)) env hd = .ok (.lst (cs.map csD)) hd' ∧
    ((∀ c ∈ cs, Ok1 c) ∧ cs.length ≤ 4) ∧ To n hd hd' := by
  have w8 : (wipe env [8]) = env.set 8 none := rfl
  have run := lcV_if (sto := storeS (.name 8)) (tst := fun env hd => evAll ⟨T, callF T (k + 1)⟩ (.cons (.cmp .Eq (.fn "_law_take" (.cons (.var 0) (.cons (.con (.int 6)) .nil)) [] .nil) (.con (.int 0))) .nil) env hd) (elt := fun env hd => evE ⟨T, callF T (k + 1)⟩ D_law_some_steps.e0 env hd) (env := wipe env [8])
    (P := fun acc h => To n hd h ∧ ∃ cs : List Cs, acc = cs.map csD ∧ ∀ c ∈ cs, Ok1 c) ([35, 124, 62, 61].map fun c => .str [c]) [] hd ⟨To.refl (ss.at_ hn), [], rfl, fun c hc => by cases hc⟩ (by decide) fun v hv acc h hp => by
      obtain ⟨t, cs, rfl, ok⟩ := hp
      obtain ⟨x, hx, rfl⟩ := List.mem_map.mp hv
      obtain ⟨r, h1, e1, hr, t1⟩ := take_ (k := k) (sz := 6) (t.st hn.lt) (by decide) (by decide)
      have v0 : (env.set 8 (some (.str [x])))[0]? = some (some (.obj n)) := by rw [List.getElem?_set_ne (by decide)]; exact e0
      have v8 : (env.set 8 (some (.str [x])))[8]? = some (some (.str [x])) := List.getElem?_set_self (by omega)
      refine ⟨env.set 8 (some (.str [x])), h1, ?_, ?_⟩
      · rw [w8]
        show some ((env.set 8 none).set 8 (some (.str [x]))) = _
        rw [List.set_set]
      · by_cases hr0 : r = 0
        · refine .inr ⟨?_, ?_⟩
          · simp [v0, e1, hr0]
          · obtain ⟨q, h2, e2, hq, t2⟩ := take_ (k := k) (sz := 2) ((t.trans t1).st hn.lt) (by decide) (by decide)
            refine ⟨csD ⟨[x], decide (q = 0), some [62, 64]⟩, h2, ?_, (t.trans t1).trans t2, cs ++ [⟨[x], decide (q = 0), some [62, 64]⟩], by simp, fun c hc => ?_⟩
            · simp [D_law_some_steps.e0, v0, v8, e2, csD, pD, line]
            · rcases List.mem_append.mp hc with hc | hc
              · exact ok c hc
              · rw [List.mem_singleton.mp hc]
                refine ⟨⟨fun y hy => ?_, by simp⟩, fun _ => by simp, fun z hz => ?_⟩
                · have hy : y = x := by simpa using hy
                  subst hy
                  simp only [List.mem_cons, List.not_mem_nil, or_false] at hx
                  rcases hx with rfl | rfl | rfl | rfl <;> decide
                · cases hz
                  exact ⟨by decide, by decide⟩
        · exact .inl ⟨by simp [v0, e1, hr0], t.trans t1, cs, rfl, ok⟩
  obtain ⟨ys, hd', e, ⟨t, cs, rfl, ok⟩, l⟩ := run
  refine ⟨cs, hd', ?_, ⟨ok, by simpa using l⟩, t⟩
  rw [evE_lc]
  have it4 : iterS .plain [.str [35, 124, 62, 61]] hd = some (.inl ([35, 124, 62, 61].map fun c => .str [c])) := it_str (by decide)
  simp only [evEs_more, evEs_nil, evE_con, ne_eq, reduceCtorEq, not_false_eq_true, implies_true, R.bind_ok, it4, e, mkL, Bool.false_eq_true, if_false]
end
end Z
/-! P11: what is handed over as the cases. -/
namespace Z
open PySem
theorem fin_lowT {hd h : Hd} {n : Nat} {d : D} {tl : Hd} (ss : Ss hd) (t : To n hd h) (hl : low hd.length d = true) : fin false hd.length (.rt d (h ++ tl)) = .ok d h := by
  have fl := fin_low (d := d) (tl := tl) (ss.to t) (by rw [t.len]; exact hl)
  rw [t.len] at fl
  exact fl
theorem lows_of {N : Nat} : ∀ {xs : List D}, (∀ x ∈ xs, low N x = true) → low.lows N xs = true
  | [], _ => rfl
  | x :: xs, h => by
    show (low N x && low.lows N xs) = true
    rw [h x (List.mem_cons_self ..), lows_of fun y hy => h y (List.mem_cons_of_mem _ hy)]
    rfl
theorem bt_cs {c : Cs} (h : Ok1 c) : Bt (csD c) := bt3 (by show c.b.length ≤ 1000; exact Nat.le_trans h.1.2 (by decide)) True.intro (od_pD h.2.2) (fun N => rfl) (fun N => rfl) fun N => low_pD N c.p
theorem bad_step {k : Nat} {hd h : Hd} {n : Nat} {cs : List Cs} {L : List D} {p f k5 k7 : Option D} (ok : ∀ c ∈ cs, Ok1 c) (c1 : 1 ≤ cs.length) (c9 : cs.length ≤ 9) (hn : St hd n) (ss : Ss hd) (t : To n hd h) (l : L.length = cs.length) (bt : ∀ x ∈ L, Bt x) :
    ∃ h' L' v, evS ⟨T, callF T (k + 4)⟩ D_law_some_steps.b0 [some (.obj n), p, some (.tup (cs.map csD)), f, some (.obj hd.length), k5, none, k7, none] (h ++ [.lst L]) = .nx [some (.obj n), p, some (.tup (cs.map csD)), f, some (.obj hd.length), k5, none, some v, none] (h' ++ [.lst L']) ∧
      To n hd h' ∧ L'.length = cs.length ∧ ∀ x ∈ L', Bt x := by
  obtain ⟨r, h1', e1, hr, t1'⟩ := take_ (k := k + 3) (sz := (L.length : Nat)) (St.more (x := .lst L) (t.st hn.lt)) (by omega) (by omega)
  obtain ⟨h1, rfl, t1⟩ := t1'.more (by rw [t.len]; exact hn.lt)
  have t01 := t.trans t1
  have ra : r.toNat < cs.length := by omega
  obtain ⟨c, q⟩ : ∃ c, cs[r.toNat]? = some c := ⟨_, List.getElem?_eq_getElem ra⟩
  obtain ⟨d, h2', e2, hb, t2'⟩ := bent_ (k := k + 1) (c := c) (St.more (x := .lst L) (t01.st hn.lt)) (ok c (List.mem_of_getElem? q))
  obtain ⟨h2, rfl, t2⟩ := t2'.more (by rw [t01.len]; exact hn.lt)
  have ix_ : ixS (.tup (cs.map csD)) (.int r) (h1 ++ [.lst L]) = .ok (csD c) (h1 ++ [.lst L]) := ix_items items_tup (by
    unfold atI ixn
    rw [if_pos hr.1, if_pos (by rw [List.length_map]; omega)]
    simp [q])
  have sl := seti_end (N := hd.length) (L := L) (v := d) (t01.trans t2).len hr.1 hr.2
  have le := len_end (N := hd.length) (L := L) (m := false) (g := ⟨T, callF T (k + 4)⟩) t.len
  refine ⟨h2, L.set r.toNat d, .int r, ?_, t01.trans t2, by rw [List.length_set]; exact l, fun x hx => ?_⟩
  · simp [D_law_some_steps.b0, le, ls_end t.len, e1, ix_, e2, sl, -seti_at]
  · rcases List.mem_or_eq_of_mem_set hx with hx | hx
    · exact bt x hx
    · rw [hx]
      exact hb
theorem some_steps_ {k : Nat} {hd : Hd} {n : Nat} (ss : Ss hd) (hn : St hd n) : ∃ x hd', callF T (k + 5) ("", "_law_some_steps") [.obj n] [] hd = .ok x hd' ∧ Ox x ∧ To n hd hd' := by
  obtain ⟨r, h1, e1, hr, t1⟩ := take_ (k := k + 3) (sz := 7) (ss.at_ hn) (by decide) (by decide)
  obtain ⟨pal, h2, e2, ⟨pl, ps⟩, t2⟩ := palette_ (k := k + 2) (sz := 1 + r) (ss.to t1) (t1.st hn.lt) (by omega) (by omega)
  have t12 := t1.trans t2
  obtain ⟨cs1, h3, e3, cz, t3⟩ := steps_ (k := k) (pal := pal) (ss.to t12) (t12.st hn.lt) ps (by omega)
  have t13 := t12.trans t3
  obtain ⟨cs2, h4, e4, ⟨ok2, l2⟩, t4⟩ := fill_ (k := k + 3) (env := [some (.obj n), some (.str pal), some (.tup (cs1.map csD)), none, none, none, none, none, none]) (ss.to t13) (t13.st hn.lt) rfl rfl
  have t14 := t13.trans t4
  have n4 : h4.length = hd.length := t14.len
  have cl := cz.len
  have okA : ∀ c ∈ cs2 ++ cs1, Ok1 c := fun c hc => (List.mem_append.mp hc).elim (ok2 c) (cz.all c)
  have ad : ∀ hd, binS false .Add (.tup (cs2.map csD)) (.tup (cs1.map csD)) hd = .ok (.tup ((cs2 ++ cs1).map csD)) hd := fun hd => by
    rw [add_tup (by simp [line]; omega), List.map_append]
  have tl : ∀ hd, biS ⟨T, callF T (k + 4)⟩ false .tuple [.lst (cs2.map csD)] hd = .ok (.tup (cs2.map csD)) hd := fun hd => rfl
  have li : ∀ hd, biS ⟨T, callF T (k + 4)⟩ true .list [.tup ((cs2 ++ cs1).map csD)] hd = .ok (.obj hd.length) (hd ++ [.lst ((cs2 ++ cs1).map csD)]) := fun hd => rfl
  obtain ⟨s, h5', e5, hs, t5'⟩ := take_ (k := k + 3) (sz := 3) (St.more (x := .lst ((cs2 ++ cs1).map csD)) (t14.st hn.lt)) (by decide) (by decide)
  obtain ⟨h5, rfl, t5⟩ := t5'.more (by rw [n4]; exact hn.lt)
  have t15 := t14.trans t5
  have lc : 1 ≤ (cs2 ++ cs1).length ∧ (cs2 ++ cs1).length ≤ 9 := by rw [List.length_append]; omega
  obtain ⟨env', hd', e6, p⟩ := forV_run (P := fun i env h => ∃ h' L k5 k7, h = h' ++ [.lst L] ∧ To n hd h' ∧ L.length = (cs2 ++ cs1).length ∧ (∀ x ∈ L, Bt x) ∧ env = [some (.obj n), some (.str pal), some (.tup ((cs2 ++ cs1).map csD)), some (.lst (cs2.map csD)), some (.obj hd.length), k5, none, k7, none])
    (sto := storeS (.name 5)) (body := fun env hd => evS ⟨T, callF T (k + 4)⟩ D_law_some_steps.b0 env hd) (rng s.toNat) 0 [some (.obj n), some (.str pal), some (.tup ((cs2 ++ cs1).map csD)), some (.lst (cs2.map csD)), some (.obj hd.length), none, none, none, none] (h5 ++ [.lst ((cs2 ++ cs1).map csD)])
    ⟨h5, _, none, none, rfl, t15, by rw [List.length_map], fun x hx => (by obtain ⟨c, hc, e⟩ := List.mem_map.mp hx; rw [← e]; exact bt_cs (okA c hc)), rfl⟩ fun j v env h q p => by
      obtain ⟨h', L, k5, k7, rfl, t, l, bt, rfl⟩ := p
      obtain ⟨h6, L', v', e, t6, l6, b6⟩ := bad_step (k := k) (p := some (.str pal)) (f := some (.lst (cs2.map csD))) (k5 := some v) (k7 := k7) okA lc.1 lc.2 hn ss t l bt
      exact ⟨_, _, _, rfl, e, h6, L', some v, some v', rfl, t6, l6, b6, rfl⟩
  obtain ⟨h6, L, k5, k7, rfl, t6, l6, b6, rfl⟩ := p
  have n6 : h6.length = hd.length := t6.len
  obtain ⟨w, h7', e7, hw, t7'⟩ := take_ (k := k + 3) (sz := 14) (St.more (x := .lst L) (t6.st hn.lt)) (by decide) (by decide)
  obtain ⟨h7, rfl, t7⟩ := t7'.more (by rw [n6]; exact hn.lt)
  have t17 := t6.trans t7
  have lowL : low.lows hd.length L = true := lows_of fun x hx => (b6 x hx).lw _
  have il : ∀ hd, iterS .range [.int s] hd = some (.inl (rng s.toNat)) := fun hd => it_rng (by omega) (by omega)
  have pre : ∀ (Q : O), (∀ env hd', O.then_ (.nx env hd') (fun env hd => O.nx env hd) = .nx env hd') → True := fun _ _ => trivial
  rw [D_law_some_steps.c0]
  by_cases w0 : w = 0
  · subst w0
    refine ⟨.lst L, h7, ?_, True.intro, t17⟩
    have ff := fin_list (xs := L) ss t17 (by omega) lowL
    simp [D_law_some_steps.tree, e1, e2, e3, e4, tl, ad, li, n4, e5, il, e6, e7, -List.map_append, -evE_lc]
    exact ff
  · by_cases w1 : w = 1
    · subst w1
      obtain ⟨o, h8', e8, oo, t8'⟩ := odd_ (k := k + 2) (St.more (x := .lst L) (t17.st hn.lt))
      obtain ⟨h8, rfl, t8⟩ := t8'.more (by rw [t17.len]; exact hn.lt)
      have t18 := t17.trans t8
      obtain ⟨v, h9', e9, hv, t9'⟩ := pick_lst (k := k + 2) (xs := [.tup [], .non, o, .dic []]) (St.more (x := .lst L) (t18.st hn.lt)) (by simp) (by simp [line])
      obtain ⟨h9, rfl, t9⟩ := t9'.more (by rw [t18.len]; exact hn.lt)
      have t19 := t18.trans t9
      have hv2 : Ox v ∧ ∀ N, low N v = true := by
        simp only [List.mem_cons, List.not_mem_nil, or_false] at hv
        rcases hv with rfl | rfl | rfl | rfl
        · exact ⟨⟨by simp, fun x hx => by cases hx⟩, fun N => rfl⟩
        · exact ⟨True.intro, fun N => rfl⟩
        · exact ⟨oo.ox, oo.lw⟩
        · exact ⟨True.intro, fun N => rfl⟩
      refine ⟨v, h9, ?_, hv2.1, t19⟩
      have ff := fin_lowT (d := v) (tl := [.lst L]) ss t19 (hv2.2 _)
      simp [D_law_some_steps.tree, e1, e2, e3, e4, tl, ad, li, n4, e5, il, e6, e7, e8, mkL, line, e9, -List.map_append, -evE_lc]
      exact ff
    · by_cases w2 : w = 2
      · subst w2
        have ox : ∀ x ∈ L.take (L.length - 1), Bt x := fun x hx => b6 x (List.mem_of_mem_take hx)
        refine ⟨.tup (L.take (L.length - 1)), h7, ?_, ⟨by rw [List.length_take]; omega, fun x hx => (ox x hx).oc⟩, t17⟩
        have ff := fin_lowT (d := .tup (L.take (L.length - 1))) (tl := [.lst L]) ss t17 (lows_of fun x hx => (ox x hx).lw _)
        have sl := sl_last (L := L) (N := hd.length) t17.len
        have tt : ∀ hd, biS ⟨T, callF T (k + 4)⟩ false .tuple [.lst (L.take (L.length - 1))] hd = .ok (.tup (L.take (L.length - 1))) hd := fun hd => rfl
        simp [D_law_some_steps.tree, e1, e2, e3, e4, tl, ad, li, n4, e5, il, e6, e7, sl, tt, intS, -List.map_append, -evE_lc]
        exact ff
      · refine ⟨.tup L, h7, ?_, ⟨by omega, fun x hx => (b6 x hx).oc⟩, t17⟩
        have ff := fin_lowT (d := .tup L) (tl := [.lst L]) ss t17 lowL
        have tt := tup_end (L := L) (N := hd.length) (m := false) (g := ⟨T, callF T (k + 4)⟩) t17.len
        simp [D_law_some_steps.tree, e1, e2, e3, e4, tl, ad, li, n4, e5, il, e6, e7, w0, w1, w2, tt, -List.map_append, -evE_lc]
        exact ff
end Z
/-! P12: what is told is what is due. -/
namespace Z
open PySem
def titE : E := (.ite (.cmp .Gt (.fn "_law_take" (.cons (.var 0) (.cons (.con (.int 5)) .nil)) [] .nil) (.con (.int 0))) (.fn "_law_tag" (.cons (.var 0) .nil) [] .nil) (.fn "_law_odd" (.cons (.var 0) .nil) [] .nil))
theorem right_tree : D_law_right.tree = (.seq (.set (.name 1) titE) (.seq (.set (.name 2) (.fn "_law_some_steps" (.cons (.var 0) .nil) [] .nil))
      (.seq (.set (.name 3) (.told (.new "Program" (.cons (.var 1) (.cons (.var 2) .nil)) [] .nil)))
      (.seq (.ifs (.cmp .Eq (.ix (.var 3) (.con (.int 0))) (.con (.str [116, 111, 108, 100]))) (.seq (.set (.name 3) (.lst false (.cons (.con (.str [116, 111, 108, 100])) (.cons (.bi false .str (.cons (.ix (.var 3) (.con (.int 1))) .nil)) .nil))))
      .skip) .skip)
      (.seq (.ret (.cmp .Eq (.var 3) (.fn "_law_due" (.cons (.var 1) (.cons (.var 2) .nil)) [] .nil)))
      .skip))))) := rfl
theorem csD_inj {a b : Cs} (h : csD a = csD b) : a = b := by
  obtain ⟨b1, o1, p1⟩ := a
  obtain ⟨b2, o2, p2⟩ := b
  unfold csD at h
  simp only [D.tup.injEq, List.cons.injEq, D.str.injEq, D.bl.injEq, and_true] at h
  obtain ⟨rfl, rfl, h⟩ := h
  have : p1 = p2 := by
    cases p1 <;> cases p2 <;> simp_all [pD]
  rw [this]
theorem cs_inj {a b : List Cs} (h : a.map csD = b.map csD) : a = b := (List.map_inj_right fun x y e => csD_inj e).mp h
theorem nm_true {z : List Nat} (h : Nm z) : nmD (.str z) = true := by
  obtain ⟨⟨l1, l2⟩, ⟨c, z0, hc⟩, al⟩ := h
  show ((decide (1 ≤ z.length) && decide (z.length ≤ 8)) && (hdB z && z.all fun c => decide (c ∈ lt ++ dg))) = true
  rw [decide_eq_true l1, decide_eq_true l2, List.all_eq_true.mpr fun x hx => decide_eq_true (al x hx)]
  cases z with
  | nil => cases z0
  | cons d r =>
    cases z0
    show (true && (decide (c ∈ lt) && true)) = true
    rw [decide_eq_true hc]
    rfl
theorem eq_two {g : G} {hd : Hd} (a b : List Nat) : cmpS g .Eq (.lst [.str a, .str b]) (.lst [.str a, .str b]) hd = .ok (.bl true) hd := by
  have := eqd_fl (hd := hd) (as := [.inl a, .inl b]) (bs := [.inl a, .inl b])
  rw [decide_eq_true rfl] at this
  exact cmp_eq (x := .lst [.str a, .str b]) (y := .lst [.str a, .str b]) this (by intro C fs e; cases e)
section
variable {k n : Nat} {hd : Hd}
theorem title_ {env : Env} (ss : Ss hd) (hn : St hd n) (e0 : env[0]? = some (some (.obj n))) : ∃ d h2, evE ⟨T, callF T (k + 5)⟩ titE env hd = .ok d h2 ∧ Od d ∧ (∀ N, low N d = true) ∧ (nmD d = false → ∃ s, ∀ hd, shwS d hd = .ok (.str s) hd) ∧ To n hd h2 := by
  obtain ⟨r, h1, e1, hr, t1⟩ := take_ (k := k + 4) (sz := 5) (ss.at_ hn) (by decide) (by decide)
  by_cases h0 : 0 < r
  · obtain ⟨z, h2, e2, hz, t2⟩ := tag_ (k := k + 2) (t1.st hn.lt)
    refine ⟨.str z, h2, ?_, Nat.le_trans hz.1.2 (by decide), fun N => rfl, fun h => ?_, t1.trans t2⟩
    · simp [titE, e0, e1, h0, e2]
    · rw [nm_true hz] at h
      cases h
  · obtain ⟨d, h2, e2, od, t2⟩ := odd_ (k := k + 3) (t1.st hn.lt)
    refine ⟨d, h2, ?_, od.oc.od, od.lw, fun _ => od.sh, t1.trans t2⟩
    simp [titE, e0, e1, h0, e2]
theorem ixl {a b : D} {hd : Hd} : ixS (.lst [a, b]) (.int 0) hd = .ok a hd := ix_items items_lst rfl
theorem ixl1 {a b : D} {hd : Hd} : ixS (.lst [a, b]) (.int 1) hd = .ok b hd := ix_items items_lst rfl
theorem right_ (ss : Ss hd) (hn : St hd n) : ∃ hd', callF T (k + 6) ("", "_law_right") [.obj n] [] hd = .ok (.bl true) hd' ∧ To n hd hd' := by
  obtain ⟨d, h1, e1, od, lw, sh, t1⟩ := title_ (k := k) (env := [some (.obj n), none, none, none]) ss hn rfl
  obtain ⟨x, h2, e2, ox, t2⟩ := some_steps_ (k := k) (ss.to t1) (t1.st hn.lt)
  have t := t1.trans t2
  have s2 := ss.to t
  refine ⟨h2, ?_, t⟩
  rw [D_law_right.c0, right_tree]
  cases hm : nmD d with
  | false =>
    obtain ⟨s, es⟩ := sh hm
    have tn := told_name (k := k) (x := x) od hm (lw _) (es h2) s2
    have du := due_g (k := k + 1) (hd := h2) (s := s) (t := []) od ox (fun _ => es h2) (fun _ h => by rw [hm] at h; cases h)
    rw [show dueD d x s [] = .lst [.str wName, .str s] by unfold dueD; rw [if_pos hm]] at du
    have ne : decide (wName = [116, 111, 108, 100]) = false := by decide
    simp [e1, e2, evE_told, tn, ixl, ne, du, eq_two, fin_same t.len]
  | true =>
    cases hf : fault x with
    | some j =>
      have tn := told_cases (k := k) od hm ox hf s2
      have du := due_g (k := k + 1) (hd := h2) (s := []) (t := []) od ox (fun h => by rw [hm] at h; cases h) (fun h => by rw [hf] at h; cases h)
      rw [show dueD d x [] [] = .lst [.str wCases, .str (shN j)] by unfold dueD; rw [if_neg (by rw [hm]; decide), hf]] at du
      have ne : decide (wCases = [116, 111, 108, 100]) = false := by decide
      simp [e1, e2, evE_told, tn, ixl, ne, du, eq_two, fin_same t.len]
    | none =>
      obtain ⟨cs, rfl, cz⟩ := fault_none hf
      obtain ⟨z, rfl, hz⟩ := nm_of hm
      have tn : toldS T (newS ⟨T, callF T (k + 5)⟩ "Program" [.str z, .tup (cs.map csD)] [] h2) = .ok (.lst [.str wTold, prD z cs]) h2 := by
        rw [new_ hz cz s2]
        rfl
      have du := due_g (k := k + 1) (hd := h2) (s := []) (t := textT z cs) od ox (fun h => by rw [hm] at h; cases h) (fun _ _ z' cs' h1 h2 _ => by
        cases h1
        rw [cs_inj (D.tup.inj h2)])
      rw [show dueD (.str z) (.tup (cs.map csD)) [] (textT z cs) = .lst [.str wTold, .str (textT z cs)] by unfold dueD; rw [if_neg (by rw [hm]; decide), hf]] at du
      have sp := str_ (k := k + 2) (m := false) (hd := h2) hz cz
      have ww : (wTold = [116, 111, 108, 100]) := rfl
      rw [ww] at du tn
      simp [e1, e2, evE_told, tn, ixl, ixl1, sp, mkL, line, du, eq_two, fin_same t.len]
end
end Z
/-! P13: the streams, behind what stands already. -/
namespace Z
open PySem
def objsF (b n : Nat) : List D := (List.range n).map fun i => .obj (b + i)
theorem objsF_len (b n : Nat) : (objsF b n).length = n := by simp [objsF]
theorem cut_to {α : Type} {xs : List α} {r : Int} (h : 0 ≤ r) : cutL xs none (some r) = xs.take r.toNat := by
  unfold cutL sIx
  dsimp only
  rw [if_neg (by omega), List.drop_zero, Nat.sub_zero]
  by_cases q : r.toNat ≤ xs.length
  · rw [Nat.min_eq_left q]
  · rw [Nat.min_eq_right (by omega), List.take_of_length_le (Nat.le_refl _), List.take_of_length_le (by omega)]
theorem fin_kept {n : Nat} {d : D} {hd : Hd} : fin true n (.rt d hd) = .ok d hd := by
  unfold fin fin.fin1
  exact if_pos (.inl rfl)
theorem streams_ {k : Nat} (ns : List Int) (hd0 : Hd) (ss0 : Ss hd0) : ∃ N hd', callF T (k + 1) ("", "_law_streams") [.row ns, .int 2, .int 4] [] hd0 = .ok (.lst (objsF hd0.length N)) hd' ∧ Ss hd' ∧ hd'.length = hd0.length + N ∧ (∀ i, i < N → St hd' (hd0.length + i)) ∧ N ≤ 4 := by
  rw [D_law_streams.c0]
  have s1 : slS false (.row ns) .non (.int 4) hd0 = .ok (.lst ((ns.take 4).map .int)) hd0 := by
    show R.ok (D.lst (cutL (ns.map D.int) none (some 4))) hd0 = _
    rw [cut_to (by decide), ← List.map_take]
    rfl
  have li : biS ⟨T, callF T k⟩ false .list [.lst ((ns.take 4).map .int)] hd0 = .ok (.lst ((ns.take 4).map .int)) hd0 := rfl
  -- the first number
  obtain ⟨f, ef⟩ : ∃ f : Int, evE ⟨T, callF T k⟩ (.ite (.var 3) (.ix (.var 3) (.con (.int 0))) (.con (.int 17))) [some (.row ns), some (.int 2), some (.int 4), some (.lst ((ns.take 4).map .int)), none, none, none] hd0 = .ok (.int f) hd0 := by
    cases h : ns.take 4 with
    | nil => exact ⟨17, by simp⟩
    | cons a l =>
      have : ixS (.lst (.int a :: l.map .int)) (.int 0) hd0 = .ok (.int a) hd0 := ix_items items_lst (by
        unfold atI ixn
        rw [if_pos (by decide), if_pos (by simp)]
        rfl)
      exact ⟨a, by simp [this]⟩
  have l4 : (ns.take 4).length ≤ 4 := by simp; omega
  -- more numbers
  obtain ⟨more, em, ml⟩ : ∃ more : List Int, evE ⟨T, callF T k⟩ (.lc false D_law_streams.e0 [6] (.name 6) .range (.cons (.con (.int 1)) (.cons (.bin false .Sub (.bin false .Add (.con (.int 1)) (.var 1)) (.bi false .len (.cons (.var 3) .nil))) .nil)) .nil)
      [some (.row ns), some (.int 2), some (.int 4), some (.lst ((ns.take 4).map .int)), some (.int f), none, none] hd0 = .ok (.lst (more.map .int)) hd0 ∧ (ns.take 4).length + more.length ≤ 4 := by
    have it : ∀ b : Int, b ≤ 3 → -10 ≤ b → iterS .range [.int 1, .int b] hd0 = some (.inl ((List.range (b - 1).toNat).map fun (i : Nat) => D.int (1 + (i : Int)))) := fun b h1 h2 => if_pos ⟨by omega, by omega, by omega, by omega⟩
    have lc := lcV_maps (item := fun i : Nat => D.int (1 + (i : Int))) (f := fun i : Nat => D.int ((f * 613 + 1000003 * (1 + (i : Int))) % 2147483629)) (sto := storeS (.name 6)) (elt := fun env hd => evE ⟨T, callF T k⟩ D_law_streams.e0 env hd)
      (env := [some (.row ns), some (.int 2), some (.int 4), some (.lst ((ns.take 4).map .int)), some (.int f), none, none]) (hd := hd0) (List.range (((1 + 2 : Int) - ((ns.take 4).length : Int)) - 1).toNat) (by simp [line]; omega) fun i hi => by
        have m1 : binS false .Mult (.int f) (.int 613) hd0 = .ok (.int (f * 613)) hd0 := mul_int (.inr (by decide))
        have m2 : binS false .Mult (.int 1000003) (.int (1 + (i : Int))) hd0 = .ok (.int (1000003 * (1 + (i : Int)))) hd0 := mul_int (.inl (by decide))
        have m3 : ∀ x : Int, binS true .Mod (.int x) (.int 2147483629) hd0 = .ok (.int (x % 2147483629)) hd0 := fun x => mod_int (by decide)
        exact ⟨_, rfl, by simp only [D_law_streams.e0, evE_bin, evE_bi, evEs_more, evEs_nil, evE_var, evE_con, List.set_cons_succ, List.set_cons_zero, List.getElem?_cons_zero, List.getElem?_cons_succ, R.bind_ok, m1, m2, R.st_ok, add_int, int_int, m3, ne_eq, reduceCtorEq, not_false_eq_true, implies_true]⟩
    refine ⟨(List.range (((1 + 2 : Int) - ((ns.take 4).length : Int)) - 1).toNat).map fun i : Nat => (f * 613 + 1000003 * (1 + (i : Int))) % 2147483629, ?_, by rw [List.length_map, List.length_range]; omega⟩
    simp only [evE_lc, evEs_more, evEs_nil, evE_con, evE_bin, evE_var, evE_bi, List.getElem?_cons_zero, List.getElem?_cons_succ, R.bind_ok, add_int, R.st_ok, len_lst, List.length_map, sub_int, ne_eq, reduceCtorEq, not_false_eq_true, implies_true]
    rw [it _ (by omega) (by omega)]
    simp only [wipe, List.set_cons_succ, List.set_cons_zero, evAll_nil, lc, R.bind_ok]
    simp [mkL, Function.comp_def]
  have ad : binS false .Add (.lst ((ns.take 4).map .int)) (.lst (more.map .int)) hd0 = .ok (.lst ((ns.take 4 ++ more).map .int)) hd0 := by
    rw [add_lst (by simp only [List.length_map, line]; omega), List.map_append]
  -- the streams
  obtain ⟨ys, hd', e3, p⟩ := lcV_run (P := fun i acc h => Ss h ∧ h.length = hd0.length + i ∧ (∀ j, j < i → St h (hd0.length + j)) ∧ acc = objsF hd0.length i) (sto := storeS (.name 5)) (tst := fun _ hd => .ok true hd) (elt := fun env hd => evE ⟨T, callF T k⟩ D_law_streams.e1 env hd)
    (env := [some (.row ns), some (.int 2), some (.int 4), some (.lst ((ns.take 4 ++ more).map .int)), some (.int f), none, none]) ((ns.take 4 ++ more).map .int) 0 [] hd0 ⟨ss0, rfl, fun j h => absurd h (Nat.not_lt_zero _), rfl⟩ (by simp only [List.length_map, List.length_append, List.length_nil, line]; omega) fun j v acc h q p => by
      obtain ⟨ss, hl, sts, rfl⟩ := p
      rw [List.getElem?_map] at q
      obtain ⟨a, qa, rfl⟩ := Option.map_eq_some_iff.mp q
      have pw : binS false .Pow (.int 10) (.int 18) h = .ok (.int (10 ^ 18)) h := by
        show (if (0 : Int) ≤ 18 ∧ (18 : Int) ≤ 1000000 ∧ (10 : Int).natAbs < 2 ^ 64 then R.ok (D.int ((10 : Int) ^ (18 : Int).toNat)) h else .bad) = _
        rw [if_pos ⟨by decide, by decide, by decide⟩]
        rfl
      have md : binS false .Mod (.int a) (.int 2147483629) h = .ok (.int (a % 2147483629)) h := mod_int (by decide)
      have ab : ∀ h, biS ⟨T, callF T k⟩ false .abs [.int a] h = .ok (.int (if a < 0 then -a else a)) h := fun h => rfl
      obtain ⟨x, ex⟩ : ∃ x : Int, evE ⟨T, callF T k⟩ (.ite (.or (.cmp .GtE (.var 5) (.bin false .Pow (.con (.int 10)) (.con (.int 18)))) (.cmp .Lt (.var 5) (.con (.int 0)))) (.bi false .abs (.cons (.var 5) .nil)) (.con (.int 0)))
          [some (.row ns), some (.int 2), some (.int 4), some (.lst ((ns.take 4 ++ more).map .int)), some (.int f), some (.int a), none] h = .ok (.int x) h := by
        by_cases h1 : (10 : Int) ^ 18 ≤ a
        · exact ⟨if a < 0 then -a else a, by simp only [evE_ite, evE_or, evE_cmp, evE_var, evE_bin, evE_con, evE_bi, evEs_more, evEs_nil, List.getElem?_cons_zero, List.getElem?_cons_succ, R.bind_ok, pw, R.st_ok, ge_int, truth_bl, R.of_some, decide_eq_true h1, if_true, truthR_ok, ab, ne_eq, reduceCtorEq, not_false_eq_true, implies_true]⟩
        · by_cases h2 : a < 0
          · exact ⟨if a < 0 then -a else a, by simp only [evE_ite, evE_or, evE_cmp, evE_var, evE_bin, evE_con, evE_bi, evEs_more, evEs_nil, List.getElem?_cons_zero, List.getElem?_cons_succ, R.bind_ok, pw, R.st_ok, ge_int, lt_int, truth_bl, R.of_some, decide_eq_false h1, decide_eq_true h2, Bool.false_eq_true, if_false, if_true, truthR_ok, ab, ne_eq, reduceCtorEq, not_false_eq_true, implies_true]⟩
          · exact ⟨0, by simp only [evE_ite, evE_or, evE_cmp, evE_var, evE_bin, evE_con, evE_bi, evEs_more, evEs_nil, List.getElem?_cons_zero, List.getElem?_cons_succ, R.bind_ok, pw, R.st_ok, ge_int, lt_int, truth_bl, R.of_some, decide_eq_false h1, decide_eq_false h2, Bool.false_eq_true, if_false, truthR_ok, ne_eq, reduceCtorEq, not_false_eq_true, implies_true]⟩
      refine ⟨_, .obj h.length, h ++ [.lst [.int x, .int (a % 2147483629), .int 0]], rfl, rfl, ?_, fun mo hm => ?_, by simp; omega, fun i hi => ?_, ?_⟩
      · simp only [D_law_streams.e1, evE_lst, evEs_more, evEs_nil, List.set_cons_succ, List.set_cons_zero, ex, R.bind_ok, evE_bin, evE_bi, evE_var, evE_con, List.getElem?_cons_zero, List.getElem?_cons_succ, int_int, R.st_ok, md, ne_eq, reduceCtorEq, not_false_eq_true, implies_true]
        simp [line, mkL]
      · rcases List.mem_append.mp hm with hm | hm
        · exact ss mo hm
        · rw [List.mem_singleton.mp hm]
          exact fun N => rfl
      · by_cases e : i < 0 + j
        · exact (sts i e).more
        · have : hd0.length + i = h.length := by omega
          rw [this]
          exact ⟨x, a % 2147483629, 0, at_end⟩
      · rw [hl]
        simp [objsF, List.range_succ]
  obtain ⟨ss, hl, sts, rfl⟩ := p
  rw [Nat.zero_add, List.length_map, List.length_append] at hl sts
  refine ⟨_, hd', ?_, ss, hl, sts, by omega⟩
  simp only [D_law_streams.tree, evS_seq, evS_set, evE_bi, evEs_more, evEs_nil, evE_sl01, evE_var, evE_con, List.getElem?_cons_zero, List.getElem?_cons_succ, R.bind_ok, intS, s1, R.st_ok, li, R.to_ok, store_name, List.set_cons_succ, List.set_cons_zero, O.then_nx, ef, evE_bin, em, ad, evS_ret, ne_eq, reduceCtorEq, not_false_eq_true, implies_true]
  simp only [evE_lc, evEs_more, evEs_nil, evE_var, List.getElem?_cons_zero, List.getElem?_cons_succ, R.bind_ok, it_lst, wipe, List.set_cons_succ, List.set_cons_zero, evAll_nil, e3, ne_eq, reduceCtorEq, not_false_eq_true, implies_true]
  simp only [mkL, Bool.false_eq_true, if_false, R.to_ok, O.then_rt, fin_kept]
  rw [Nat.zero_add, List.length_map, List.length_append]
end Z
/-! P14: the law. -/
namespace Z
open PySem
def lawA : S := (.set (.name 1) (.tup (.cons (.con (.str [])) (.cons (.con (.bl false)) (.cons (.con (.str [62])) .nil)))))
def lawB : S := (.set (.name 2) (.lst true (.cons (.lst false (.cons (.tup (.cons (.var 1) (.cons (.var 1) .nil))) (.cons (.con (.int 0)) .nil))) (.cons (.lst false (.cons (.tup (.cons (.tup (.cons (.con (.str [62])) (.cons (.con (.int 1)) (.cons (.con (.str [])) .nil)))) (.cons (.var 1) .nil))) (.cons (.con (.int 0)) .nil))) (.cons (.lst false (.cons (.tup (.cons (.tup (.cons (.con (.str [])) (.cons (.con (.bl true)) (.cons (.con (.str [])) .nil)))) .nil)) (.cons (.con (.int 0)) .nil))) (.cons (.lst false (.cons (.lst false (.cons (.var 1) .nil)) (.cons (.con (.non)) .nil))) (.cons (.lst false (.cons (.tup .nil) (.cons (.con (.non)) .nil))) .nil)))))))
def lawC : S := (.set (.name 2) (.bin true .Add (.var 2) (.lst false (.cons (.lst false (.cons (.bin false .Add (.bin false .Mult (.tup (.cons (.tup (.cons (.con (.str [62])) (.cons (.con (.bl false)) (.cons (.con (.str [])) .nil)))) .nil)) (.con (.int 5))) (.tup (.cons (.var 1) .nil))) (.cons (.con (.int 5)) .nil))) (.cons (.lst false (.cons (.tup (.cons (.tup (.cons (.con (.str [35])) (.cons (.con (.bl false)) (.cons (.con (.str [62, 62, 62, 62])) .nil)))) (.cons (.var 1) .nil))) (.cons (.con (.int 0)) .nil))) (.cons (.lst false (.cons (.tup (.cons (.var 1) (.cons (.con (.non)) .nil))) (.cons (.con (.int 0)) .nil))) .nil))))))
def lawD : S := (.set (.name 2) (.bin true .Add (.var 2) (.lst false (.cons (.lst false (.cons (.tup (.cons (.tup (.cons (.con (.str [35])) (.cons (.con (.bl true)) (.cons (.con (.str [64])) .nil)))) (.cons (.tup (.cons (.tup (.cons (.con (.str [])) .nil)) (.cons (.con (.bl false)) (.cons (.con (.str [62])) .nil)))) .nil))) (.cons (.con (.int 1)) .nil))) (.cons (.lst false (.cons (.tup (.cons (.tup (.cons (.con (.str [35, 35])) (.cons (.con (.bl true)) (.cons (.con (.str [64])) .nil)))) (.cons (.var 1) .nil))) (.cons (.con (.int 0)) .nil))) .nil)))))
def lawE : S := (.ex (.mt false .append (.var 2) (.cons (.lst false (.cons (.bin false .Mult (.tup (.cons (.var 1) .nil)) (.con (.int 6))) (.cons (.con (.int 0)) .nil))) .nil)))
def lawF : S := (.for_ (.name 3) .plain (.cons (.var 2) .nil) Dlaw.b0)
def lawG : S := (.ret (.bi false .all (.cons (.lc false Dlaw.e0 [4] (.name 4) .plain (.cons (.bin false .Mult (.fn "_law_streams" (.cons (.var 0) (.cons (.con (.int 2)) (.cons (.con (.int 4)) .nil))) [] .nil) (.con (.int 6))) .nil) .nil) .nil)))
theorem law_tree : Dlaw.tree = .seq lawA (.seq lawB (.seq lawC (.seq lawD (.seq lawE (.seq lawF (.seq lawG .skip)))))) := rfl
def lastD : D := .tup [.str [], .bl false, .str [62]]
def lrow0 : D := .tup [.tup [.str [], .bl false, .str [62]], .tup [.str [], .bl false, .str [62]]]
def lrow1 : D := .tup [.tup [.str [62], .int 1, .str []], .tup [.str [], .bl false, .str [62]]]
def lrow2 : D := .tup [.tup [.str [], .bl true, .str []]]
def lrow3 : D := .lst [.tup [.str [], .bl false, .str [62]]]
def lrow4 : D := .tup []
def lrow5 : D := .tup [.tup [.str [62], .bl false, .str []], .tup [.str [62], .bl false, .str []], .tup [.str [62], .bl false, .str []], .tup [.str [62], .bl false, .str []], .tup [.str [62], .bl false, .str []], .tup [.str [], .bl false, .str [62]]]
def lrow6 : D := .tup [.tup [.str [35], .bl false, .str [62, 62, 62, 62]], .tup [.str [], .bl false, .str [62]]]
def lrow7 : D := .tup [.tup [.str [], .bl false, .str [62]], .non]
def lrow8 : D := .tup [.tup [.str [35], .bl true, .str [64]], .tup [.tup [.str []], .bl false, .str [62]]]
def lrow9 : D := .tup [.tup [.str [35, 35], .bl true, .str [64]], .tup [.str [], .bl false, .str [62]]]
def lrow10 : D := .tup [.tup [.str [], .bl false, .str [62]], .tup [.str [], .bl false, .str [62]], .tup [.str [], .bl false, .str [62]], .tup [.str [], .bl false, .str [62]], .tup [.str [], .bl false, .str [62]], .tup [.str [], .bl false, .str [62]]]
def rowsA : List D := [.lst [lrow0, .int 0], .lst [lrow1, .int 0], .lst [lrow2, .int 0], .lst [lrow3, .non], .lst [lrow4, .non]]
def rowsB : List D := [.lst [lrow0, .int 0], .lst [lrow1, .int 0], .lst [lrow2, .int 0], .lst [lrow3, .non], .lst [lrow4, .non], .lst [lrow5, .int 5], .lst [lrow6, .int 0], .lst [lrow7, .int 0]]
def rowsC : List D := [.lst [lrow0, .int 0], .lst [lrow1, .int 0], .lst [lrow2, .int 0], .lst [lrow3, .non], .lst [lrow4, .non], .lst [lrow5, .int 5], .lst [lrow6, .int 0], .lst [lrow7, .int 0], .lst [lrow8, .int 1], .lst [lrow9, .int 0]]
def rowsD : List D := [.lst [lrow0, .int 0], .lst [lrow1, .int 0], .lst [lrow2, .int 0], .lst [lrow3, .non], .lst [lrow4, .non], .lst [lrow5, .int 5], .lst [lrow6, .int 0], .lst [lrow7, .int 0], .lst [lrow8, .int 1], .lst [lrow9, .int 0], .lst [lrow10, .int 0]]
def hdA : Hd := [.lst rowsA]
def hdB2 : Hd := [.lst rowsA, .lst rowsB]
def hdC : Hd := [.lst rowsA, .lst rowsB, .lst rowsC]
def hdD : Hd := [.lst rowsA, .lst rowsB, .lst rowsD]
section
variable {F : String × String → List D → List (String × D) → Hd → R D} {r : D}
theorem law_a : evS ⟨T, F⟩ lawA [some r, none, none, none, none] [] = .nx [some r, some lastD, none, none, none] [] := by rfl
theorem law_b : evS ⟨T, F⟩ lawB [some r, some lastD, none, none, none] [] = .nx [some r, some lastD, some (.obj 0), none, none] hdA := by rfl
theorem law_c : evS ⟨T, F⟩ lawC [some r, some lastD, some (.obj 0), none, none] hdA = .nx [some r, some lastD, some (.obj 1), none, none] hdB2 := by rfl
theorem law_d : evS ⟨T, F⟩ lawD [some r, some lastD, some (.obj 1), none, none] hdB2 = .nx [some r, some lastD, some (.obj 2), none, none] hdC := by rfl
theorem law_e : evS ⟨T, F⟩ lawE [some r, some lastD, some (.obj 2), none, none] hdC = .nx [some r, some lastD, some (.obj 2), none, none] hdD := by rfl
end
theorem rows_ok : ∀ v ∈ rowsD, ∃ x j, v = .lst [x, noD j] ∧ Ox x ∧ fault x = some j := by
  intro v hv
  simp only [rowsD, List.mem_cons, List.not_mem_nil, or_false] at hv
  rcases hv with rfl | rfl | rfl | rfl | rfl | rfl | rfl | rfl | rfl | rfl | rfl
  · exact ⟨lrow0, some 0, rfl, oxC_ok (by decide +kernel), by decide +kernel⟩
  · exact ⟨lrow1, some 0, rfl, oxC_ok (by decide +kernel), by decide +kernel⟩
  · exact ⟨lrow2, some 0, rfl, oxC_ok (by decide +kernel), by decide +kernel⟩
  · exact ⟨lrow3, none, rfl, oxC_ok (by decide +kernel), by decide +kernel⟩
  · exact ⟨lrow4, none, rfl, oxC_ok (by decide +kernel), by decide +kernel⟩
  · exact ⟨lrow5, some 5, rfl, oxC_ok (by decide +kernel), by decide +kernel⟩
  · exact ⟨lrow6, some 0, rfl, oxC_ok (by decide +kernel), by decide +kernel⟩
  · exact ⟨lrow7, some 0, rfl, oxC_ok (by decide +kernel), by decide +kernel⟩
  · exact ⟨lrow8, some 1, rfl, oxC_ok (by decide +kernel), by decide +kernel⟩
  · exact ⟨lrow9, some 0, rfl, oxC_ok (by decide +kernel), by decide +kernel⟩
  · exact ⟨lrow10, some 0, rfl, oxC_ok (by decide +kernel), by decide +kernel⟩
theorem ss_D : Ss hdD := fun mo h => by
  simp only [hdD, List.mem_cons, List.not_mem_nil, or_false] at h
  rcases h with rfl | rfl | rfl <;> exact fun N => rfl
theorem forO_run {sto : D → Env → Hd → Option Env} {body : Env → Hd → O} {a n : Nat} {hd : Hd} {xs : List D} (hx : hd[a]? = some (.lst xs)) (hn : xs.length = n) (Q : Env → Prop)
    (st : ∀ v ∈ xs, ∀ env, Q env → ∃ env1 env2, sto v env hd = some env1 ∧ body env1 hd = .nx env2 hd ∧ Q env2) : ∀ m env, m ≤ n → Q env → ∃ env', forO sto body a n m env hd = .nx env' hd ∧ Q env'
  | 0, env, _, q => ⟨env, by
    unfold forO
    rw [hx]
    dsimp only
    rw [if_pos hn], q⟩
  | m + 1, env, h, q => by
    have hl : n - (m + 1) < xs.length := by omega
    obtain ⟨env1, env2, e1, e2, q2⟩ := st xs[n - (m + 1)] (List.getElem_mem hl) env q
    obtain ⟨env', e3, q3⟩ := forO_run hx hn Q st m env2 (by omega) q2
    refine ⟨env', ?_, q3⟩
    unfold forO
    rw [hx]
    dsimp only
    rw [if_pos hn, List.getElem?_eq_getElem hl]
    dsimp only
    rw [e1]
    dsimp only
    rw [e2]
    exact e3
theorem To.other {n m : Nat} {hd hd' : Hd} (t : To n hd hd') (s : St hd m) : St hd' m := by
  by_cases e : m = n
  · subst e
    exact t.st s.lt
  · obtain ⟨x, y, z, rfl⟩ := t
    obtain ⟨a, b, c, q⟩ := s
    refine ⟨a, b, c, ?_⟩
    unfold lsAt at q ⊢
    rw [List.getElem?_set_ne (Ne.symm e)]
    exact q
theorem law_f {r : D} : ∃ w, evS ⟨T, callF T 6⟩ lawF [some r, some lastD, some (.obj 2), none, none] hdD = .nx [some r, some lastD, some (.obj 2), w, none] hdD := by
  have run := forO_run (sto := storeS (.name 3)) (body := fun env hd => evS ⟨T, callF T 6⟩ Dlaw.b0 env hd) (a := 2) (hd := hdD) (xs := rowsD) rfl rfl (fun env => ∃ w, env = [some r, some lastD, some (.obj 2), w, none]) (fun v hv env q => by
    obtain ⟨w, rfl⟩ := q
    obtain ⟨x, j, rfl, ox, hf⟩ := rows_ok v hv
    refine ⟨[some r, some lastD, some (.obj 2), some (.lst [x, noD j]), none], _, rfl, ?_, some (.lst [x, noD j]), rfl⟩
    have tc : toldS T (newS ⟨T, callF T 6⟩ "Program" [.str [112], x] [] hdD) = .ok (.lst [.str wCases, .str (shN j)]) hdD := told_cases (k := 1) (d := .str [112]) (show ([112] : List Nat).length ≤ 1000 by decide) (by decide +kernel) ox hf ss_D
    have rj : biS ⟨T, callF T 6⟩ false .repr [noD j] hdD = .ok (.str (shN j)) hdD := (repr_od (by cases j <;> exact True.intro)).trans (sh_no (fault_le hf))
    have ne := ne_fl (g := ⟨T, callF T 6⟩) (hd := hdD) [.inl wCases, .inl (shN j)] [.inl wCases, .inl (shN j)]
    rw [decide_eq_true rfl] at ne
    have ne : cmpS ⟨T, callF T 6⟩ .NotEq (.lst [.str wCases, .str (shN j)]) (.lst [.str wCases, .str (shN j)]) hdD = .ok (.bl false) hdD := ne
    simp only [Dlaw.b0, evS_seq, evS_ifs, evE_cmp, evE_told, evE_new, evEs_more, evEs_nil, evE_con, evE_ix, evE_var, List.getElem?_cons_zero, List.getElem?_cons_succ, R.bind_ok, ixl, ixl1, R.st_ok, List.length_nil, List.zip_nil_left, if_true, tc, evE_lst, evE_bi, rj, List.length_cons, show (0 + 1 + 1 ≤ line) = True from eq_true (by decide), mkL, Bool.false_eq_true, if_false, show D.str [73, 110, 118, 97, 108, 105, 100, 67, 97, 115, 101, 115] = .str wCases from rfl, ne, truthR_ok, truth_bl, R.of_some, R.to_ok, evS_skip, O.then_nx, ne_eq, reduceCtorEq, not_false_eq_true, implies_true])
  obtain ⟨env', e, w, rfl⟩ := run rowsD.length [some r, some lastD, some (.obj 2), none, none] (Nat.le_refl _) ⟨none, rfl⟩
  refine ⟨w, ?_⟩
  have it : iterS .plain [.obj 2] hdD = some (.inr 2) := rfl
  have at2 : hdD[2]? = some (.lst rowsD) := rfl
  simp only [lawF, evS_for, evEs_more, evEs_nil, evE_var, List.getElem?_cons_zero, List.getElem?_cons_succ, R.bind_ok, R.to_ok, it, at2, ne_eq, reduceCtorEq, not_false_eq_true, implies_true]
  exact e
theorem objsF_mem {b n : Nat} {v : D} (h : v ∈ objsF b n) : ∃ i, i < n ∧ v = .obj (b + i) := by
  unfold objsF at h
  obtain ⟨i, hi, e⟩ := List.mem_map.mp h
  exact ⟨i, List.mem_range.mp hi, e.symm⟩
theorem law_ (ns : List Int) : ∃ h, runF T 6 Dlaw.fnd [.row ns] [] = .ok (.bl true) h := by
  have ss0 : Ss [] := fun mo h => by cases h
  obtain ⟨w, ef⟩ := law_f (r := .row ns)
  obtain ⟨N, h1, e1, ss, hN, sts, N4⟩ := streams_ (k := 5) ns hdD ss_D
  have e1 : callF T 6 ("", "_law_streams") [.row ns, .int 2, .int 4] [] hdD = .ok (.lst (objsF hdD.length N)) h1 := e1
  have ml : binS false .Mult (.lst (objsF hdD.length N)) (.int 6) h1 = .ok (.lst (List.replicate 6 (objsF hdD.length N)).flatten) h1 := by
    show (if (-9223372036854775808 : Int) ≤ 6 ∧ (6 : Int) < 9223372036854775808 ∧ (objsF hdD.length N).length * (6 : Int).toNat ≤ line then mkL false (List.replicate (6 : Int).toNat (objsF hdD.length N)).flatten h1 else .bad) = _
    rw [if_pos ⟨by decide, by decide, by
      rw [objsF_len]
      show N * 6 ≤ line
      simp only [line]
      omega⟩]
    rfl
  have fl : (List.replicate 6 (objsF hdD.length N)).flatten.length ≤ line := by
    have e : (List.replicate 6 (objsF hdD.length N)).flatten.length = 6 * N := by
      simp [List.replicate, objsF_len]
      omega
    rw [e]
    simp only [line]
    omega
  obtain ⟨ys, h2, e2, p⟩ := lcV_run (P := fun i acc h => Ss h ∧ (∀ i, i < N → St h (hdD.length + i)) ∧ acc = (List.range i).map fun _ => D.bl true) (sto := storeS (.name 4)) (tst := fun _ hd => .ok true hd) (elt := fun env hd => evE ⟨T, callF T 6⟩ Dlaw.e0 env hd)
    (env := [some (.row ns), some lastD, some (.obj 2), w, none]) (List.replicate 6 (objsF hdD.length N)).flatten 0 [] h1 ⟨ss, sts, rfl⟩ (by simpa using fl) fun j v acc h q p => by
      obtain ⟨ss, sts, rfl⟩ := p
      obtain ⟨i, hi, rfl⟩ : ∃ i, i < N ∧ v = .obj (hdD.length + i) := by
        have := List.mem_of_getElem? q
        obtain ⟨l, hl, hv⟩ := List.mem_flatten.mp this
        rw [(List.mem_replicate.mp hl).2] at hv
        exact objsF_mem hv
      obtain ⟨h', e, t⟩ := right_ (k := 0) (hd := h) (n := hdD.length + i) ss (sts i hi)
      refine ⟨_, .bl true, h', rfl, rfl, ?_, ss.to t, fun i' hi' => t.other (sts i' hi'), by simp [List.range_succ]⟩
      have e : callF T 6 ("", "_law_right") [.obj (hdD.length + i)] [] h = .ok (.bl true) h' := e
      simp only [Dlaw.e0, evE_fn, evEs_more, evEs_nil, evE_var, List.set_cons_succ, List.set_cons_zero, List.getElem?_cons_zero, List.getElem?_cons_succ, R.bind_ok, List.length_nil, List.zip_nil_left, if_true, e, ne_eq, reduceCtorEq, not_false_eq_true, implies_true]
  obtain ⟨ss2, _, rfl⟩ := p
  have al := all_bls (g := ⟨T, callF T 6⟩) (m := false) (hd := h2) (p := fun _ : Nat => true) (List.range (0 + (List.replicate 6 (objsF hdD.length N)).flatten.length))
  rw [show (List.range (0 + (List.replicate 6 (objsF hdD.length N)).flatten.length)).all (fun _ => true) = true by simp] at al
  have eg : evS ⟨T, callF T 6⟩ lawG [some (.row ns), some lastD, some (.obj 2), w, none] hdD = .rt (.bl true) h2 := by
    simp only [lawG, evS_ret, evE_bi, evE_lc, evE_bin, evE_fn, evEs_more, evEs_nil, evE_con, evE_var, List.getElem?_cons_zero, List.getElem?_cons_succ, R.bind_ok, List.length_nil, List.zip_nil_left, if_true, e1, ml, R.st_ok, it_lst, wipe, List.set_cons_zero, List.set_cons_succ, evAll_nil, e2, mkL, Bool.false_eq_true, if_false, al, R.to_ok, ne_eq, reduceCtorEq, not_false_eq_true, implies_true]
  have fl := fin_low (hd := ([] : Hd)) (d := .bl true) (tl := h2) ss0 rfl
  refine ⟨[], ?_⟩
  show fin false ([] : Hd).length (evS ⟨T, callF T 6⟩ Dlaw.tree [some (.row ns), none, none, none, none] []) = _
  rw [law_tree, evS_seq, law_a, O.then_nx, evS_seq, law_b, O.then_nx, evS_seq, law_c, O.then_nx, evS_seq, law_d, O.then_nx, evS_seq, law_e, O.then_nx, evS_seq, ef, O.then_nx, evS_seq, eg, O.then_rt]
  exact fl
end Z
open PySem PySem.W PySem.Calls PyProof.Rows
theorem PySem.Challenge.cw_quotedthreads_k03_programs_refused_holds : PySem.Challenge.rw_quotedthreads_k03_programs_refused.Holds := by
  w_on; o_law
  refine HandSHeadRun.head_any (r := Z.RowK) (q := Z.viewK) (H := Z.hk) (ob := Z.ob) (M := 20000) (loose := Z.loose) (d := HandSHeadRun.topDef Z.RowK.prog 77) (kwd := []) Z.ob_eq
    (by kernel_rfl) (fun s => by kernel_rfl) Z.run (by kernel_rfl) (by kernel_rfl) (by kernel_rfl) (by rfl) (by first | assumption | decide +kernel) (by decide +kernel) ⟨rfl, rfl, rfl, rfl, rfl, by decide +kernel⟩ ?hw ?hc
  case hw => w_witness2
  case hc =>
    exact Z.walkT (l := PySem.Challenge.rw_quotedthreads_k03_programs_refused) (n := 63) (m := 7) (j := 6) (x := "_law_script") (t := Z.txt) (dl := Z.Dlaw) rfl (by decide) (by kernel_rfl) ⟨rfl, by decide, by decide, rfl⟩
      Z.txt_all (by decide +kernel) (by simp [Z.txt]) rfl (by kernel_rfl) rfl (by show _ ∈ [((1, []) : Nat × List String)]; simp) fun ns _ _ => Z.law_ ns
