import PyProof.Rows.All
import Wide.All
import OpenK.AllK
import Wide.FinOn
import HandS.ForMost
import HandS.TupSets
import KE.SortData
import KE.KDictKeyed
import KE.KeyNested
import HandS.ForExc
import HandS.DictComp
import HandS.TupAny
import HandS.Style
import HandS.Flow
import HandS.Zip
import HandS.RaiseMore
import HandS.Conv
import HandS.IsInst
import HandS.More
import HandS.Deep
import HandS.ExcIs
import HandS.Text
import HandS.Spec
import HandS.Dict
import HandS.TupLen
import HandS.DictTup
import HandS.Iter
import KE.KDictZip
import KE.KDictList
import HandS.Set
import HandS.SetKeys
import HandS.SetBool
import HandS.Strs
import KE.KRevSl
import HandS.StrMore
import HandS.TryOnly
import HandS.Star
import KE.KDictPairs
import KE.DataFind
import KE.KEqDeep
import HandS.EndBits
import PySem.Challenge.RW_lateriver_k20_changes_summed
set_option Elab.async false
set_option linter.all false
set_option maxRecDepth 100000
namespace VM
open PySem
inductive D where
  | non | bl (b : Bool) | int (i : Int) | str (s : List Nat) | tup (l : List D) | ref (n : Nat) | exc (n c : Nat) | kl (l : List D) | fn (i a : Nat)
abbrev Key := Sum Int (List Nat)
/-- a key of a moment and a row -/
abbrev Nk := Int × List Int
inductive Obj where
  | lst (l : List D) | ro (l : List D) | dk (kvs : List (Key × D)) | fk (kvs : List (Key × D)) | ins (q c : Nat) (fs : List (List Nat × D)) | nd (kvs : List (Nk × Int)) | nf (kvs : List (Nk × Int))
/-- what a dict with keys of a moment and a row tells, and when one is put -/
def nget (kvs : List (Nk × Int)) (k : Nk) : Option Int := (kvs.find? fun p => decide (p.1 = k)).map (·.2)
def nput (kvs : List (Nk × Int)) (k : Nk) (c : Int) : List (Nk × Int) := if (nget kvs k).isSome then kvs.map (fun p => if p.1 = k then (p.1, c) else p) else kvs ++ [(k, c)]
def nkD (k : Nk) : D := .tup [.int k.1, .tup (k.2.map .int)]
def intD : D → Option Int
  | .int i => some i
  | _ => none
/-- a value that is such a key -/
def nkOf : D → Option Nk
  | .tup [.int m, .tup l] => (l.mapM intD).map fun r => (m, r)
  | _ => none
def encK (k : Nk) : PyData := .tuple [.int k.1, .tuple (k.2.map .int)]
def encI (p : Nk × Int) : PyData := .tuple [encK p.1, .int p.2]
/-- the items, in order -/
def sortI (kvs : List (Nk × Int)) : List (Nk × Int) := kvs.mergeSort (PySem.W.dataLe false encI)
abbrev Store := List Obj
inductive Out (α : Type) where
  | ok (a : α) (S : Store) | exc (c : Nat) (S : Store) | bad
def M (α : Type) := Store → Out α
def ret {α : Type} (a : α) : M α := fun S => .ok a S
def bnd {α β : Type} (m : M α) (f : α → M β) : M β := fun S => match m S with
  | .ok a S' => f a S'
  | .exc c S' => .exc c S'
  | .bad => .bad
def bad {α : Type} : M α := fun _ => .bad
def lft {α : Type} (o : Option α) : M α := match o with
  | some a => ret a
  | none => bad
/-- a new object -/
def new (o : Obj) : M D := fun S => .ok (.ref S.length) (S ++ [o])
def put (n : Nat) (o : Obj) : M Unit := fun S => .ok () (S.set n o)
def rd (n : Nat) : M Obj := fun S => match S[n]? with
  | some o => .ok o S
  | none => .bad
def big : Nat := 16777216
def keyOf : D → Option Key
  | .int i => some (.inl i)
  | .str s => some (.inr s)
  | _ => none
def kD : Key → D
  | .inl i => .int i
  | .inr s => .str s
def kget (kvs : List (Key × D)) (k : Key) : Option D := (kvs.find? fun kv => decide (kv.1 = k)).map (·.2)
def kput (kvs : List (Key × D)) (k : Key) (v : D) : List (Key × D) :=
  if (kvs.any fun kv => decide (kv.1 = k)) then kvs.map fun kv => if kv.1 = k then (kv.1, v) else kv else kvs ++ [(k, v)]
/-- deep data -/
def deep (S : Store) : Nat → D → Option PyData
  | 0, _ => none
  | n + 1, d => match d with
    | .non => some .none
    | .bl b => some (.bool b)
    | .int i => some (.int i)
    | .str s => some (.str ⟨s.toArray⟩)
    | .tup l => (l.mapM (deep S n)).map .tuple
    | .ref a => match S[a]? with
      | some (.lst l) => (l.mapM (deep S n)).map .list
      | some (.ro l) => (l.mapM (deep S n)).map .list
      | _ => none
    | .exc _ _ => none
    | .kl _ => none
    | .fn _ _ => none
/-- data to be shown: empty dicts, too -/
def deepR (S : Store) : Nat → D → Option PyData
  | 0, _ => none
  | n + 1, d => match d with
    | .non => some .none
    | .bl b => some (.bool b)
    | .int i => some (.int i)
    | .str s => some (.str ⟨s.toArray⟩)
    | .tup l => (l.mapM (deepR S n)).map .tuple
    | .ref a => match S[a]? with
      | some (.lst l) => (l.mapM (deepR S n)).map .list
      | some (.ro l) => (l.mapM (deepR S n)).map .list
      | some (.dk []) => some (.dict [])
      | _ => none
    | .exc _ _ => none
    | .kl _ => none
    | .fn _ _ => none
mutual
def hasLst : PyData → Bool
  | .list _ => true
  | .tuple l => hasLstA l
  | _ => false
def hasLstA : List PyData → Bool
  | [] => false
  | d :: r => hasLst d || hasLstA r
end
def showB (p : PyData) : Bool := p.showable && decide (p.shown.length ≤ big) && decide (p.depth ≤ 64)
def truth (d : D) : M Bool := fun S => match d with
  | .non => .ok false S
  | .bl b => .ok b S
  | .int i => .ok (i != 0) S
  | .str s => if s.length ≤ big then .ok (!s.isEmpty) S else .bad
  | .tup l => .ok (!l.isEmpty) S
  | .ref n => match S[n]? with
    | some (.lst l) => .ok (!l.isEmpty) S
    | some (.ro l) => .ok (!l.isEmpty) S
    | some (.dk kvs) => .ok (!kvs.isEmpty) S
    | some (.fk _) => .bad
    | some (.ins _ _ _) => .bad
    | some (.nd _) => .bad
    | some (.nf _) => .bad
    | none => .bad
  | .exc _ _ => .bad
  | .kl _ => .bad
  | .fn _ _ => .bad
inductive BOp where | add | sub | mul | fdiv | mod | pow
inductive COp where | eq | ne | lt | le | gt | ge | isin | notin | is | isnot | eqt
def mulOk (i j : Int) : Bool := (decide (-(2 ^ 64) < i) && decide (i < 2 ^ 64)) || (decide (-(2 ^ 64) < j) && decide (j < 2 ^ 64))
/-- a list of the store -/
def lstOf (n : Nat) : M (List D) := fun S => match S[n]? with
  | some (.lst l) => .ok l S
  | some (.ro l) => .ok l S
  | _ => .bad
def mutOf (n : Nat) : M (List D) := fun S => match S[n]? with
  | some (.lst l) => .ok l S
  | _ => .bad
def opB (o : BOp) (x y : D) : M D := match o, x, y with
  | .add, .int i, .int j => ret (.int (i + j))
  | .sub, .int i, .int j => ret (.int (i - j))
  | .mul, .int i, .int j => if mulOk i j then ret (.int (i * j)) else bad
  | .fdiv, .int i, .int j => if decide (0 < j) && decide (j < 1073741824) then ret (.int (i / j)) else bad
  | .mod, .int i, .int j => if decide (0 < j) then ret (.int (i % j)) else bad
  | .pow, .int i, .int j => if decide (0 ≤ j) && decide (j ≤ 1000000) && decide (i.natAbs < 2 ^ 64) then ret (.int (i ^ j.toNat)) else bad
  | .add, .str a, .str b => if a.length + b.length ≤ big then ret (.str (a ++ b)) else bad
  | .mul, .str a, .int n => match a with
    | [c] => if 0 ≤ n ∧ n ≤ 3 then ret (.str (List.replicate n.toNat c)) else bad
    | _ => bad
  | .add, .tup a, .tup b => if a.length + b.length ≤ big then ret (.tup (a ++ b)) else bad
  | .add, .ref a, .ref b => bnd (mutOf a) fun l => bnd (mutOf b) fun m => if l.length + m.length ≤ big then new (.lst (l ++ m)) else bad
  | _, _, _ => bad
/-- i += j, i -= j -/
def augB (o : BOp) (x y : D) : M D := match o, x, y with
  | .add, .int i, .int j => ret (.int (i + j))
  | .sub, .int i, .int j => ret (.int (i - j))
  | _, _, _ => bad
def dpt : Nat := 60
def strB : PyData → Bool
  | .str _ => true
  | _ => false
def two (x y : D) : M (PyData × PyData) := fun S => match deep S dpt x, deep S dpt y with
  | some p, some q => if (strB p && strB q) || (SeqAt.shaped p && SeqAt.shaped q) then .ok (p, q) S else .bad
  | _, _ => .bad
def strIn (x y : List Nat) : Option Bool := match x with
  | [c] => some (decide (c ∈ y))
  | _ => none
def opIn (x y : D) : M Bool := match y with
  | .str s => match x with
    | .str z => lft (strIn z s)
    | _ => bad
  | .tup l => fun S => match deep S dpt x, deep S dpt (.tup l) with
    | some p, some (.tuple qs) => if SeqAt.shaped p && SeqAt.shaped (.tuple qs) then .ok (qs.any fun z => PyData.eqv z p) S else .bad
    | _, _ => .bad
  | .ref n => fun S => match S[n]? with
    | some (.dk kvs) => match keyOf x with
      | some k => .ok (kget kvs k).isSome S
      | none => .bad
    | _ => match deep S dpt x, deep S dpt (.ref n) with
      | some p, some (.list qs) => if SeqAt.shaped p && SeqAt.shaped (.list qs) then .ok (qs.any fun z => PyData.eqv z p) S else .bad
      | _, _ => .bad
  | _ => bad
def isNon : D → Bool
  | .non => true
  | _ => false
def opIs (x y : D) : Option Bool := match x, y with
  | x, .non => some (isNon x)
  | .bl a, .bl b => some (decide (a = b))
  | _, _ => none
def opC (o : COp) (x y : D) : M D := match o with
  | .eq => bnd (two x y) fun p => ret (.bl (PyData.eqv p.1 p.2))
  | .ne => bnd (two x y) fun p => ret (.bl (!PyData.eqv p.1 p.2))
  | .lt => match x, y with
    | .int i, .int j => ret (.bl (decide (i < j)))
    | .str a, .str b => ret (.bl (decide (a < b)))
    | _, _ => bad
  | .le => match x, y with
    | .int i, .int j => ret (.bl (decide (i ≤ j)))
    | _, _ => bad
  | .gt => match x, y with
    | .int i, .int j => ret (.bl (decide (j < i)))
    | _, _ => bad
  | .ge => match x, y with
    | .int i, .int j => ret (.bl (decide (j ≤ i)))
    | _, _ => bad
  | .isin => bnd (opIn x y) fun b => ret (.bl b)
  | .notin => bnd (opIn x y) fun b => ret (.bl (!b))
  | .eqt => match x, y with
    | .tup (.str a :: l), .tup [.str b] => ret (.bl (decide (a = b) && l.isEmpty))
    | _, _ => bad
  | .is => bnd (lft (opIs x y)) fun b => ret (.bl b)
  | .isnot => bnd (lft (opIs x y)) fun b => ret (.bl (!b))
/-- o[i] -/
def ixN (n : Nat) (i : Int) : Option Nat := if 0 ≤ i then (if i < n then some i.toNat else none) else if -(n : Int) ≤ i then some (i + n).toNat else none
def atI {α : Type} (xs : List α) (i : Int) : Option α := (ixN xs.length i).bind fun j => xs[j]?
def opIx (x y : D) : M D := match x with
  | .kl l => match y with
    | .int i => lft (atI l i)
    | _ => bad
  | .tup l => match y with
    | .int i => lft (atI l i)
    | _ => bad
  | .str s => match y with
    | .int i => if s.length ≤ big then lft ((atI s i).map fun c => .str [c]) else bad
    | _ => bad
  | .ref n => bnd (rd n) fun o => match o with
    | .lst l => match y with
      | .int i => lft (atI l i)
      | _ => bad
    | .ro l => match y with
      | .int i => lft (atI l i)
      | _ => bad
    | .dk kvs => lft ((keyOf y).bind (kget kvs))
    | .fk kvs => lft ((keyOf y).bind (kget kvs))
    | .ins _ _ _ => bad
    | .nd kvs => lft ((nkOf y).bind fun k => (nget kvs k).map .int)
    | .nf _ => bad
  | _ => bad
def sIx (n d : Nat) : Option Int → Nat
  | none => d
  | some v => if v < 0 then (v + n).toNat else min v.toNat n
def cut {α : Type} (xs : List α) (lo hi : Option Int) : List α := (xs.drop (sIx xs.length 0 lo)).take (sIx xs.length xs.length hi - sIx xs.length 0 lo)
def opSl (x : D) (lo hi : Option Int) : M D := match x with
  | .tup l => ret (.tup (cut l lo hi))
  | .str s => if s.length ≤ big then ret (.str (cut s lo hi)) else bad
  | .ref n => bnd (lstOf n) fun l => new (.lst (cut l lo hi))
  | _ => bad
/-- o[i] = v -/
def opSet (o i v : D) : M Unit := match o with
  | .ref n => bnd (rd n) fun ob => match ob with
    | .lst l => match i with
      | .int k => bnd (lft (ixN l.length k)) fun j => put n (.lst (l.set j v))
      | _ => bad
    | .dk kvs => match nkOf i with
      | some k => bnd (lft (intD v)) fun c => if kvs.isEmpty = true then put n (.nd (nput [] k c)) else bad
      | none => bnd (lft (keyOf i)) fun k => if kvs.length < big then put n (.dk (kput kvs k v)) else bad
    | .ro _ => bad
    | .fk _ => bad
    | .ins _ _ _ => bad
    | .nd kvs => bnd (lft (nkOf i)) fun k => bnd (lft (intD v)) fun c => if kvs.length < big then put n (.nd (nput kvs k c)) else bad
    | .nf _ => bad
  | _ => bad
inductive Bif where | len | abs | int | str | repr | tuple | list | all | any | dict
inductive Mth where | append | clear | pop | extend
inductive Tg where
  | name (i : Nat)
  | tup (l : List Tg)
mutual
inductive Exp where
  | var (i : Nat)
  | lit (d : D)
  | glob (g : Nat)
  | bin (o : BOp) (a b : Exp)
  | neg (a : Exp)
  | nt (a : Exp)
  | cmp (o : COp) (a b : Exp)
  | cmp2 (o p : COp) (a b c : Exp)
  | and (a b : Exp)
  | or (a b : Exp)
  | ife (c a b : Exp)
  | tup (es : Exps)
  | lst (es : Exps)
  | dct (es : Exps)
  | dct0
  | idx (a b : Exp)
  | sl (a : Exp) (lo hi : Part)
  | call (f : Nat) (es : Exps)
  | bif (b : Bif) (es : Exps)
  | mth (m : Mth) (o : Exp) (es : Exps)
  | isi (e : Exp) (ty : Nat)
  | isx (e : Exp) (j : Nat)
  | spl (e s : Exp)
  | srt (e : Exp)
  | srs (e : Exp)
  | lset (e : Exp)
  | rev (e : Exp)
  | rvl (e : Exp)
  | mx (a b : Exp)
  | mn (a b : Exp)
  | kget (x : List Nat) (e : Exp)
  | kidx (x : List Nat) (e : Exp)
  | lzip (a b : Exp)
  | dzip (a b : Exp)
  | ixm (a b : Exp)
  | swi (a b c : Exp)
  | jn (a b : Exp)
  | fnv (f : Nat)
  | cll (i : Nat) (es : Exps)
  | cld (f : Nat) (es : Exps)
  | lss (fl : List Bool) (es : Exps)
  | fld (e : Exp) (x : List Nat)
  | mk (q : Nat) (x : List Nat) (es : Exps)
  | cm (e : Exp) (x : List Nat) (es : Exps)
  | dc (own : List Nat) (tg : Tg) (src : Src) (ifs : Exps) (k v : Exp)
  | lc (own : List Nat) (tg : Tg) (src : Src) (ifs : Exps) (elt : Exp)
  | lc2 (own own1 : List Nat) (tg : Tg) (src : Src) (ifs : Exps) (tg1 : Tg) (src1 : Src) (ifs1 : Exps) (elt : Exp)
  | lenset (own : List Nat) (tg : Tg) (src : Src) (elt : Exp)
  | srtc (own : List Nat) (tg : Tg) (src : Src) (ifs : Exps) (elt : Exp)
  | lkE (i : Nat) (e : Exp)
  | dcn (own : List Nat) (tg : Tg) (src : Src) (ifs : Exps) (k v : Exp)
  | nget (a k x : Exp)
  | srn (a : Exp)
  | isp (a : Exp) (i j : Nat)
  | cnt (a b : Exp)
  | dnp (a : Exp)
  | sm (a : Exp)
inductive Part where
  | no
  | at_ (e : Exp)
inductive Exps where
  | nil
  | cons (e : Exp) (es : Exps)
inductive Src where
  | seq (e : Exp)
  | rng1 (a : Exp)
  | rng2 (a b : Exp)
  | zip (a b : Exp)
  | revl (a : Exp)
  | itm (x : List Nat)
  | ndi (i : Nat)
end
mutual
inductive Stm where
  | expr (e : Exp)
  | asg (tg : Tg) (e : Exp)
  | par (i j : Nat) (a b : Exp)
  | par3 (i j l : Nat) (a b d : Exp)
  | sub (o i v : Exp)
  | aug (i : Nat) (o : BOp) (e : Exp)
  | ret (e : Exp)
  | retN
  | ife (c : Exp) (a b : Stms)
  | loop (tg : Tg) (src : Src) (b : Stms)
  | loopk (tg : Tg) (i : Nat) (b : Stms)
  | whil (c : Exp) (b : Stms)
  | brk
  | cnt
  | pass
  | raise (c : Nat)
  | try_ (b : Stms) (c i j : Nat)
  | tryN (b : Stms) (c i : Nat)
  | setf (o : Exp) (x : List Nat) (v : Exp)
inductive Stms where
  | nil
  | cons (s : Stm) (r : Stms)
end
abbrev Env := List (Option D)
mutual
def bind1 : Tg → D → Env → Option Env
  | .name i, d, ρ => some (ρ.set i (some d))
  | .tup ts, .tup ds, ρ => bindA ts ds ρ
  | .tup _, _, _ => none
def bindA : List Tg → List D → Env → Option Env
  | [], [], ρ => some ρ
  | t :: ts, d :: ds, ρ => (bind1 t d ρ).bind (bindA ts ds)
  | _, _, _ => none
end
def wip (ρ : Env) : List Nat → Env
  | [] => ρ
  | v :: vs => (wip ρ vs).set v none
/-- an own class that is made: its __init__ by number, its methods, its attributes' names -/
structure ClsE where
  nm : List Nat
  init : Nat
  ms : List (List Nat × Nat)
  fl : List (List Nat)
structure Ctl where
  call : Nat → List D → M D
  glob : Nat → Option D
  cA : Nat → Nat
  sub : Nat → Nat → Option Bool
  kd : List Nat → Option (List (Key × D)) := fun _ => none
  fA : Nat → Option Nat := fun _ => none
  dfs : Nat → Option (List D) := fun _ => none
  cl : Nat → Option ClsE := fun _ => none
  iA : Nat → Nat := fun _ => 0
  mkc : Option (Nat → List D → M D) := none
/-- the number of ValueError, among the own classes -/
def cVE : Nat := 1000
/-- isinstance of what was caught, by its class's number -/
def isiX (C : Ctl) (j : Nat) (d : D) : M D := match d with
  | .exc n a => if a = C.cA n then bnd (lft (C.sub n j)) fun b => ret (.bl b) else bad
  | _ => bad
/-- the pieces of a text -/
def strTy (x : D) : M Unit := match x with
  | .str _ => ret ()
  | _ => bad
def splR (x y : D) : M D := match x, y with
  | .str w, .str z => if 0 < z.length ∧ w.length + 2 ≤ big then new (.lst ((Txt.split ⟨w.toArray⟩ ⟨z.toArray⟩).map fun y => .str y.cps.toList)) else bad
  | _, _ => bad
/-- an attribute set: where it stands, or behind -/
def fput (f : List Nat) (v : D) : List (List Nat × D) → List (List Nat × D)
  | [] => [(f, v)]
  | (g, x) :: r => if g = f then (g, v) :: r else (g, x) :: fput f v r
/-- what an instance is: its class and its attributes -/
def insR (C : Ctl) (d : D) : M (Nat × ClsE × List (List Nat × D)) := match d with
  | .ref n => bnd (rd n) fun o => match o with
    | .ins q c fs => if c = C.iA q then bnd (lft (C.cl q)) fun ce => ret (n, ce, fs) else bad
    | _ => bad
  | _ => bad
def fldR (C : Ctl) (x : List Nat) (d : D) : M D := bnd (insR C d) fun t => if t.2.1.fl.contains x then lft (t.2.2.lookup x) else bad
def setfR (C : Ctl) (x : List Nat) (d v : D) : M Unit := match d with
  | .ref n => bnd (rd n) fun o => match o with
    | .ins q c fs => if c = C.iA q then bnd (lft (C.cl q)) fun ce => if ce.fl.contains x = true ∧ fs.length < 1000 then put n (.ins q c (fput x v fs)) else bad else bad
    | _ => bad
  | _ => bad
def mthF (C : Ctl) (x : List Nat) (d : D) : M Nat := bnd (insR C d) fun t => match t.2.2.lookup x with
  | none => lft (t.2.1.ms.lookup x)
  | some _ => bad
def selfR (d r : D) : M D := match r with
  | .non => ret d
  | _ => bad
def strD : D → Option (List Nat)
  | .str s => some s
  | _ => none
/-- does it begin so, from a place on -/
def swR (x y z : D) : M D := match x, y, z with
  | .str a, .str b, .int i => ret (.bl (PySem.Txt.startswith3 ⟨a.toArray⟩ ⟨b.toArray⟩ i))
  | _, _, _ => bad
/-- texts joined -/
def jnR (x y : D) : M D := match x, y with
  | .str a, .ref n => bnd (lstOf n) fun l => bnd (lft (l.mapM strD)) fun ys => if (ys.map (·.length)).sum + ys.length * a.length ≤ big then ret (.str (PySem.Txt.join ⟨a.toArray⟩ (ys.map fun y => ⟨y.toArray⟩)).cps.toList) else bad
  | _, _ => bad
def pairD : D → Option (Key × D)
  | .tup [k, v] => (keyOf k).map fun k' => (k', v)
  | _ => none
def intsD : D → Option (List Int)
  | .tup l => l.mapM intD
  | _ => none
/-- rows of numbers of one length, below 64, rising: a set of them, sorted, is the same rows -/
def risD (kk : List (List Int)) : Bool := decide (kk.length < 64) && decide (1 ≤ (kk.headD [0]).length) && kk.all (fun k => decide (k.length = (kk.headD [0]).length) && k.all fun x => decide (0 ≤ x) && decide (x < 64)) &&
  decide (kk.Pairwise fun a b => TS.code 64 a < TS.code 64 b)
def srtR (x : D) : M D := match x with
  | .ref n => bnd (lstOf n) fun l => bnd (lft (l.mapM intsD)) fun kk => if risD kk then new (.lst l) else bad
  | _ => bad
/-- texts, each once, in order -/
def insT (w : List Nat) : List (List Nat) → List (List Nat)
  | [] => [w]
  | x :: l => if w = x then x :: l else if w < x then w :: x :: l else x :: insT w l
def sortW (ws : List (List Nat)) : List (List Nat) := ws.foldr insT []
/-- sorted(set(texts)) -/
def srsR (x : D) : M D := match x with
  | .ref n => bnd (lstOf n) fun l => bnd (lft (l.mapM strD)) fun ws => if ws.length < 64 then new (.lst ((sortW ws).map .str)) else bad
  | _ => bad
def bifR (b : Bif) (vs : List D) : M D := match b, vs with
  | .len, [.str s] => if s.length ≤ big then ret (.int s.length) else bad
  | .len, [.tup l] => ret (.int l.length)
  | .len, [.kl l] => ret (.int l.length)
  | .len, [.ref n] => bnd (rd n) fun o => match o with
    | .lst l => ret (.int l.length)
    | .ro l => ret (.int l.length)
    | .dk kvs => ret (.int kvs.length)
    | .fk _ => bad
    | .ins _ _ _ => bad
    | .nd kvs => ret (.int kvs.length)
    | .nf _ => bad
  | .abs, [.int i] => ret (.int (if i < 0 then -i else i))
  | .int, [.int i] => ret (.int i)
  | .int, [.bl k] => ret (.int (if k then 1 else 0))
  | .int, [.str s] => if s.length ≤ 640 then bnd (lft (PySem.intText? ⟨s.toArray⟩)) fun n => ret (.int n) else bad
  | .str, [.int i] => if decide (i.natAbs.log2 < 1920) then ret (.str (PySem.Str.ofString (toString i)).cps.toList) else bad
  | .str, [.str s] => ret (.str s)
  | .repr, [d] => fun S => match deepR S dpt d with
    | some p => if showB p then .ok (.str p.shown.cps.toList) S else .bad
    | none => .bad
  | .tuple, [.tup l] => ret (.tup l)
  | .tuple, [.ref n] => bnd (lstOf n) fun l => ret (.tup l)
  | .list, [.tup l] => new (.lst l)
  | .list, [.ref n] => bnd (lstOf n) fun l => new (.lst l)
  | .all, [.ref n] => bnd (lstOf n) fun l => bnd (lft (l.mapM fun d => match d with | .bl b => some b | _ => none)) fun bs => ret (.bl (bs.all id))
  | .any, [.ref n] => bnd (lstOf n) fun l => bnd (lft (l.mapM fun d => match d with | .bl b => some b | _ => none)) fun bs => ret (.bl (bs.any id))
  | .dict, [.ref n] => bnd (lstOf n) fun l => bnd (lft (l.mapM pairD)) fun kvs => new (.dk (kvs.foldl (fun acc kv => kput acc kv.1 kv.2) []))
  | _, _ => bad
/-- the items that list.extend takes: of a tuple, or of a list -/
def seqM (y : D) : M (List D) := match y with
  | .tup l => ret l
  | .ref n => mutOf n
  | _ => bad
def mthR (m : Mth) (x : D) (vs : List D) : M D := match m, x, vs with
  | .append, .ref n, [y] => bnd (mutOf n) fun l => if l.length < big then bnd (put n (.lst (l ++ [y]))) fun _ => ret .non else bad
  | .clear, .ref n, [] => bnd (mutOf n) fun _ => bnd (put n (.lst [])) fun _ => ret .non
  | .pop, .ref n, [] => bnd (mutOf n) fun l => bnd (lft l[l.length - 1]?) fun y => bnd (put n (.lst l.dropLast)) fun _ => ret y
  | .extend, .ref n, [y] => bnd (mutOf n) fun l => bnd (seqM y) fun m => if l.length + m.length ≤ big then bnd (put n (.lst (l ++ m))) fun _ => ret .non else bad
  | _, _, _ => bad
/-- the receiver is of the kind that the method wants -/
def mthTy (m : Mth) (x : D) : M Unit := match x with
  | .ref n => bnd (mutOf n) fun _ => ret ()
  | _ => bad
/-- the built-in types by number: int, bool, str, tuple, list, dict, NoneType -/
def tyN (S : Store) : D → Option Nat
  | .int _ => some 0
  | .bl _ => some 1
  | .str _ => some 2
  | .tup _ => some 3
  | .non => some 6
  | .ref n => match S[n]? with
    | some (.lst _) => some 4
    | some (.ro _) => some 4
    | some (.dk _) => some 5
    | some (.fk _) => none
    | some (.ins _ _ _) => none
    | some (.nd _) => some 5
    | some (.nf _) => none
    | none => none
  | .exc _ _ => none
  | .kl _ => none
  | .fn _ _ => none
def isiB (ty : Nat) (d : D) : M Bool := fun S => match tyN S d with
  | some t => if ty < 6 then .ok (t == ty || (t == 1 && ty == 0)) S else .bad
  | none => .bad
/-- the pairs of two written lists, as they are put into a new dict -/
def pairK : List D → List D → Option (List (Key × D))
  | [], [] => some []
  | k :: ks, v :: vs => (keyOf k).bind fun k' => (pairK ks vs).map fun r => (k', v) :: r
  | _, _ => none
/-- what a walk goes over -/
inductive Seq where
  | fix (l : List D)
  | at_ (n : Nat)
  | rng (lo : Int) (n : Nat)
  | rva (n m : Nat)
  | zp (q r : Seq)
/-- the i-th item of it, as the store stands; none: no such sequence any more -/
def Seq.item (q : Seq) (S : Store) (i : Nat) : Option (Option D) := match q with
  | .fix l => some l[i]?
  | .at_ n => match S[n]? with
    | some (.lst l) => some l[i]?
    | some (.ro l) => some l[i]?
    | _ => none
  | .rng lo n => some (if i < n then some (.int (lo + i)) else none)
  | .rva n m => match S[n]? with
    | some (.lst l) => if i < m then (if l.length = m then some l[m - 1 - i]? else none) else some none
    | _ => none
  | .zp q r => match q.item S i, r.item S i with
    | some (some a), some (some b) => some (some (.tup [a, b]))
    | some none, some _ => some none
    | some _, some none => some none
    | _, _ => none
def Seq.size (q : Seq) (S : Store) : Nat := match q with
  | .fix l => l.length
  | .at_ n => match S[n]? with
    | some (.lst l) => l.length
    | some (.ro l) => l.length
    | _ => 0
  | .rng _ n => n
  | .rva _ m => m
  | .zp q _ => q.size S
def seqOf (d : D) : M Seq := match d with
  | .kl l => ret (.fix l)
  | .tup l => ret (.fix l)
  | .str s => ret (.fix (s.map fun c => .str [c]))
  | .ref n => bnd (lstOf n) fun _ => ret (.at_ n)
  | _ => bad
def rngOk (i : Int) : Bool := decide (-(2 ^ 62) ≤ i) && decide (i < 2 ^ 62)
/-- a list or a tuple, to be walked beside another -/
def seqZ (d : D) : M Seq := match d with
  | .kl l => ret (.fix l)
  | .tup l => ret (.fix l)
  | .ref n => bnd (lstOf n) fun _ => ret (.at_ n)
  | _ => bad
def zipZ (x y : D) : M Seq := bnd (seqZ x) fun q => bnd (seqZ y) fun r => ret (.zp q r)
def zipT (x y : D) : M Seq := match x, y with
  | .tup a, .tup b => ret (.fix ((a.zip b).map fun p => .tup [p.1, p.2]))
  | x, y => zipZ x y
/-- the items of a list or a tuple -/
def seqD (d : D) : M (List D) := match d with
  | .kl l => ret l
  | .tup l => ret l
  | .ref n => lstOf n
  | _ => bad
def lzR (x y : D) : M D := bnd (seqD x) fun l => bnd (seqD y) fun m => new (.lst ((l.zip m).map fun p => .tup [p.1, p.2]))
def dzR (x y : D) : M D := bnd (seqD x) fun l => bnd (seqD y) fun m => bnd (lft (l.mapM keyOf)) fun ks => new (.dk ((ks.zip m).foldl (fun acc kv => kput acc kv.1 kv.2) []))
def rvS (d : D) : M Seq := match d with
  | .ref n => bnd (mutOf n) fun l => ret (.rva n l.length)
  | _ => bad
/-- xs.index(y): the first place -/
def ixmR (x y : D) : M D := fun S => match deep S dpt x, deep S dpt y with
  | some (.list qs), some p => if SeqAt.shaped p && SeqAt.shaped (.list qs) then (match qs.findIdx? fun z => PyData.eqv z p with
    | some j => .ok (.int j) S
    | none => .bad) else .bad
  | _, _ => .bad
def mnR (x y : D) : M D := match x, y with
  | .int i, .int j => ret (.int (if j < i then j else i))
  | _, _ => bad
def kgetR (kvs : List (Key × D)) (x : D) : M D := bnd (lft (keyOf x)) fun k => ret ((kget kvs k).getD .non)
def kidxR (kvs : List (Key × D)) (x : D) : M D := bnd (lft (keyOf x)) fun k => lft (kget kvs k)
inductive Flow where
  | nx (ρ : Env) | rt (d : D) | bk (ρ : Env) | ct (ρ : Env)
/-- a walk: step by step, from the i-th item on -/
def forI (q : Seq) (step : D → Env → M Flow) : Nat → Nat → Env → M Flow
  | 0, _, _ => bad
  | f + 1, i, ρ => fun S => match q.item S i with
    | none => .bad
    | some none => .ok (.nx ρ) S
    | some (some d) => bnd (step d ρ) (fun fl => match fl with
      | .nx ρ' => forI q step f (i + 1) ρ'
      | .ct ρ' => forI q step f (i + 1) ρ'
      | .bk ρ' => ret (.nx ρ')
      | .rt d => ret (.rt d)) S
def noExc {α : Type} (m : M α) : M α := fun S => match m S with
  | .ok a S' => .ok a S'
  | _ => .bad
/-- a comprehension's walk: each step hands on the items so far -/
def cmpI {β : Type} (q : Seq) (step : D → β → M β) : Nat → Nat → β → M β
  | 0, _, _ => bad
  | f + 1, i, acc => fun S => match q.item S i with
    | none => .bad
    | some none => .ok acc S
    | some (some d) => bnd (step d acc) (fun acc' => cmpI q step f (i + 1) acc') S
def sizeM (q : Seq) : M Nat := fun S => .ok (q.size S + 1) S
def whileI (c : Env → M Bool) (b : Env → M Flow) : Nat → Env → M Flow
  | 0, _ => bad
  | f + 1, ρ => bnd (c ρ) fun k => if k then bnd (b ρ) (fun fl => match fl with
      | .nx ρ' => whileI c b f ρ'
      | .ct ρ' => whileI c b f ρ'
      | .bk ρ' => ret (.nx ρ')
      | .rt d => ret (.rt d)) else ret (.nx ρ)
/-- a walk over a dict's keys: it can't be changed within -/
def lockK {α : Type} (f : List (Key × D) → M α) (x : D) : M α := match x with
  | .ref n => fun S => match S[n]? with
    | some (.dk kvs) => match f kvs (S.set n (.fk kvs)) with
      | .ok a S' => match S'[n]? with
        | some (.fk kvs') => .ok a (S'.set n (.dk kvs'))
        | _ => .bad
      | _ => .bad
    | _ => .bad
  | _ => bad
/-- a dict with keys of a moment and a row locked while something runs -/
def lockN {α : Type} (m : M α) (x : D) : M α := match x with
  | .ref n => fun S => match S[n]? with
    | some (.nd kvs) => match m (S.set n (.nf kvs)) with
      | .ok a S' => match S'[n]? with
        | some (.nf kvs') => .ok a (S'.set n (.nd kvs'))
        | _ => .bad
      | _ => .bad
    | some (.dk []) => match m (S.set n (.fk [])) with
      | .ok a S' => match S'[n]? with
        | some (.fk kvs') => .ok a (S'.set n (.dk kvs'))
        | _ => .bad
      | _ => .bad
    | _ => .bad
  | _ => bad
/-- the items of a locked one -/
def itemsN (x : D) : M (List D) := match x with
  | .ref n => fun S => match S[n]? with
    | some (.nf kvs) => .ok (kvs.map fun p => .tup [nkD p.1, .int p.2]) S
    | some (.fk []) => .ok [] S
    | _ => .bad
  | _ => bad
/-- what a dict with keys of a moment and a row holds; the empty one may be of any keys -/
def ndM (x : D) : M (List (Nk × Int)) := match x with
  | .ref n => bnd (rd n) fun o => match o with
    | .nd kvs => ret kvs
    | .dk [] => ret []
    | _ => bad
  | _ => bad
/-- d.get(k, x) -/
def ngetR (x k d : D) : M D := bnd (ndM x) fun kvs => bnd (lft (nkOf k)) fun kk => bnd (lft (intD d)) fun c => ret (.int ((nget kvs kk).getD c))
/-- sorted(d.items()) -/
def srnR (x : D) : M D := bnd (ndM x) fun kvs => new (.lst ((sortI kvs).map fun p => .tup [nkD p.1, .int p.2]))
/-- isinstance of one of two types -/
def ispR (i j : Nat) (d : D) : M D := bnd (isiB i d) fun a => bnd (isiB j d) fun b => ret (.bl (a || b))
/-- how often it stands in a list of such keys -/
def cntR (x y : D) : M D := match x with
  | .ref n => bnd (lstOf n) fun l => bnd (lft (l.mapM nkOf)) fun ks => bnd (lft (nkOf y)) fun k => ret (.int (ks.count k))
  | _ => bad
def npOf : D → Option (Nk × Int)
  | .tup [k, v] => (nkOf k).bind fun k' => (intD v).map fun c => (k', c)
  | _ => none
def mergeN (kvs : List (Nk × Int)) : List (Nk × Int) := kvs.foldl (fun acc p => nput acc p.1 p.2) []
/-- dict(pairs) -/
def dnpR (x : D) : M D := match x with
  | .ref n => bnd (lstOf n) fun l => bnd (lft (l.mapM npOf)) fun kvs => new (.nd (mergeN kvs))
  | _ => bad
def smR (x : D) : M D := match x with
  | .ref n => bnd (lstOf n) fun l => bnd (lft (l.mapM intD)) fun ns => ret (.int ns.sum)
  | _ => bad
def getV (ρ : Env) (i : Nat) : Option D := match ρ[i]? with
  | some (some d) => some d
  | _ => none
def asPart (d : D) : Option (Option Int) := match d with
  | .int i => some (some i)
  | _ => none
def evens : List D → List D
  | a :: _ :: r => a :: evens r
  | _ => []
def odds : List D → List D
  | _ :: b :: r => b :: odds r
  | _ => []
def dispK (ds : List D) : M D := bnd (lft (pairK (evens ds) (odds ds))) fun kvs =>
  if kvs.length ≤ 15 then new (.dk (kvs.foldl (fun acc kv => kput acc kv.1 kv.2) [])) else bad
def revR (x : D) : M D := match x with
  | .tup l => ret (.tup l.reverse)
  | _ => bad
def rvlR (x : D) : M D := match x with
  | .ref n => bnd (lstOf n) fun l => new (.lst l.reverse)
  | _ => bad
def mxR (x y : D) : M D := match x, y with
  | .int i, .int j => ret (.int (if j > i then j else i))
  | _, _ => bad
def hasK (s : List Key) (k : Key) : Bool := s.any fun x => decide (x = k)
/-- the unlike ones, as they come -/
def seenK (ks : List Key) : List Key := ks.foldl (fun (s : List Key) (k : Key) => if hasK s k then s else s ++ [k]) []
/-- how many unlike keys -/
def uniq (ds : List D) : Option Nat := (ds.mapM keyOf).map fun ks => (seenK ks).length
/-- len(set(names)) -/
def lsetR (x : D) : M D := match x with
  | .ref n => bnd (lstOf n) fun l => if l.length < 4000 then bnd (lft (uniq l)) fun n => ret (.int n) else bad
  | _ => bad
mutual
def evE (C : Ctl) : Exp → Env → M D
  | .var i, ρ => lft (getV ρ i)
  | .lit d, _ => ret d
  | .glob g, _ => lft (C.glob g)
  | .bin o a b, ρ => bnd (evE C a ρ) fun x => bnd (evE C b ρ) fun y => opB o x y
  | .neg a, ρ => bnd (evE C a ρ) fun x => match x with
    | .int i => ret (.int (-i))
    | _ => bad
  | .nt a, ρ => bnd (evE C a ρ) fun x => bnd (truth x) fun k => ret (.bl (!k))
  | .cmp o a b, ρ => bnd (evE C a ρ) fun x => bnd (evE C b ρ) fun y => opC o x y
  | .cmp2 o p a b c, ρ => bnd (evE C a ρ) fun x => bnd (evE C b ρ) fun y => bnd (opC o x y) fun z => match z with
    | .bl true => bnd (evE C c ρ) fun w => opC p y w
    | .bl false => ret (.bl false)
    | _ => bad
  | .and a b, ρ => bnd (evE C a ρ) fun x => bnd (truth x) fun k => if k then evE C b ρ else ret x
  | .or a b, ρ => bnd (evE C a ρ) fun x => bnd (truth x) fun k => if k then ret x else evE C b ρ
  | .ife c a b, ρ => bnd (evE C c ρ) fun x => bnd (truth x) fun k => if k then evE C a ρ else evE C b ρ
  | .tup es, ρ => bnd (evs C es ρ) fun l => if l.length ≤ big then ret (.tup l) else bad
  | .lst es, ρ => bnd (evs C es ρ) fun l => if l.length ≤ big then new (.lst l) else bad
  | .dct es, ρ => bnd (evs C es ρ) dispK
  | .dct0, _ => new (.dk [])
  | .idx a b, ρ => bnd (evE C a ρ) fun x => bnd (evE C b ρ) fun y => opIx x y
  | .sl a lo hi, ρ => bnd (evE C a ρ) fun x => bnd (evP C lo ρ) fun l => bnd (evP C hi ρ) fun h => opSl x l h
  | .call f es, ρ => bnd (evs C es ρ) fun vs => C.call f vs
  | .bif b es, ρ => bnd (evs C es ρ) fun vs => bifR b vs
  | .mth m o es, ρ => bnd (evE C o ρ) fun x => bnd (mthTy m x) fun _ => bnd (evs C es ρ) fun vs => mthR m x vs
  | .isi e ty, ρ => bnd (evE C e ρ) fun x => bnd (isiB ty x) fun k => ret (.bl k)
  | .isx e j, ρ => bnd (evE C e ρ) fun x => isiX C j x
  | .spl e s, ρ => bnd (evE C e ρ) fun x => bnd (strTy x) fun _ => bnd (evE C s ρ) fun y => splR x y
  | .srt e, ρ => bnd (evE C e ρ) srtR
  | .srs e, ρ => bnd (evE C e ρ) srsR
  | .lset e, ρ => bnd (evE C e ρ) lsetR
  | .rev e, ρ => bnd (evE C e ρ) revR
  | .rvl e, ρ => bnd (evE C e ρ) rvlR
  | .mx a b, ρ => bnd (evE C a ρ) fun x => bnd (evE C b ρ) fun y => mxR x y
  | .mn a b, ρ => bnd (evE C a ρ) fun x => bnd (evE C b ρ) fun y => mnR x y
  | .kget g e, ρ => bnd (lft (C.kd g)) fun kvs => bnd (evE C e ρ) fun x => kgetR kvs x
  | .kidx g e, ρ => bnd (lft (C.kd g)) fun kvs => bnd (evE C e ρ) fun x => kidxR kvs x
  | .lzip a b, ρ => bnd (evE C a ρ) fun x => bnd (evE C b ρ) fun y => lzR x y
  | .dzip a b, ρ => bnd (evE C a ρ) fun x => bnd (evE C b ρ) fun y => dzR x y
  | .ixm a b, ρ => bnd (evE C a ρ) fun x => bnd (mthTy .pop x) fun _ => bnd (evE C b ρ) fun y => ixmR x y
  | .swi a b d, ρ => bnd (evE C a ρ) fun x => bnd (strTy x) fun _ => bnd (evE C b ρ) fun y => bnd (evE C d ρ) fun z => swR x y z
  | .jn a b, ρ => bnd (evE C a ρ) fun x => bnd (strTy x) fun _ => bnd (evE C b ρ) fun y => jnR x y
  | .fnv f, _ => bnd (lft (C.fA f)) fun a => ret (.fn f a)
  | .cll i es, ρ => bnd (lft (getV ρ i)) fun g => match g with
    | .fn f a => if C.fA f = some a then bnd (evs C es ρ) fun vs => C.call f vs else bad
    | _ => bad
  | .cld f es, ρ => bnd (lft (C.dfs f)) fun ds => bnd (evs C es ρ) fun vs => C.call f (vs ++ ds)
  | .lss fl es, ρ => bnd (evsS C es fl ρ) fun l => if l.length ≤ big then new (.lst l) else bad
  | .fld e x, ρ => bnd (evE C e ρ) (fldR C x)
  | .mk q x es, ρ => bnd (lft C.mkc) fun mkc => bnd (lft (C.cl q)) fun ce => if ce.nm = x then bnd (evs C es ρ) fun vs => bnd (new (.ins q (C.iA q) [])) fun d => bnd (mkc ce.init (d :: vs)) (selfR d) else bad
  | .cm e x es, ρ => bnd (evE C e ρ) fun d => bnd (mthF C x d) fun f => bnd (evs C es ρ) fun vs => C.call f (d :: vs)
  | .dc own tg src ifs k v, ρ => bnd (evSrc C src ρ) fun q => bnd (sizeM q) fun n => bnd (noExc (cmpI q (fun d acc =>
      bnd (lft (bind1 tg d (wip ρ own))) fun ρ' => bnd (evIf C ifs ρ') fun c => if c then bnd (evE C k ρ') fun x => bnd (lft (keyOf x)) fun kk => bnd (evE C v ρ') fun y => if acc.length < big then ret (kput acc kk y) else bad else ret acc) n 0 [])) fun kvs => new (.dk kvs)
  | .lc own tg src ifs elt, ρ => bnd (evSrc C src ρ) fun q => bnd (sizeM q) fun n => bnd (noExc (cmpI q (fun d acc =>
      bnd (lft (bind1 tg d (wip ρ own))) fun ρ' => bnd (evIf C ifs ρ') fun k => if k then bnd (evE C elt ρ') fun y => if acc.length < big then ret (acc ++ [y]) else bad else ret acc) n 0 [])) fun l => new (.lst l)
  | .lc2 own own1 tg src ifs tg1 src1 ifs1 elt, ρ => bnd (evSrc C src ρ) fun q => bnd (sizeM q) fun n => bnd (noExc (cmpI q (fun d acc =>
      bnd (lft (bind1 tg d (wip ρ own))) fun ρ' => bnd (evIf C ifs ρ') fun k => if k then
        bnd (evSrc C src1 ρ') fun q1 => bnd (sizeM q1) fun n1 => cmpI q1 (fun d1 acc1 =>
          bnd (lft (bind1 tg1 d1 (wip ρ' own1))) fun ρ1 => bnd (evIf C ifs1 ρ1) fun k1 => if k1 then bnd (evE C elt ρ1) fun y => if acc1.length < big then ret (acc1 ++ [y]) else bad else ret acc1) n1 0 acc
        else ret acc) n 0 [])) fun l => new (.lst l)
  | .lenset own tg src elt, ρ => bnd (evSrc C src ρ) fun q => bnd (sizeM q) fun n => bnd (noExc (cmpI q (fun d acc =>
      bnd (lft (bind1 tg d (wip ρ own))) fun ρ' => bnd (evE C elt ρ') fun y => bnd (lft (keyOf y)) fun _ => if acc.length < 4000 then ret (acc ++ [y]) else bad) n 0 [])) fun l => bnd (lft (uniq l)) fun n => ret (.int n)
  | .lkE i e, ρ => bnd (lft (getV ρ i)) (lockN (evE C e ρ))
  | .dcn own tg src ifs k v, ρ => bnd (evSrc C src ρ) fun q => bnd (sizeM q) fun n => bnd (noExc (cmpI q (fun d acc =>
      bnd (lft (bind1 tg d (wip ρ own))) fun ρ' => bnd (evIf C ifs ρ') fun c => if c then bnd (evE C k ρ') fun x => bnd (lft (nkOf x)) fun kk => bnd (evE C v ρ') fun y => bnd (lft (intD y)) fun z => if acc.length < big then ret (nput acc kk z) else bad else ret acc) n 0 [])) fun kvs => new (.nd kvs)
  | .nget a k x, ρ => bnd (evE C a ρ) fun d => bnd (ndM d) fun _ => bnd (evE C k ρ) fun y => bnd (evE C x ρ) fun z => ngetR d y z
  | .srn a, ρ => bnd (evE C a ρ) srnR
  | .isp a i j, ρ => bnd (evE C a ρ) (ispR i j)
  | .cnt a b, ρ => bnd (evE C a ρ) fun x => bnd (mthTy .pop x) fun _ => bnd (evE C b ρ) fun y => cntR x y
  | .dnp a, ρ => bnd (evE C a ρ) dnpR
  | .sm a, ρ => bnd (evE C a ρ) smR
  | .srtc own tg src ifs elt, ρ => bnd (evSrc C src ρ) fun q => bnd (sizeM q) fun n => bnd (noExc (cmpI q (fun d acc =>
      bnd (lft (bind1 tg d (wip ρ own))) fun ρ' => bnd (evIf C ifs ρ') fun c => if c then bnd (evE C elt ρ') fun y => bnd (lft (strD y)) fun u => if acc.length < 63 then ret (acc ++ [u]) else bad else ret acc) n 0 [])) fun ws => new (.lst ((sortW ws).map .str))
def evs (C : Ctl) : Exps → Env → M (List D)
  | .nil, _ => ret []
  | .cons e es, ρ => bnd (evE C e ρ) fun d => bnd (evs C es ρ) fun ds => ret (d :: ds)
/-- written one by one, some laid out -/
def evsS (C : Ctl) : Exps → List Bool → Env → M (List D)
  | .nil, _, _ => ret []
  | .cons e es, fl, ρ => bnd (evE C e ρ) fun d => if fl.headD false = true then bnd (seqM d) fun l => bnd (evsS C es fl.tail ρ) fun ds => ret (l ++ ds) else bnd (evsS C es fl.tail ρ) fun ds => ret (d :: ds)
/-- a part of a slice -/
def evP (C : Ctl) : Part → Env → M (Option Int)
  | .no, _ => ret none
  | .at_ e, ρ => bnd (evE C e ρ) fun d => lft (asPart d)
/-- the tests of a clause: all of them, from the left -/
def evIf (C : Ctl) : Exps → Env → M Bool
  | .nil, _ => ret true
  | .cons e es, ρ => bnd (evE C e ρ) fun d => bnd (truth d) fun k => if k then evIf C es ρ else ret false
def evSrc (C : Ctl) : Src → Env → M Seq
  | .seq e, ρ => bnd (evE C e ρ) seqOf
  | .rng1 a, ρ => bnd (evE C a ρ) fun x => match x with
    | .int i => if rngOk i then ret (.rng 0 i.toNat) else bad
    | _ => bad
  | .rng2 a b, ρ => bnd (evE C a ρ) fun x => bnd (evE C b ρ) fun y => match x, y with
    | .int i, .int j => if rngOk i && rngOk j then ret (.rng i (j - i).toNat) else bad
    | _, _ => bad
  | .zip a b, ρ => bnd (evE C a ρ) fun x => bnd (evE C b ρ) fun y => zipT x y
  | .revl a, ρ => bnd (evE C a ρ) rvS
  | .itm x, _ => bnd (lft (C.kd x)) fun kvs => ret (.fix (kvs.map fun kv => .tup [kD kv.1, kv.2]))
  | .ndi i, ρ => bnd (lft (getV ρ i)) fun x => bnd (itemsN x) fun l => ret (.fix l)
end
mutual
def evS (C : Ctl) (fuel : Nat) : Stm → Env → M Flow
  | .expr e, ρ => bnd (evE C e ρ) fun _ => ret (.nx ρ)
  | .asg tg e, ρ => bnd (evE C e ρ) fun d => bnd (lft (bind1 tg d ρ)) fun ρ' => ret (.nx ρ')
  | .par i j a b, ρ => bnd (evE C a ρ) fun x => bnd (evE C b ρ) fun y => ret (.nx ((ρ.set i (some x)).set j (some y)))
  | .par3 i j l a b d, ρ => bnd (evE C a ρ) fun x => bnd (evE C b ρ) fun y => bnd (evE C d ρ) fun z => ret (.nx (((ρ.set i (some x)).set j (some y)).set l (some z)))
  | .sub o i v, ρ => bnd (evE C v ρ) fun d => bnd (evE C o ρ) fun x => bnd (evE C i ρ) fun y => bnd (opSet x y d) fun _ => ret (.nx ρ)
  | .aug i o e, ρ => bnd (lft (getV ρ i)) fun x => bnd (evE C e ρ) fun y => bnd (augB o x y) fun z => ret (.nx (ρ.set i (some z)))
  | .ret e, ρ => bnd (evE C e ρ) fun d => ret (.rt d)
  | .retN, _ => ret (.rt .non)
  | .ife c a b, ρ => bnd (evE C c ρ) fun x => bnd (truth x) fun k => if k then evSs C fuel a ρ else evSs C fuel b ρ
  | .loop tg src b, ρ => bnd (evSrc C src ρ) fun q => bnd (sizeM q) fun n => forI q (fun d ρ' => bnd (lft (bind1 tg d ρ')) fun ρ2 => evSs C fuel b ρ2) n 0 ρ
  | .loopk tg i b, ρ => bnd (lft (getV ρ i)) (lockK fun kvs => forI (.fix (kvs.map fun kv => kD kv.1)) (fun d ρ' => bnd (lft (bind1 tg d ρ')) fun ρ2 => evSs C fuel b ρ2) (kvs.length + 1) 0 ρ)
  | .whil c b, ρ => whileI (fun ρ' => bnd (evE C c ρ') truth) (fun ρ' => evSs C fuel b ρ') fuel ρ
  | .brk, ρ => ret (.bk ρ)
  | .cnt, ρ => ret (.ct ρ)
  | .pass, ρ => ret (.nx ρ)
  | .raise c, _ => fun S => .exc c S
  | .try_ b c i j, ρ => fun S => match evSs C fuel b ρ S with
    | .exc n S' => match C.sub n c with
      | some true => .ok (.nx ((ρ.set i (some (.exc n (C.cA n)))).set j none)) S'
      | some false => .exc n S'
      | none => .bad
    | o => o
  | .tryN b c i, ρ => fun S => match evSs C fuel b ρ S with
    | .exc n S' => match C.sub n c with
      | some true => .ok (.nx (ρ.set i (some .non))) S'
      | some false => .exc n S'
      | none => .bad
    | o => o
  | .setf o x v, ρ => bnd (evE C v ρ) fun y => bnd (evE C o ρ) fun d => bnd (setfR C x d y) fun _ => ret (.nx ρ)
def evSs (C : Ctl) (fuel : Nat) : Stms → Env → M Flow
  | .nil, ρ => ret (.nx ρ)
  | .cons s r, ρ => bnd (evS C fuel s ρ) fun fl => match fl with
    | .nx ρ' => evSs C fuel r ρ'
    | _ => ret fl
end
structure Fn where
  ps : Nat
  slots : Nat
  body : Stms
structure Prg where
  fns : List Fn
  globs : List (Option D)
  fuel : Nat
  cA : Nat → Nat := fun _ => 0
  sub : Nat → Nat → Option Bool := fun _ _ => none
  kds : List (List Nat × List (Key × D)) := []
  fA : Nat → Option Nat := fun _ => none
  dfs : List (Nat × List D) := []
  cls : List (Nat × ClsE) := []
  iA : Nat → Nat := fun _ => 0
def runB (C : Ctl) (fuel : Nat) (f : Fn) (vs : List D) : M D :=
  if vs.length = f.ps then bnd (evSs C fuel f.body (vs.map some ++ List.replicate (f.slots - f.ps) none)) fun fl => match fl with
    | .nx _ => ret .non
    | .rt d => ret d
    | _ => bad
  else bad
def callN (P : Prg) : Nat → Nat → List D → M D
  | 0, _, _ => bad
  | n + 1, f, vs => match P.fns[f]? with
    | some fn => runB { call := callN P n, glob := fun g => (P.globs[g]?).join, cA := P.cA, sub := P.sub, kd := fun x => P.kds.lookup x, fA := P.fA, dfs := fun i => P.dfs.lookup i, cl := fun q => P.cls.lookup q, iA := P.iA, mkc := match n with
      | 0 => none
      | m + 1 => some fun i vs => callN P m i vs } P.fuel fn vs
    | none => bad
end VM
namespace VM
open PySem L2
def st (s : List Nat) : Str := ⟨s.toArray⟩
theorem st_len (s : List Nat) : (st s).length = s.length := by simp [st, Str.length]
theorem st_inj {a b : List Nat} (h : st a = st b) : a = b := by
  have h' : a.toArray = b.toArray := congrArg Str.cps h
  exact congrArg Array.toList h'
theorem st_app (a b : List Nat) : st a ++ st b = st (a ++ b) := TL.ext_tl (by rw [TL.tl_append]; rfl)
theorem big_eq : big = sizeLine := by rw [sizeLine_eq]; rfl
def kS : Key → L2.Key
  | .inl i => .inl i
  | .inr s => .inr (st s)
theorem kS_inj {a b : Key} (h : kS a = kS b) : a = b := by
  cases a <;> cases b <;> simp [kS] at h ⊢
  · exact h
  · exact st_inj h
section
variable (K : PySem.W.Frag)
mutual
inductive Rep (μ : List Addr) (H : Hp) : D → V → Prop
  | non : Rep μ H .non .non
  | bl (b : Bool) : Rep μ H (.bl b) (.bl b)
  | int (i : Int) : Rep μ H (.int i) (.int i)
  | str (s : List Nat) : Rep μ H (.str s) (.str (st s))
  | tup {a : Addr} {vs : List V} {ds : List D} : SqT K H a vs → Reps μ H ds vs → Rep μ H (.tup ds) (.ref a)
  | ref {n : Nat} {a : Addr} : μ[n]? = some a → Rep μ H (.ref n) (.ref a)
  | kl {a : Addr} {vs : List V} {ds : List D} : (∀ H', SqL K H' a vs) → Reps μ H ds vs → Rep μ H (.kl ds) (.ref a)
  | fn {i : Nat} {a : Addr} : Rep μ H (.fn i a) (.ref a)
  | exc {n c : Nat} {a : Addr} {oe : PySem.Obj} {vs : Array Value} : H a = some (.frz oe (.own 0)) → oe.cls = .ref c → oe.dict = none → oe.data = .fields vs → Rep μ H (.exc n c) (.ref a)
inductive Reps (μ : List Addr) (H : Hp) : List D → List V → Prop
  | nil : Reps μ H [] []
  | cons {d : D} {ds : List D} {v : V} {vs : List V} : Rep μ H d v → Reps μ H ds vs → Reps μ H (d :: ds) (v :: vs)
end
def KRep (μ : List Addr) (H : Hp) : List (Key × D) → List (L2.Key × V) → Prop := Paired fun p q => q.1 = kS p.1 ∧ Rep K μ H p.2 q.2
def FRep (μ : List Addr) (H : Hp) : List (List Nat × D) → List (Str × V) → Prop := Paired fun p q => q.1 = st p.1 ∧ Rep K μ H p.2 q.2
/-- dicts with keys of a moment and a row -/
def nkK (k : Nk) : NestedKey := .tup [.num k.1, .tup (k.2.map .num)]
/-- the one object of such a dict -/
def NdP (a : Addr) (xs : List (NestedKey × Addr × Value)) : Heap → Prop := fun h => ((a == sysModules) = false ∧ xs.length ≤ sizeLine) ∧ ∃ (w0 : World) (o : PySem.Obj) (es : Array DictEntry) (ep : Nat), h.get? a = some o ∧ o.ExactDict ∧ o.data = .dict es ep ∧ es.toList = xs.map fun x => ⟨x.1.hash w0, .ref x.2.1, x.2.2⟩
def NRep (μ : List Addr) (H : Hp) : List (Nk × Int) → List (NestedKey × Addr × Value) → Prop := Paired fun p x => x.1 = nkK p.1 ∧ Rep K μ H (nkD p.1) (.ref x.2.1) ∧ RelV (.int p.2) x.2.2
/-- an object of the store at its address -/
def ObjR (μ : List Addr) (H : Hp) (a : Addr) : Obj → Prop
  | .lst ds => ∃ vs, H a = some (.lst vs) ∧ Reps K μ H ds vs
  | .ro ds => ∃ vs ob, H a = some (.frz ob (.lst vs)) ∧ Reps K μ H ds vs
  | .dk kvs => ∃ ks, H a = some (.dK ks) ∧ KRep K μ H kvs ks
  | .fk kvs => ∃ ks ob, H a = some (.frz ob (.dK ks)) ∧ KRep K μ H kvs ks
  | .ins _ c fs => ∃ dx ks, H a = some (.ins c dx ks) ∧ FRep K μ H fs ks
  | .nd kvs => ∃ xs, H a = some (.ext (NdP a xs)) ∧ NRep K μ H kvs xs ∧ (kvs.map (·.1)).Nodup
  | .nf kvs => ∃ xs od, H a = some (.frz od (.ext (NdP a xs))) ∧ NRep K μ H kvs xs ∧ (kvs.map (·.1)).Nodup
structure Cor (μ : List Addr) (S : Store) (H : Hp) : Prop where
  len : μ.length = S.length
  nd : μ.Nodup
  obj : ∀ (n : Nat) (o : Obj) (a : Addr), S[n]? = some o → μ[n]? = some a → ObjR K μ H a o
/-- later: more objects; what is not of the store stays -/
structure Ext (μ : List Addr) (H : Hp) (μ' : List Addr) (H' : Hp) : Prop where
  pre : ∃ r, μ' = μ ++ r
  new : ∀ a ∈ μ', a ∉ μ → H a = none
  fr : ∀ a o, a ∉ μ → H a = some o → H' a = some o
  tup : ∀ a xs, SqT K H a xs → SqT K H' a xs
  exc : ∀ a o u, H a = some (.frz o u) → H' a = some (.frz o u)
end
section
variable {K : PySem.W.Frag} {μ μ' μ2 : List Addr} {H H' H2 : Hp} {S S' : Store}
theorem Ext.refl : Ext K μ H μ H := ⟨⟨[], by simp⟩, fun a h n => absurd h n, fun _ _ _ h => h, fun _ _ h => h, fun _ _ _ h => h⟩
theorem Ext.at_ (e : Ext K μ H μ' H') {n : Nat} {a : Addr} (h : μ[n]? = some a) : μ'[n]? = some a := by
  obtain ⟨r, rfl⟩ := e.pre
  rw [List.getElem?_append_left (List.getElem?_eq_some_iff.mp h).1]
  exact h
theorem Ext.trans (a : Ext K μ H μ' H') (b : Ext K μ' H' μ2 H2) : Ext K μ H μ2 H2 := by
  refine ⟨?_, fun c h n => ?_, fun c o n h => ?_, fun c xs h => b.tup c xs (a.tup c xs h), fun c o u h => b.exc c o u (a.exc c o u h)⟩
  · obtain ⟨r, rfl⟩ := a.pre
    obtain ⟨r', rfl⟩ := b.pre
    exact ⟨r ++ r', by rw [List.append_assoc]⟩
  · by_cases h1 : c ∈ μ'
    · exact a.new c h1 n
    · cases q : H c with
      | none => rfl
      | some o =>
        have z := a.fr c o n q
        rw [b.new c h h1] at z
        cases z
  · have n' : c ∉ μ' := fun z => by
      have q := a.new c z n
      rw [h] at q
      cases q
    exact b.fr c o n' (a.fr c o n h)
/-- as much of it as values lean on -/
structure Mon (μ : List Addr) (H : Hp) (μ' : List Addr) (H' : Hp) : Prop where
  at_ : ∀ (n : Nat) (a : Addr), μ[n]? = some a → μ'[n]? = some a
  tup : ∀ a xs, SqT K H a xs → SqT K H' a xs
  exc : ∀ a o u, H a = some (.frz o u) → H' a = some (.frz o u)
theorem Mon.trans (a : Mon (K := K) μ H μ' H') (b : Mon (K := K) μ' H' μ2 H2) : Mon (K := K) μ H μ2 H2 := ⟨fun n x h => b.at_ n x (a.at_ n x h), fun x xs h => b.tup x xs (a.tup x xs h), fun x o u h => b.exc x o u (a.exc x o u h)⟩
theorem Mon.refl : Mon (K := K) μ H μ H := ⟨fun _ _ h => h, fun _ _ h => h, fun _ _ _ h => h⟩
theorem Ext.mon (e : Ext K μ H μ' H') : Mon (K := K) μ H μ' H' := ⟨fun _ _ h => e.at_ h, e.tup, e.exc⟩
mutual
theorem Rep.mon : ∀ {d : D} {v : V}, Rep K μ H d v → Mon (K := K) μ H μ' H' → Rep K μ' H' d v
  | _, _, .non, _ => .non
  | _, _, .bl b, _ => .bl b
  | _, _, .int i, _ => .int i
  | _, _, .str s, _ => .str s
  | _, _, .tup h r, e => .tup (e.tup _ _ h) (Reps.mon r e)
  | _, _, .ref h, e => .ref (e.at_ _ _ h)
  | _, _, .kl h r, e => .kl h (Reps.mon r e)
  | _, _, .exc h h1 h2 h3, e => .exc (e.exc _ _ _ h) h1 h2 h3
  | _, _, .fn, _ => .fn
theorem Reps.mon : ∀ {ds : List D} {vs : List V}, Reps K μ H ds vs → Mon (K := K) μ H μ' H' → Reps K μ' H' ds vs
  | _, _, .nil, _ => .nil
  | _, _, .cons h r, e => .cons (Rep.mon h e) (Reps.mon r e)
end
theorem Rep.ext {d : D} {v : V} (r : Rep K μ H d v) (e : Ext K μ H μ' H') : Rep K μ' H' d v := r.mon e.mon
theorem Reps.ext {ds : List D} {vs : List V} (r : Reps K μ H ds vs) (e : Ext K μ H μ' H') : Reps K μ' H' ds vs := r.mon e.mon
theorem Reps.length : ∀ {ds : List D} {vs : List V}, Reps K μ H ds vs → ds.length = vs.length
  | _, _, .nil => rfl
  | _, _, .cons _ r => by simp [Reps.length r]
theorem Reps.append : ∀ {ds es : List D} {vs ws : List V}, Reps K μ H ds vs → Reps K μ H es ws → Reps K μ H (ds ++ es) (vs ++ ws)
  | _, _, _, _, .nil, s => s
  | _, _, _, _, .cons h r, s => .cons h (Reps.append r s)
theorem Reps.get : ∀ {ds : List D} {vs : List V} {i : Nat} {d : D}, Reps K μ H ds vs → ds[i]? = some d → ∃ v, vs[i]? = some v ∧ Rep K μ H d v
  | _, _, _, _, .nil, e => by simp at e
  | _, _, 0, _, .cons h _, e => by simp at e; subst e; exact ⟨_, rfl, h⟩
  | _, _, i + 1, d, .cons _ r, e => by
    obtain ⟨v, h1, h2⟩ := Reps.get (i := i) (d := d) r (by simpa using e)
    exact ⟨v, by simpa using h1, h2⟩
theorem Reps.take : ∀ {ds : List D} {vs : List V} (n : Nat), Reps K μ H ds vs → Reps K μ H (ds.take n) (vs.take n)
  | _, _, 0, _ => .nil
  | _, _, _ + 1, .nil => .nil
  | _, _, n + 1, .cons h r => .cons h (Reps.take n r)
theorem Reps.drop : ∀ {ds : List D} {vs : List V} (n : Nat), Reps K μ H ds vs → Reps K μ H (ds.drop n) (vs.drop n)
  | _, _, 0, r => r
  | _, _, _ + 1, .nil => .nil
  | _, _, n + 1, .cons _ r => Reps.drop n r
theorem Reps.set {d : D} {v : V} (h : Rep K μ H d v) : ∀ {ds : List D} {vs : List V} (i : Nat), Reps K μ H ds vs → Reps K μ H (ds.set i d) (vs.set i v)
  | _, _, _, .nil => .nil
  | _, _, 0, .cons _ r => .cons h r
  | _, _, i + 1, .cons q r => .cons q (Reps.set h i r)
theorem Reps.cut {ds : List D} {vs : List V} (r : Reps K μ H ds vs) (lo hi : Option Int) : Reps K μ H (cut ds lo hi) (cutV vs lo hi) := by
  have hs : ∀ (n d : Nat) (o : Option Int), VM.sIx n d o = HT.sIx n d o := fun n d o => by
    cases o with
    | none => rfl
    | some v => rfl
  unfold VM.cut cutV
  rw [r.length, hs, hs]
  exact Reps.take _ (Reps.drop _ r)
theorem KRep.mon {kvs : List (Key × D)} {ks : List (L2.Key × V)} (h : KRep K μ H kvs ks) (e : Mon (K := K) μ H μ' H') : KRep K μ' H' kvs ks := Paired.mapP h fun _ _ z => ⟨z.1, z.2.mon e⟩
theorem FRep.mon {kvs : List (List Nat × D)} {ks : List (Str × V)} (h : FRep K μ H kvs ks) (e : Mon (K := K) μ H μ' H') : FRep K μ' H' kvs ks := Paired.mapP h fun _ _ z => ⟨z.1, z.2.mon e⟩
theorem KRep.ext {kvs : List (Key × D)} {ks : List (L2.Key × V)} (h : KRep K μ H kvs ks) (e : Ext K μ H μ' H') : KRep K μ' H' kvs ks := Paired.mapP h fun _ _ z => ⟨z.1, z.2.ext e⟩
theorem FRep.ext {kvs : List (List Nat × D)} {ks : List (Str × V)} (h : FRep K μ H kvs ks) (e : Ext K μ H μ' H') : FRep K μ' H' kvs ks := Paired.mapP h fun _ _ z => ⟨z.1, z.2.ext e⟩
theorem Cor.at_ (c : Cor K μ S H) {n : Nat} {o : Obj} (h : S[n]? = some o) : ∃ a, μ[n]? = some a ∧ ObjR K μ H a o := by
  have hn : n < μ.length := by rw [c.len]; exact (List.getElem?_eq_some_iff.mp h).1
  exact ⟨μ[n], by simp [hn], c.obj n o _ h (by simp [hn])⟩
theorem Cor.obj' (c : Cor K μ S H) {n : Nat} {a : Addr} (h : μ[n]? = some a) : ∃ o, S[n]? = some o ∧ ObjR K μ H a o := by
  have hn : n < S.length := by rw [← c.len]; exact (List.getElem?_eq_some_iff.mp h).1
  exact ⟨S[n], by simp [hn], c.obj n _ a (by simp [hn]) h⟩
theorem Cor.has (c : Cor K μ S H) {a : Addr} (h : a ∈ μ) : ∃ o, H a = some o := by
  obtain ⟨n, hn⟩ := List.mem_iff_getElem?.mp h
  obtain ⟨o, _, ob⟩ := c.obj' hn
  cases o with
  | lst ds => obtain ⟨vs, e, _⟩ := ob; exact ⟨_, e⟩
  | ro ds => obtain ⟨vs, o, e, _⟩ := ob; exact ⟨_, e⟩
  | dk kvs => obtain ⟨vs, e, _⟩ := ob; exact ⟨_, e⟩
  | fk kvs => obtain ⟨vs, o, e, _⟩ := ob; exact ⟨_, e⟩
  | ins q c fs => obtain ⟨dx, vs, e, _⟩ := ob; exact ⟨_, e⟩
  | nd _ => obtain ⟨xs, e, _⟩ := ob; exact ⟨_, e⟩
  | nf _ => obtain ⟨xs, od, e, _⟩ := ob; exact ⟨_, e⟩
theorem Cor.out (c : Cor K μ S H) {p : Addr} (h : H p = none) : p ∉ μ := fun z => by
  obtain ⟨o, e⟩ := c.has z
  rw [h] at e
  cases e
/-- no object of the store is a tuple -/
theorem Cor.notup (c : Cor K μ S H) {a : Addr} {xs : List V} (h : a ∈ μ) : ¬ Rd H a (.tup xs) := by
  obtain ⟨n, hn⟩ := List.mem_iff_getElem?.mp h
  obtain ⟨o, _, ob⟩ := c.obj' hn
  rintro (z | ⟨ob', z⟩)
  · cases o with
    | lst ds => obtain ⟨vs, e, _⟩ := ob; rw [z] at e; cases e
    | ro ds => obtain ⟨vs, _, e, _⟩ := ob; rw [z] at e; cases e
    | dk kvs => obtain ⟨vs, e, _⟩ := ob; rw [z] at e; cases e
    | fk kvs => obtain ⟨vs, _, e, _⟩ := ob; rw [z] at e; cases e
    | ins q c fs => obtain ⟨_, vs, e, _⟩ := ob; rw [z] at e; cases e
    | nd _ => obtain ⟨_, e, _⟩ := ob; rw [z] at e; cases e
    | nf _ => obtain ⟨_, _, e, _⟩ := ob; rw [z] at e; cases e
  · cases o with
    | lst ds => obtain ⟨vs, e, _⟩ := ob; rw [z] at e; cases e
    | ro ds => obtain ⟨vs, _, e, _⟩ := ob; rw [z] at e; cases e
    | dk kvs => obtain ⟨vs, e, _⟩ := ob; rw [z] at e; cases e
    | fk kvs => obtain ⟨vs, _, e, _⟩ := ob; rw [z] at e; cases e
    | ins q c fs => obtain ⟨_, vs, e, _⟩ := ob; rw [z] at e; cases e
    | nd _ => obtain ⟨_, e, _⟩ := ob; rw [z] at e; cases e
    | nf _ => obtain ⟨_, _, e, _⟩ := ob; rw [z] at e; cases e
theorem rd_ext {a : Addr} {u : HO} (f : ∀ o, H a = some o → H' a = some o) (h : Rd H a u) : Rd H' a u := by
  rcases h with h | ⟨o, h⟩
  · exact .inl (f _ h)
  · exact .inr ⟨o, f _ h⟩
theorem sqt_ext {a : Addr} {xs : List V} (f : ∀ o, H a = some o → H' a = some o) (h : SqT K H a xs) : SqT K H' a xs := by
  rcases h with h | h
  · exact .inl (rd_ext f h)
  · exact .inr h
theorem NRep.mon {kvs : List (Nk × Int)} {xs : List (NestedKey × Addr × Value)} (r : NRep K μ H kvs xs) (e : Mon (K := K) μ H μ' H') : NRep K μ' H' kvs xs := Paired.mapP r fun _ _ z => ⟨z.1, z.2.1.mon e, z.2.2⟩
theorem ObjR.mon {o : Obj} {a : Addr} (h : ObjR K μ H a o) (f : ∀ o, H a = some o → H' a = some o) (e : Mon (K := K) μ H μ' H') : ObjR K μ' H' a o := by
  cases o with
  | lst ds => obtain ⟨vs, q, r⟩ := h; exact ⟨vs, f _ q, r.mon e⟩
  | ro ds => obtain ⟨vs, o, q, r⟩ := h; exact ⟨vs, o, f _ q, r.mon e⟩
  | dk kvs => obtain ⟨vs, q, r⟩ := h; exact ⟨vs, f _ q, r.mon e⟩
  | fk kvs => obtain ⟨vs, o, q, r⟩ := h; exact ⟨vs, o, f _ q, r.mon e⟩
  | ins q c fs => obtain ⟨dx, vs, q, r⟩ := h; exact ⟨dx, vs, f _ q, r.mon e⟩
  | nd _ => obtain ⟨xs, q, r, n⟩ := h; exact ⟨xs, f _ q, NRep.mon r e, n⟩
  | nf _ => obtain ⟨xs, od, q, r, n⟩ := h; exact ⟨xs, od, f _ q, NRep.mon r e, n⟩
theorem ObjR.ext {o : Obj} {a : Addr} (h : ObjR K μ H a o) (f : ∀ o, H a = some o → H' a = some o) (e : Ext K μ H μ' H') : ObjR K μ' H' a o := by
  cases o with
  | lst ds => obtain ⟨vs, q, r⟩ := h; exact ⟨vs, f _ q, r.ext e⟩
  | ro ds => obtain ⟨vs, o, q, r⟩ := h; exact ⟨vs, o, f _ q, r.ext e⟩
  | dk kvs => obtain ⟨vs, q, r⟩ := h; exact ⟨vs, f _ q, r.ext e⟩
  | fk kvs => obtain ⟨vs, o, q, r⟩ := h; exact ⟨vs, o, f _ q, r.ext e⟩
  | ins q c fs => obtain ⟨dx, vs, q, r⟩ := h; exact ⟨dx, vs, f _ q, r.ext e⟩
  | nd _ => obtain ⟨xs, q, r, n⟩ := h; exact ⟨xs, f _ q, NRep.mon r e.mon, n⟩
  | nf _ => obtain ⟨xs, od, q, r, n⟩ := h; exact ⟨xs, od, f _ q, NRep.mon r e.mon, n⟩
/-- all objects kept: a later state with the same store -/
theorem Cor.keep (c : Cor K μ S H) (f : ∀ a o, H a = some o → H' a = some o) : Ext K μ H μ H' ∧ Cor K μ S H' := by
  have e : Ext K μ H μ H' := ⟨⟨[], by simp⟩, fun a h n => absurd h n, fun a o _ h => f a o h, fun a xs h => sqt_ext (f a) h, fun a o u h => f a _ h⟩
  exact ⟨e, c.len, c.nd, fun n o a h1 h2 => (c.obj n o a h1 h2).ext (f a) e⟩
/-- a new object outside of the store -/
theorem Cor.side (c : Cor K μ S H) {p : Addr} {u : HO} (hp : H p = none) : Ext K μ H μ (upd H p u) ∧ Cor K μ S (upd H p u) :=
  c.keep fun a o h => by rw [upd_ne (ne_of_none h hp)]; exact h
/-- a new object of the store -/
theorem Cor.new (c : Cor K μ S H) {p : Addr} {u : HO} {o : Obj} (hp : H p = none) (ho : ∀ μ' H', Ext K μ H μ' H' → H' p = some u → ObjR K μ' H' p o) : Ext K μ H (μ ++ [p]) (upd H p u) ∧ Cor K (μ ++ [p]) (S ++ [o]) (upd H p u) := by
  have hn := c.out hp
  have f : ∀ a o, H a = some o → upd H p u a = some o := fun a o h => by rw [upd_ne (ne_of_none h hp)]; exact h
  have e : Ext K μ H (μ ++ [p]) (upd H p u) := by
    refine ⟨⟨[p], rfl⟩, fun a h n => ?_, fun a o _ h => f a o h, fun a xs h => sqt_ext (f a) h, fun a o u h => f a _ h⟩
    rcases List.mem_append.mp h with h | h
    · exact absurd h n
    · rw [List.mem_singleton.mp h]
      exact hp
  refine ⟨e, by simp [c.len], ?_, fun n ob a h1 h2 => ?_⟩
  · rw [List.nodup_append]
    refine ⟨c.nd, by simp, fun a ha b hb => ?_⟩
    rw [List.mem_singleton.mp hb]
    intro z
    exact hn (by rw [← z]; exact ha)
  · by_cases hlt : n < μ.length
    · rw [List.getElem?_append_left hlt] at h2
      rw [List.getElem?_append_left (by rw [← c.len]; exact hlt)] at h1
      exact (c.obj n ob a h1 h2).ext (f a) e
    · have hlen := (List.getElem?_eq_some_iff.mp h2).1
      rw [List.length_append, List.length_singleton] at hlen
      have en : n = μ.length := by omega
      subst en
      rw [List.getElem?_append_right (Nat.le_refl _)] at h2
      rw [c.len, List.getElem?_append_right (Nat.le_refl _)] at h1
      simp at h1 h2
      subst h1 h2
      exact ho _ _ e upd_same
/-- an object of the store written -/
theorem Cor.write (c : Cor K μ S H) {n : Nat} {a : Addr} {u : HO} {o : Obj} (ha : μ[n]? = some a) (hf : ∀ ob u, H a ≠ some (.frz ob u)) (ho : ∀ H', Ext K μ H μ H' → H' a = some u → ObjR K μ H' a o) : Ext K μ H μ (upd H a u) ∧ Cor K μ (S.set n o) (upd H a u) := by
  have hm : a ∈ μ := List.mem_iff_getElem?.mpr ⟨n, ha⟩
  have e : Ext K μ H μ (upd H a u) := by
    refine ⟨⟨[], by simp⟩, fun b h z => absurd h z, fun b ob h q => ?_, fun b xs h => ?_, fun b ob u h => by rw [upd_ne (fun z => hf ob u (by rw [← z]; exact h))]; exact h⟩
    · rw [upd_ne (fun z => h (by rw [z]; exact hm))]
      exact q
    · rcases h with h | h
      · have hb : b ≠ a := fun z => c.notup hm (by rw [← z]; exact h)
        refine .inl (rd_ext (fun o q => ?_) h)
        rw [upd_ne hb]
        exact q
      · exact .inr h
  refine ⟨e, by simp [c.len], c.nd, fun m ob b h1 h2 => ?_⟩
  by_cases hmn : m = n
  · subst hmn
    rw [ha] at h2
    cases h2
    have hl : m < S.length := by rw [← c.len]; exact (List.getElem?_eq_some_iff.mp ha).1
    rw [List.getElem?_set_self hl] at h1
    cases h1
    exact ho _ e upd_same
  · rw [List.getElem?_set_ne (Ne.symm hmn)] at h1
    have hb : b ≠ a := fun z => hmn (nd_ix c.nd h2 (by rw [z]; exact ha))
    exact (c.obj m ob b h1 h2).ext (fun o q => by rw [upd_ne hb]; exact q) e
/-- an object aside is written -/
theorem Ext.over (e : Ext K μ H μ' H') {p : Addr} {u : HO} (hp : H p = none) : Ext K μ H μ' (upd H' p u) := by
  refine ⟨e.pre, e.new, fun a o n h => ?_, fun a xs h => ?_, fun a o u h => by rw [upd_ne (ne_of_none h hp)]; exact e.exc a o u h⟩
  · rw [upd_ne (ne_of_none h hp)]
    exact e.fr a o n h
  · rcases h with h | h
    · have ne : a ≠ p := by
        rcases h with h | ⟨o, h⟩
        · exact ne_of_none h hp
        · exact ne_of_none h hp
      exact sqt_ext (fun o q => by rw [upd_ne ne]; exact q) (e.tup a xs (.inl h))
    · exact .inr h
theorem Ext.out (e : Ext K μ H μ' H') {p : Addr} {u : HO} (hp : H p = some u) (hm : p ∉ μ) : p ∉ μ' := fun z => by
  have q := e.new p z hm
  rw [hp] at q
  cases q
theorem Cor.over (c : Cor K μ S H) {p : Addr} {u : HO} (hm : p ∉ μ) (hx : ∀ o u, H p ≠ some (.frz o u)) (hk : ∀ xs, ¬ Rd H p (.tup xs)) : Cor K μ S (upd H p u) ∧ Mon (K := K) μ H μ (upd H p u) := by
  have mon : Mon (K := K) μ H μ (upd H p u) := ⟨fun _ _ h => h, fun a xs h => by
    rcases h with h | h
    · have ne : a ≠ p := fun z => hk xs (by rw [← z]; exact h)
      exact .inl (rd_ext (fun o q => by rw [upd_ne ne]; exact q) h)
    · exact .inr h, fun a o u h => by rw [upd_ne (fun z => hx o u (by rw [← z]; exact h))]; exact h⟩
  refine ⟨⟨c.len, c.nd, fun n o a h1 h2 => (c.obj n o a h1 h2).mon (fun o q => ?_) mon⟩, mon⟩
  rw [upd_ne (fun z => hm (by rw [← z]; exact List.mem_iff_getElem?.mpr ⟨n, h2⟩))]
  exact q
/-- an object aside becomes the store's -/
theorem Ext.adopt (e : Ext K μ H μ' H') {p : Addr} (hp : H p = none) : Ext K μ H (μ' ++ [p]) H' := by
  refine ⟨?_, fun a h n => ?_, e.fr, e.tup, e.exc⟩
  · obtain ⟨r, hr⟩ := e.pre
    exact ⟨r ++ [p], by rw [hr, List.append_assoc]⟩
  · rcases List.mem_append.mp h with h | h
    · exact e.new a h n
    · rw [List.mem_singleton.mp h]
      exact hp
theorem Cor.adopt (c : Cor K μ S H) {p : Addr} {o : Obj} (hm : p ∉ μ) (ho : ∀ μ', Mon (K := K) μ H μ' H → ObjR K μ' H p o) : Cor K (μ ++ [p]) (S ++ [o]) H := by
  have mon : Mon (K := K) μ H (μ ++ [p]) H := ⟨fun n a h => by
    rw [List.getElem?_append_left (List.getElem?_eq_some_iff.mp h).1]
    exact h, fun _ _ h => h, fun _ _ _ h => h⟩
  refine ⟨by simp [c.len], ?_, fun n ob a h3 h4 => ?_⟩
  · rw [List.nodup_append]
    refine ⟨c.nd, by simp, fun a ha b hb => ?_⟩
    rw [List.mem_singleton.mp hb]
    intro z
    exact hm (by rw [← z]; exact ha)
  · by_cases hlt : n < μ.length
    · rw [List.getElem?_append_left hlt] at h4
      rw [List.getElem?_append_left (by rw [← c.len]; exact hlt)] at h3
      exact (c.obj n ob a h3 h4).mon (fun o q => q) mon
    · have hlen := (List.getElem?_eq_some_iff.mp h4).1
      rw [List.length_append, List.length_singleton] at hlen
      have en : n = μ.length := by omega
      subst en
      rw [List.getElem?_append_right (Nat.le_refl _)] at h4
      rw [c.len, List.getElem?_append_right (Nat.le_refl _)] at h3
      simp at h3 h4
      subst h3 h4
      exact ho _ mon
theorem Cor.adopt_ref (c : Cor K μ S H) {p : Addr} : Rep K (μ ++ [p]) H' (.ref S.length) (.ref p) := .ref (by
  rw [← c.len, List.getElem?_append_right (Nat.le_refl _), Nat.sub_self]
  rfl)
mutual
theorem Rep.sub (f : ∀ (n : Nat) (a : Addr), μ[n]? = some a → μ'[n]? = some a) (t : ∀ a xs, SqT K H a xs → SqT K H' a xs) (x : ∀ a o, H a = some (.frz o (.own 0)) → H' a = some (.frz o (.own 0))) : ∀ {d : D} {v : V}, Rep K μ H d v → Rep K μ' H' d v
  | _, _, .non => .non
  | _, _, .bl b => .bl b
  | _, _, .int i => .int i
  | _, _, .str s => .str s
  | _, _, .tup h r => .tup (t _ _ h) (Reps.sub f t x r)
  | _, _, .ref h => .ref (f _ _ h)
  | _, _, .kl h r => .kl h (Reps.sub f t x r)
  | _, _, .exc h h1 h2 h3 => .exc (x _ _ h) h1 h2 h3
  | _, _, .fn => .fn
theorem Reps.sub (f : ∀ (n : Nat) (a : Addr), μ[n]? = some a → μ'[n]? = some a) (t : ∀ a xs, SqT K H a xs → SqT K H' a xs) (x : ∀ a o, H a = some (.frz o (.own 0)) → H' a = some (.frz o (.own 0))) : ∀ {ds : List D} {vs : List V}, Reps K μ H ds vs → Reps K μ' H' ds vs
  | _, _, .nil => .nil
  | _, _, .cons h r => .cons (Rep.sub f t x h) (Reps.sub f t x r)
end
theorem free_tup {a : Addr} {od : PySem.Obj} {ks : List (L2.Key × V)} (h : H a = some (.frz od (.dK ks))) (b : Addr) (xs : List V) (q : SqT K H b xs) : SqT K (upd H a (.dK ks)) b xs := by
  rcases q with q | q
  · have ne : b ≠ a := fun z => by
      subst z
      rcases q with q | ⟨o, q⟩
      · rw [h] at q; cases q
      · rw [h] at q; cases q
    exact .inl (rd_ext (fun o z => by rw [upd_ne ne]; exact z) q)
  · exact .inr q
theorem free_exc {a : Addr} {od : PySem.Obj} {ks : List (L2.Key × V)} (h : H a = some (.frz od (.dK ks))) (b : Addr) (o : PySem.Obj) (q : H b = some (.frz o (.own 0))) : upd H a (.dK ks) b = some (.frz o (.own 0)) := by
  rw [upd_ne (fun z => by rw [z, h] at q; cases q)]
  exact q
theorem Rep.free {a : Addr} {od : PySem.Obj} {ks : List (L2.Key × V)} (h : H a = some (.frz od (.dK ks))) {d : D} {v : V} (r : Rep K μ H d v) : Rep K μ (upd H a (.dK ks)) d v := r.sub (fun _ _ z => z) (free_tup h) (free_exc h)
theorem Reps.free {a : Addr} {od : PySem.Obj} {ks : List (L2.Key × V)} (h : H a = some (.frz od (.dK ks))) {d : List D} {v : List V} (r : Reps K μ H d v) : Reps K μ (upd H a (.dK ks)) d v := r.sub (fun _ _ z => z) (free_tup h) (free_exc h)
theorem Cor.free (c : Cor K μ S H) {n : Nat} {a : Addr} {od : PySem.Obj} {ks : List (L2.Key × V)} {kvs : List (Key × D)} (ha : μ[n]? = some a) (h : H a = some (.frz od (.dK ks))) (hk : KRep K μ H kvs ks) : Cor K μ (S.set n (.dk kvs)) (upd H a (.dK ks)) := by
  refine ⟨by simp [c.len], c.nd, fun m ob b h1 h2 => ?_⟩
  by_cases hmn : m = n
  · subst hmn
    rw [ha] at h2
    cases h2
    have hl : m < S.length := by rw [← c.len]; exact (List.getElem?_eq_some_iff.mp ha).1
    rw [List.getElem?_set_self hl] at h1
    cases h1
    exact ⟨ks, upd_same, Paired.mapP hk fun _ _ z => ⟨z.1, z.2.free h⟩⟩
  · rw [List.getElem?_set_ne (Ne.symm hmn)] at h1
    have hb : b ≠ a := fun z => hmn (nd_ix c.nd h2 (by rw [z]; exact ha))
    have q := c.obj m ob b h1 h2
    have f : ∀ o, H b = some o → upd H a (.dK ks) b = some o := fun o z => by rw [upd_ne hb]; exact z
    cases ob with
    | lst ds => obtain ⟨vs, q, r⟩ := q; exact ⟨vs, f _ q, r.free h⟩
    | ro ds => obtain ⟨vs, o, q, r⟩ := q; exact ⟨vs, o, f _ q, r.free h⟩
    | dk kvs => obtain ⟨vs, q, r⟩ := q; exact ⟨vs, f _ q, Paired.mapP r fun _ _ z => ⟨z.1, z.2.free h⟩⟩
    | fk kvs => obtain ⟨vs, o, q, r⟩ := q; exact ⟨vs, o, f _ q, Paired.mapP r fun _ _ z => ⟨z.1, z.2.free h⟩⟩
    | ins q c fs => obtain ⟨dx, vs, q, r⟩ := q; exact ⟨dx, vs, f _ q, Paired.mapP r fun _ _ z => ⟨z.1, z.2.free h⟩⟩
    | nd _ => obtain ⟨xs, q, r, n⟩ := q; exact ⟨xs, f _ q, Paired.mapP r fun _ _ z => ⟨z.1, z.2.1.free h, z.2.2⟩, n⟩
    | nf _ => obtain ⟨xs, od, q, r, n⟩ := q; exact ⟨xs, od, f _ q, Paired.mapP r fun _ _ z => ⟨z.1, z.2.1.free h, z.2.2⟩, n⟩
theorem Ext.free (e : Ext K μ H μ' H') {a : Addr} {u : HO} {ks : List (L2.Key × V)} (hm : a ∈ μ) (h : H a = some (.dK ks)) : Ext K μ H μ' (upd H' a u) := by
  refine ⟨e.pre, e.new, fun b o n q => ?_, fun b xs q => ?_, fun b o u q => ?_⟩
  · rw [upd_ne (fun z => n (by rw [z]; exact hm))]
    exact e.fr b o n q
  · rcases q with q | q
    · have ne : b ≠ a := fun z => by
        subst z
        rcases q with q | ⟨o, q⟩
        · rw [h] at q; cases q
        · rw [h] at q; cases q
      exact sqt_ext (fun o z => by rw [upd_ne ne]; exact z) (e.tup b xs (.inl q))
    · exact .inr q
  · rw [upd_ne (fun z => by rw [z, h] at q; cases q)]
    exact e.exc b o u q
def Pst (K : PySem.W.Frag) {α : Type} (μ : List Addr) (H : Hp) (o : Out α) (R : α → Store → List Addr → Hp → Prop) (Wx : Nat → Hp → Prop) : Prop := match o with
  | .ok a S' => ∀ μ' H', Cor K μ' S' H' → Ext K μ H μ' H' → R a S' μ' H'
  | .exc c S' => ∀ μ' H', Cor K μ' S' H' → Ext K μ H μ' H' → Wx c H'
  | .bad => False
theorem Pst.ext {α : Type} {o : Out α} {R : α → Store → List Addr → Hp → Prop} {Wx : Nat → Hp → Prop} (h : Pst K μ H o R Wx) (e : Ext K μ H μ' H') : Pst K μ' H' o R Wx := by
  cases o with
  | ok a S' => exact fun m h' c e' => h m h' c (e.trans e')
  | exc c S' => exact fun m h' c e' => h m h' c (e.trans e')
  | bad => exact h
theorem Pst.imp {α : Type} {o : Out α} {R R' : α → Store → List Addr → Hp → Prop} {Wx Wx' : Nat → Hp → Prop} (h : Pst K μ H o R Wx) (f : ∀ a S' μ' H', Cor K μ' S' H' → Ext K μ H μ' H' → R a S' μ' H' → R' a S' μ' H')
    (g : ∀ c H', Wx c H' → Wx' c H') : Pst K μ H o R' Wx' := by
  cases o with
  | ok a S' => exact fun m h' c e' => f a S' m h' c e' (h m h' c e')
  | exc c S' => exact fun m h' c e' => g _ _ (h m h' c e')
  | bad => exact h
theorem Pst.bnd {α β : Type} {m : M α} {f : α → M β} {R : β → Store → List Addr → Hp → Prop} {Wx : Nat → Hp → Prop} (h : Pst K μ H (VM.bnd m f S) R Wx) :
    Pst K μ H (m S) (fun a S' μ' H' => Pst K μ' H' (f a S') R Wx) Wx := by
  unfold VM.bnd at h
  cases q : m S with
  | ok a S' =>
    rw [q] at h
    exact fun m h' c e => Pst.ext h e
  | exc c S' =>
    rw [q] at h
    exact h
  | bad =>
    rw [q] at h
    exact h.elim
/-- the same, seen from where it began -/
theorem Pst.bnd' {α β : Type} {m : M α} {f : α → M β} {R : β → Store → List Addr → Hp → Prop} {Wx : Nat → Hp → Prop} (h : Pst K μ H (VM.bnd m f S) R Wx) :
    Pst K μ H (m S) (fun a S' _ _ => Pst K μ H (f a S') R Wx) Wx := by
  unfold VM.bnd at h
  cases q : m S with
  | ok a S' =>
    rw [q] at h
    exact fun _ _ _ _ => h
  | exc c S' =>
    rw [q] at h
    exact h
  | bad =>
    rw [q] at h
    exact h.elim
theorem Pst.now {α : Type} {a : α} {R : α → Store → List Addr → Hp → Prop} {Wx : Nat → Hp → Prop} (c : Cor K μ S H) (h : Pst K μ H (ret a S) R Wx) : R a S μ H := h μ H c .refl
theorem Pst.lft {α : Type} {o : Option α} {R : α → Store → List Addr → Hp → Prop} {Wx : Nat → Hp → Prop} (c : Cor K μ S H) (h : Pst K μ H (VM.lft o S) R Wx) : ∃ a, o = some a ∧ R a S μ H := by
  cases o with
  | some a => exact ⟨a, rfl, Pst.now c h⟩
  | none => exact h.elim
end
end VM
set_option maxHeartbeats 4000000
namespace VM
open PySem L2
theorem num_inj : ∀ {a b : List Int}, a.map NestedKey.num = b.map NestedKey.num → a = b
  | [], [], _ => rfl
  | [], _ :: _, h => by cases h
  | _ :: _, [], h => by cases h
  | x :: a, y :: b, h => by
    rw [List.map_cons, List.map_cons, List.cons.injEq] at h
    obtain ⟨h1, h2⟩ := h
    cases h1
    rw [num_inj h2]
theorem nkK_inj {a b : Nk} (h : nkK a = nkK b) : a = b := by
  obtain ⟨m, r⟩ := a
  obtain ⟨n, q⟩ := b
  unfold nkK at h
  rw [NestedKey.tup.injEq, List.cons.injEq, List.cons.injEq] at h
  obtain ⟨h1, h2, _⟩ := h
  cases h1
  rw [NestedKey.tup.injEq] at h2
  have h2 : r = q := num_inj h2
  rw [h2]
theorem nums_hash (w w' : World) : ∀ r : List Int, NestedKey.hashes w (r.map .num) = NestedKey.hashes w' (r.map .num)
  | [] => by rw [List.map_nil, NestedKey.hashes, NestedKey.hashes]
  | x :: r => by
    rw [List.map_cons, NestedKey.hashes, NestedKey.hashes, nums_hash w w' r, NestedKey.hash, NestedKey.hash]
theorem nk_hash (w w' : World) (k : Nk) : (nkK k).hash w = (nkK k).hash w' := by
  unfold nkK
  rw [NestedKey.hash, NestedKey.hash]
  simp only [NestedKey.hashes, NestedKey.hash]
  rw [nums_hash w w']
theorem nums_depth : ∀ r : List Int, NestedKey.depthAll (r.map .num) = 0
  | [] => by rw [List.map_nil, NestedKey.depthAll]
  | x :: r => by rw [List.map_cons, NestedKey.depthAll, NestedKey.depth, nums_depth r]; rfl
theorem nk_depth (k : Nk) : (nkK k).depth ≤ 8 := by
  unfold nkK
  simp only [NestedKey.depth, NestedKey.depthAll]
  rw [nums_depth]
  omega
section
variable {P : Program} {w : World} {K : PySem.W.Frag} {μ : List Addr} {H : Hp} {h : Heap} {a : Addr}
theorem ints_is (hok : HOk P w H h) : ∀ {r : List Int} {vs : List V} {us : List Value}, Reps K μ H (r.map .int) vs → Vals vs us → NestedAll h (r.map .num) us
  | [], _, _, .nil, .nil => .nil
  | x :: r, _, _, .cons (.int _) t, .cons q u => by
    obtain ⟨tk, rfl⟩ := (show ∃ t, _ = Value.int x t from q)
    exact .cons (.int x tk) (ints_is hok t u)
/-- a value that is such a key -/
theorem nk_is (hok : HOk P w H h) (KX : K.In h) {k : Nk} {b : Addr} (r : Rep K μ H (nkD k) (.ref b)) : (nestedKind P w).is h (nkK k) b := by
  refine ⟨?_, nk_depth k⟩
  cases r with
  | tup q rs =>
    obtain ⟨its, o, n, rv, h1, h2, h3⟩ := sqT_at hok KX q
    refine .tup h1 h2 h3 ?_
    rw [show its.toArray.toList = its from rfl]
    cases rs with
    | cons r1 rs =>
      cases rs with
      | cons r2 rs =>
        cases rs
        cases rv with
        | cons v1 rv =>
          cases rv with
          | cons v2 rv =>
            cases rv
            cases r1
            obtain ⟨tk, rfl⟩ := (show ∃ t, _ = Value.int k.1 t from v1)
            refine .cons (.int _ _) (.cons ?_ .nil)
            cases r2 with
            | @tup b2 vs2 _ q2 rs2 =>
              obtain ⟨its2, o2, n2, rv2, g1, g2, g3⟩ := sqT_at hok KX q2
              cases (show _ = Value.ref b2 from v2)
              refine .tup g1 g2 g3 ?_
              rw [show its2.toArray.toList = its2 from rfl]
              exact ints_is hok rs2 rv2
theorem nrep_all (hok : HOk P w H h) (KX : K.In h) (w0 : World) : ∀ {kvs : List (Nk × Int)} {xs : List (NestedKey × Addr × Value)}, NRep K μ H kvs xs → (∀ x ∈ xs, (nestedKind P w).is h x.1 x.2.1) ∧ xs.map (·.1) = kvs.map (fun p => nkK p.1) ∧ (xs.map fun x => (⟨x.1.hash w0, .ref x.2.1, x.2.2⟩ : DictEntry)) = xs.map (entryOfKey (nestedKind P w))
  | _, _, .nil => ⟨fun x hx => (by cases hx), rfl, rfl⟩
  | p :: kvs, x :: xs, .cons q t => by
    obtain ⟨i1, i2, i3⟩ := nrep_all hok KX w0 t
    obtain ⟨q1, q2, q3⟩ := q
    refine ⟨fun y hy => ?_, ?_, ?_⟩
    · rcases List.mem_cons.mp hy with rfl | hy
      · rw [q1]; exact nk_is hok KX q2
      · exact i1 y hy
    · rw [List.map_cons, List.map_cons, i2, q1]
    · rw [List.map_cons, List.map_cons, i3]
      congr 1
      show (⟨x.1.hash w0, .ref x.2.1, x.2.2⟩ : DictEntry) = ⟨x.1.hash w, .ref x.2.1, x.2.2⟩
      rw [q1, nk_hash w0 w]
/-- held as a dict of such keys -/
theorem nd_of (hok : HOk P w H h) (KX : K.In h) {kvs : List (Nk × Int)} {xs : List (NestedKey × Addr × Value)} (e : H a = some (.ext (NdP a xs))) (r : NRep K μ H kvs xs) (nd : (kvs.map (·.1)).Nodup) : h.DictOfH (nestedKind P w) a xs ∧ (a == sysModules) = false ∧ xs.length ≤ sizeLine := by
  obtain ⟨⟨hm, w0, o, es, ep, h1, h2, h3, h4⟩, _, _⟩ := (show ObjOk P w H h a (.ext (NdP a xs)) from hok a _ e)
  obtain ⟨a1, a2, a3⟩ := nrep_all hok KX w0 r
  refine ⟨⟨o, es, ep, h1, h2, h3, by rw [h4, a3], a1, ?_⟩, hm⟩
  rw [a2, show (kvs.map fun p => nkK p.1) = (kvs.map (·.1)).map nkK by rw [List.map_map]; rfl]
  unfold List.Nodup at nd ⊢
  rw [List.pairwise_map]
  exact List.Pairwise.imp (fun {x y} ne e => ne (nkK_inj e)) nd
/-- and back -/
theorem nd_to {xs : List (NestedKey × Addr × Value)} (x : h.DictOfH (nestedKind P w) a xs) (hs : (a == sysModules) = false) (hl : xs.length ≤ sizeLine) : ObjOk P w H h a (.ext (NdP a xs)) := by
  obtain ⟨o, es, ep, h1, h2, h3, h4, _, _⟩ := x
  refine ⟨⟨⟨hs, hl⟩, w, o, es, ep, h1, h2, h3, h4⟩, ⟨o, h1⟩, ?_⟩
  rintro ha hb ⟨hm, w0, o0, es0, ep0, g1, g2⟩ kp
  exact ⟨hm, w0, o0, es0, ep0, kp _ g1, g2⟩
end
end VM
namespace VM
open PySem L2
theorem nput_len (kvs : List (Nk × Int)) (k : Nk) (c : Int) : (nput kvs k c).length ≤ kvs.length + 1 := by
  unfold nput
  split
  · rw [List.length_map]; exact Nat.le_succ _
  · rw [List.length_append]; exact Nat.le_refl _
theorem nget_none {kvs : List (Nk × Int)} {k : Nk} (h : nget kvs k = none) : k ∉ kvs.map (·.1) := by
  intro hm
  obtain ⟨p, hp, rfl⟩ := List.mem_map.mp hm
  unfold nget at h
  rw [Option.map_eq_none_iff, List.find?_eq_none] at h
  exact h p hp (by simp)
theorem nput_keys (kvs : List (Nk × Int)) (k : Nk) (c : Int) (nd : (kvs.map (·.1)).Nodup) : ((nput kvs k c).map (·.1)).Nodup := by
  unfold nput
  split
  · have e : (kvs.map fun p => if p.1 = k then (p.1, c) else p).map (·.1) = kvs.map (·.1) := by
      rw [List.map_map]
      refine List.map_congr_left fun p _ => ?_
      show (if p.1 = k then (p.1, c) else p).1 = p.1
      split <;> rfl
    rw [e]
    exact nd
  · rename_i h
    have h : nget kvs k = none := by
      cases q : nget kvs k with
      | none => rfl
      | some v => rw [q] at h; exact absurd rfl h
    rw [List.map_append, List.nodup_append]
    refine ⟨nd, by simp, fun x hx y hy e => ?_⟩
    rw [List.mem_singleton.mp hy] at e
    rw [show x = k from e] at hx
    exact nget_none h hx
section
variable {K : PySem.W.Frag} {μ : List Addr} {H : Hp}
theorem nrep_get : ∀ {kvs : List (Nk × Int)} {xs : List (NestedKey × Addr × Value)} (k : Nk), NRep K μ H kvs xs → match nget kvs k with
    | some c => ∃ p, atKey xs (nkK k) = some p ∧ RelV (.int c) p.2
    | none => atKey xs (nkK k) = none
  | _, _, k, .nil => rfl
  | p :: kvs, x :: xs, k, .cons q t => by
    obtain ⟨q1, q2, q3⟩ := q
    have ih := nrep_get k t
    unfold nget atKey at *
    by_cases h : p.1 = k
    · have h' : x.1 = nkK k := by rw [q1, h]
      rw [List.find?_cons, List.find?_cons]
      simp only [h, h', decide_true]
      exact ⟨x.2, rfl, q3⟩
    · have h' : ¬ x.1 = nkK k := fun e => h (nkK_inj (q1.symm.trans e))
      rw [List.find?_cons, List.find?_cons]
      simp only [h, h', decide_false]
      exact ih
theorem nrep_put {k : Nk} {b : Addr} {c : Int} {u : Value} (rk : Rep K μ H (nkD k) (.ref b)) (rc : RelV (.int c) u) {kvs : List (Nk × Int)} {xs : List (NestedKey × Addr × Value)} (r : NRep K μ H kvs xs) : NRep K μ H (nput kvs k c) (storedH xs (nkK k) b u) := by
  have g := nrep_get k r
  unfold nput storedH
  cases q : nget kvs k with
  | some v =>
    rw [q] at g
    obtain ⟨p, hp, _⟩ := g
    rw [hp]
    simp only [Option.isSome_some, if_true]
    have key : ∀ {kvs : List (Nk × Int)} {xs : List (NestedKey × Addr × Value)}, NRep K μ H kvs xs → NRep K μ H (kvs.map fun p => if p.1 = k then (p.1, c) else p) (xs.map (putAt (nkK k) u)) := by
      intro kvs
      induction kvs with
      | nil => intro xs r; cases r; exact .nil
      | cons p kvs ih =>
        intro xs r
        cases r with
        | @cons _ x _ xs q t =>
          rw [List.map_cons, List.map_cons]
          refine .cons ?_ (ih t)
          obtain ⟨q1, q2, q3⟩ := q
          unfold putAt
          by_cases h : p.1 = k
          · rw [if_pos h, if_pos (q1.trans (by rw [h]))]
            exact ⟨q1, q2, rc⟩
          · rw [if_neg h, if_neg (fun e => h (nkK_inj (q1.symm.trans e)))]
            exact ⟨q1, q2, q3⟩
    exact key r
  | none =>
    rw [q] at g
    rw [g]
    simp only [Option.isSome_none, Bool.false_eq_true, if_false]
    have key : ∀ {kvs : List (Nk × Int)} {xs : List (NestedKey × Addr × Value)}, NRep K μ H kvs xs → NRep K μ H (kvs ++ [(k, c)]) (xs ++ [(nkK k, b, u)]) := by
      intro kvs
      induction kvs with
      | nil => intro xs r; cases r; exact .cons ⟨rfl, rk, rc⟩ .nil
      | cons p kvs ih =>
        intro xs r
        cases r with
        | cons q t => exact .cons q (ih t)
    exact key r
end
/-- such a dict at a place; the empty one may still be a dict of any keys -/
def NdAt (K : PySem.W.Frag) (μ : List Addr) (H : Hp) (a : Addr) (kvs : List (Nk × Int)) : Prop :=
  (∃ xs, H a = some (.ext (NdP a xs)) ∧ NRep K μ H kvs xs ∧ (kvs.map (·.1)).Nodup) ∨ (kvs = [] ∧ H a = some (.dK []))
theorem NRep.length {K : PySem.W.Frag} {μ : List Addr} {H : Hp} : ∀ {kvs : List (Nk × Int)} {xs : List (NestedKey × Addr × Value)}, NRep K μ H kvs xs → kvs.length = xs.length
  | _, _, .nil => rfl
  | _, _, .cons _ t => by rw [List.length_cons, List.length_cons, NRep.length t]
theorem NdAt.dict {P : Program} {w : World} {K : PySem.W.Frag} {μ : List Addr} {H : Hp} {h : Heap} {a : Addr} {kvs : List (Nk × Int)} (N : NdAt K μ H a kvs) (hok : HOk P w H h) (KX : K.In h) : ∃ xs, NRep K μ H kvs xs ∧ h.DictOfH (nestedKind P w) a xs ∧ (kvs.map (·.1)).Nodup ∧ kvs.length ≤ sizeLine ∧ (a == sysModules) = false := by
  rcases N with ⟨xs, e, r, nd⟩ | ⟨rfl, e⟩
  · obtain ⟨q, m, l⟩ := nd_of (P := P) (w := w) hok KX e r nd
    exact ⟨xs, r, q, nd, by rw [NRep.length r]; exact l, m⟩
  · obtain ⟨z, hd, vs, rel, dd⟩ := dk_of hok e
    cases rel
    obtain ⟨o, es, ep, h1, h2, h3, h4, h5, h6⟩ := dd
    refine ⟨[], .nil, ⟨o, es, ep, h1, h2, h3, ?_, fun x hx => (by cases hx), List.nodup_nil⟩, List.nodup_nil, Nat.zero_le _, hd⟩
    cases h : es.toList with
    | nil => rfl
    | cons _ _ => rw [h] at h5; cases h5
theorem NdAt.mut {K : PySem.W.Frag} {μ : List Addr} {H : Hp} {a : Addr} {kvs : List (Nk × Int)} (N : NdAt K μ H a kvs) : Mut (H a) := by
  rcases N with ⟨xs, e, _⟩ | ⟨_, e⟩
  · rw [e]; exact True.intro
  · rw [e]; exact True.intro
section
variable {X : Cx} {pins : List (Addr × PySem.Obj)} {σ : L2.St} {μ : List Addr} {H : Hp} {s : Shared} {a b : Addr} {kvs : List (Nk × Int)} {k : Nk} {c : Int} {u : Value} {A : Around} {E : Value → Shared → Prop}
/-- d[k] = c -/
theorem n_set {Q : Unit → Shared → Prop} (hu : A.units + 60 < cLine) (I : Inv X pins σ H s) (N : NdAt X.K μ H a kvs) (rk : Rep X.K μ H (nkD k) (.ref b)) (rc : RelV (.int c) u) (hl : kvs.length < sizeLine)
    (h : ∀ s' xs, NRep X.K μ H (nput kvs k c) xs → Inv X pins σ (upd H a (.ext (NdP a xs))) s' → Q () s') : wpAny (model X.prog X.w) A (setItem (.ref a) (.ref b) u) Q E s := by
  obtain ⟨xs, r, dd, nd, l, m⟩ := N.dict (P := X.prog) (w := X.w) I.hok I.kIn
  refine wpAny_setItem_heap (hsz := by rw [← NRep.length r]; exact l) (knd := nestedKind X.prog X.w) (k := nkK k) (show A.units + 1 + 8 < cLine by omega) (nk_is I.hok I.kIn rk) dd fun h' dd' hs => h _ _ (nrep_put rk rc r) ?_
  obtain ⟨q, es, ep, hq, _⟩ := id dd'
  refine d_write I N.mut hs ⟨q, hq⟩ (nd_to dd' m ?_)
  rw [← NRep.length (nrep_put rk rc r)]
  have := nput_len kvs k c
  omega
/-- d.get(k, x) -/
theorem n_get2 {x : Int} {r : Value} {Q : Value → Shared → Prop} (hu : A.units + 60 < cLine) (I : Inv X pins σ H s) (N : NdAt X.K μ H a kvs) (rk : Rep X.K μ H (nkD k) (.ref b)) (rc : RelV (.int x) r)
    (h : ∀ w' s', Inv X pins σ H s' → RelV (.int ((nget kvs k).getD x)) w' → Q w' s') : wpAny (model X.prog X.w) A (call (.builtin "dict.get") [.ref a, .ref b, r]) Q E s := by
  obtain ⟨xs, rr, dd, nd, l, m⟩ := N.dict (P := X.prog) (w := X.w) I.hok I.kIn
  refine call_meetsIn PySem.F.slot_dict_get dd.typeIs PySem.F.entry_dict_get (PySem.F.args_dict_get_3 _ _ _) (meetsH_dict_get_default (nestedKind X.prog X.w) a b m r) ⟨show A.units + 1 + 8 < cLine by omega, nkK k, xs, nk_is I.hok I.kIn rk, dd, h _ _ (I.tok _) ?_⟩
  have g := nrep_get k rr
  cases q : nget kvs k with
  | none =>
    rw [q] at g
    rw [g]
    exact rc
  | some c =>
    rw [q] at g
    obtain ⟨p, hp, hr⟩ := g
    rw [hp]
    exact hr
/-- d[k] -/
theorem n_ix {Q : Value → Shared → Prop} (hu : A.units + 60 < cLine) (I : Inv X pins σ H s) (N : NdAt X.K μ H a kvs) (rk : Rep X.K μ H (nkD k) (.ref b)) (hc : nget kvs k = some c)
    (h : ∀ w' s', Inv X pins σ H s' → RelV (.int c) w' → Q w' s') : wpAny (model X.prog X.w) A (getItem (.ref a) (.ref b)) Q E s := by
  obtain ⟨xs, rr, dd, nd, l, m⟩ := N.dict (P := X.prog) (w := X.w) I.hok I.kIn
  have g := nrep_get k rr
  rw [hc] at g
  obtain ⟨p, hp, hr⟩ := g
  exact wpAny_getItem_heap (knd := nestedKind X.prog X.w) (k := nkK k) (show A.units + 1 + 8 < cLine by omega) (nk_is I.hok I.kIn rk) dd hp (h _ _ (I.tok _) hr)
/-- len(d) -/
theorem n_len {Q : Value → Shared → Prop} (I : Inv X pins σ H s) (N : NdAt X.K μ H a kvs) (h : ∀ t s', Inv X pins σ H s' → Q (.int kvs.length t) s') : wpAny (model X.prog X.w) A (call (.builtin "len") [.ref a]) Q E s := by
  obtain ⟨xs, rr, dd, nd, l, m⟩ := N.dict (P := X.prog) (w := X.w) I.hok I.kIn
  refine call_len_dictH m dd (by rw [← NRep.length rr]; rw [sizeLine_eq] at l; omega) ?_
  rw [← NRep.length rr]
  exact h _ _ (I.tok _)
end
theorem ints_of : ∀ {l : List D} {r : List Int}, l.mapM intD = some r → l = r.map .int
  | [], r, h => by
    have h : some [] = some r := by simpa using h
    cases h
    rfl
  | d :: l, r, h => by
    rw [List.mapM_cons] at h
    cases d with
    | int i =>
      cases q : l.mapM intD with
      | none => rw [q] at h; cases h
      | some r' =>
        rw [q] at h
        have h : some (i :: r') = some r := h
        cases h
        rw [List.map_cons, ints_of q]
    | _ => cases h
theorem nkOf_eq {d : D} {k : Nk} (h : nkOf d = some k) : d = nkD k := by
  unfold nkOf at h
  split at h
  · rename_i m l
    cases q : l.mapM intD with
    | none => rw [q] at h; cases h
    | some r =>
      rw [q] at h
      cases h
      rw [ints_of q]
      rfl
  · cases h
theorem intD_eq {d : D} {c : Int} (h : intD d = some c) : d = .int c := by
  cases d with
  | int i => cases h; rfl
  | _ => cases h
section
variable {X : Cx} {μ : List Addr} {H : Hp}
theorem nk_ref {k : Nk} {y : V} (r : Rep X.K μ H (nkD k) y) : ∃ b, y = .ref b := by
  have r' : Rep X.K μ H (.tup [.int k.1, .tup (k.2.map .int)]) y := r
  cases r'
  exact ⟨_, rfl⟩
/-- d[k], a dict with such keys -/
theorem ix_nd (hu : X.A.units + 60 < cLine) : IxR X (fun x y H Q => ∃ a b kvs k c μ, x = .ref a ∧ y = .ref b ∧ NdAt X.K μ H a kvs ∧ Rep X.K μ H (nkD k) (.ref b) ∧ nget kvs k = some c ∧ Q (.int c) H) := by
  rintro value slice pins s σ H x y v u Q I rx ry ⟨a, b, kvs, k, c, μ, rfl, rfl, N, rk, hc, q⟩ hs
  obtain rfl : v = Value.ref a := rx
  obtain rfl : u = Value.ref b := ry
  obtain ⟨xs, rr, dd, _⟩ := N.dict (P := X.prog) (w := X.w) I.hok I.kIn
  refine PyProof.Rows.tail_any dd.typeIs PySem.F.slot_dict_getitem.lookup (n_ix hu I N rk hc fun w' s3 I3 rw' => ?_) hs
  exact ⟨.int c, H, I3, rw', q⟩
end
end VM
namespace VM
open PySem L2 PySem.Spec PyProof.Rows
/-- a key's place and its number, of each entry -/
def VsOf : List (Addr × Int) → List (NestedKey × Addr × Value) → Prop := Paired fun p x => x.2.1 = p.1 ∧ RelV (.int p.2) x.2.2
theorem nrep_vs {K : PySem.W.Frag} {μ : List Addr} {H : Hp} : ∀ {kvs : List (Nk × Int)} {xs : List (NestedKey × Addr × Value)}, NRep K μ H kvs xs → ∃ vs : List (Addr × Int), VsOf vs xs ∧ Paired (fun (p : Nk × Int) (v : Addr × Int) => Rep K μ H (nkD p.1) (.ref v.1) ∧ v.2 = p.2) kvs vs
  | _, _, .nil => ⟨[], .nil, .nil⟩
  | p :: kvs, x :: xs, .cons q t => by
    obtain ⟨vs, h1, h2⟩ := nrep_vs t
    exact ⟨(x.2.1, p.2) :: vs, .cons ⟨rfl, q.2.2⟩ h1, .cons ⟨q.2.1, rfl⟩ h2⟩
/-- the pairs, each a new tuple -/
def ItN (d : Addr) (o : PySem.Obj) (xs : List (NestedKey × Addr × Value)) (vs : List (Addr × Int)) : It :=
  ⟨fun i H => H d = some (.frz o (.ext (NdP d xs))) ∧ i < vs.length, fun i H x H' => ∃ T b c, vs[i]? = some (b, c) ∧ x = .ref T ∧ H T = none ∧ H' = upd H T (.tup [.ref b, .int c]), fun i H => H d = some (.frz o (.ext (NdP d xs))) ∧ vs.length ≤ i⟩
theorem vs_get : ∀ {vs : List (Addr × Int)} {xs : List (NestedKey × Addr × Value)}, VsOf vs xs → ∀ {i : Nat} {p : Addr × Int}, vs[i]? = some p → ∃ x, xs[i]? = some x ∧ x.2.1 = p.1 ∧ RelV (.int p.2) x.2.2
  | _, _, .nil, _, _, h => by simp at h
  | _, _, .cons q t, 0, p, h => by
    cases h
    exact ⟨_, rfl, q⟩
  | _, _, .cons q t, i + 1, p, h => vs_get t (i := i) (by simpa using h)
section
variable {X : Cx} {pins : List (Addr × PySem.Obj)} {σ : L2.St} {H : Hp} {s : Shared} {d : Addr} {o : PySem.Obj} {xs : List (NestedKey × Addr × Value)} {vs : List (Addr × Int)}
theorem frzN (I : Inv X pins σ H s) (hv : VsOf vs xs) (h : H d = some (.frz o (.ext (NdP d xs)))) : (d == sysModules) = false ∧ s.heap.get? d = some o ∧ o.ExactDict ∧ ∃ (es : Array DictEntry) (ep : Nat), o.data = .dict es ep ∧ es.size = vs.length ∧
    ∀ (i : Nat) (b : Addr) (c : Int), vs[i]? = some (b, c) → ∃ en : DictEntry, es[i]? = some en ∧ en.key = .ref b ∧ RelV (.int c) en.val := by
  obtain ⟨hd, ⟨⟨hs, hl⟩, w0, o', es, ep, ho, hx, hdt, he⟩, _⟩ := I.hok d _ h
  rw [hd] at ho
  cases ho
  refine ⟨hs, hd, hx, es, ep, hdt, ?_, fun i b c e => ?_⟩
  · have l1 := congrArg List.length he
    rw [Array.length_toList, List.length_map] at l1
    have l2 : vs.length = xs.length := Paired.length hv
    omega
  · obtain ⟨x, hx1, hx2, hx3⟩ := vs_get hv e
    refine ⟨⟨x.1.hash w0, .ref x.2.1, x.2.2⟩, ?_, by show Value.ref x.2.1 = .ref b; rw [hx2], hx3⟩
    rw [← Array.getElem?_toList, he, List.getElem?_map, hx1]
    rfl
end
section
variable {P : Program} {w : World} {K : PySem.W.Frag} {d : Addr} {o : PySem.Obj} {es : Array DictEntry} {ep : Nat} {xs : List (NestedKey × Addr × Value)} {vs : List (Addr × Int)}
theorem turn_itemsN {elts : List Expr} {kk : Nat} {tpos : Pos} (it : Addr) (hod : o.data = .dict es ep) (hv : VsOf vs xs) : Turn P w K (.Tuple elts kk tpos) (ItN d o xs vs) [it] it (fun i h => ∃ ok ov, IsItemIter h it d i vs.length ep ok ov) where
  mem := by simp
  obj := fun i h st b hb => by
    have e : b = it := by simpa using hb
    subst e
    obtain ⟨ok, ov, e⟩ := st
    exact ⟨_, e, fun v z => nomatch z⟩
  keep := fun i h h' st k => let ⟨ok, ov, e⟩ := st; ⟨ok, ov, k it (by simp) _ e⟩
  item := by
    intro X hP hw hK hc i pins s σ H E I hf st hg
    subst hP hw hK
    obtain ⟨hd, hi⟩ := hg
    obtain ⟨hs, hgd, hx, es', ep', hdt, hsz, ent⟩ := frzN I hv hd
    obtain ⟨rfl, rfl⟩ := dict_ep hod hdt
    obtain ⟨⟨b, c⟩, hbc⟩ : ∃ p, vs[i]? = some p := ⟨vs[i], List.getElem?_eq_getElem hi⟩
    obtain ⟨en, hen, hkey, hval⟩ := ent i b c hbc
    obtain ⟨ok, ov, he⟩ := st
    rw [← hsz] at he
    have hlt : it < s.heap.objs.size := Heap.lt_size he
    have hie : i < es'.size := by rw [hsz]; exact hi
    have een : es'[i] = en := by
      have q := hen
      rw [Array.getElem?_eq_getElem hie] at q
      exact Option.some.inj q
    refine DT.nextI he ⟨o, hgd, hx, hdt⟩ hie fun h' ho hT hz hk => ?_
    refine ⟨_, rfl, wpAny_letOwnedTupleGo_items (s := { s with heap := h' }) ho fun h'' he' sb => ?_⟩
    rw [een] at hT he'
    have hT2 : h''.get? s.heap.objs.size = some { cls := .type "tuple", data := .seq #[en.key, en.val] } := (sb.2 _ (Nat.ne_of_gt hlt)).trans hT
    have new : ObjOk X.prog X.w (upd H s.heap.objs.size (.tup [.ref b, .int c])) h'' s.heap.objs.size (.tup [.ref b, .int c]) :=
      ⟨by show 2 ≤ sizeLine; decide, [en.key, en.val], .cons hkey (.cons hval .nil), ⟨_, hT2, rfl, _, rfl⟩⟩
    have I1 : Inv X pins σ (upd H s.heap.objs.size (.tup [.ref b, .int c])) { s with heap := h'' } :=
      I.turnedNew (t' := s.toks) (ch := [it]) (fun b ob hb e => (sb.2 b (by simpa using hb)).trans (hk b ob (by simpa using hb) e)) hf (Nat.le_refl _) new
    refine ⟨.ref s.heap.objs.size, _, I1, rfl, ⟨_, b, c, hbc, rfl, I.hok.fresh (Nat.le_refl _), rfl⟩, ⟨en.key, en.val, ?_⟩, fun b hb => ?_⟩
    · rw [← hsz]; exact he'
    · have e : b = it := by simpa using hb
      rw [e, upd_ne (Nat.ne_of_lt hlt)]
      exact (hf it (by simp)).1
  done := by
    intro X hP hw hK hc i pins s σ H E I hf st hg
    subst hP hw hK
    obtain ⟨hd, hi⟩ := hg
    obtain ⟨f0, f1, f2, f3, f4, f5⟩ := hf it (by simp)
    obtain ⟨hs, hgd, hx, es', ep', hdt, hsz, ent⟩ := frzN I hv hd
    obtain ⟨rfl, rfl⟩ := dict_ep hod hdt
    obtain ⟨ok, ov, he⟩ := st
    rw [← hsz] at he
    exact DT.endI (I.ok.hd hc) he ⟨o, hgd, hx, hdt⟩ (by omega) fun h' eb => ⟨rfl, I.turned (t' := s.toks) (fun b ob hb e => eb b ob hb e) f0 f1 f3 f4 f5⟩
  self := fun A i s Q E st h => let ⟨_, _, e⟩ := st; PySem.W.kcp_self e h
end
/-- the dict is locked; the empty one may be a dict of any keys -/
def iItemsN (td : TE) : TI := fun σ H R => td σ H fun x H1 => ∃ d o, x = .ref d ∧ ((∃ xs vs, H1 d = some (.frz o (.ext (NdP d xs))) ∧ VsOf vs xs ∧ R (ItN d o xs vs) H1) ∨ (H1 d = some (.frz o (.dK [])) ∧ R (Iti d o []) H1))
theorem pi_itemsN {X : Cx} {e : Expr} {td : TE} {apos cpos : Pos} {elts : List Expr} {kk : Nat} {tpos : Pos} (he : PE X e td) (hbase : attributeBase e "items" X.env (eval e X.env) = eval e X.env) (hline : (apos.endLine == cpos.line) = true) :
    PI X (.Tuple elts kk tpos) (.Call (.Attribute e "items" apos) [] [] cpos) (iItemsN td) := by
  refine ⟨fun pins s σ H R I h => ?_⟩
  refine wpAny_Call_method (T := "dict") (id := "dict.items") hbase rfl hline F.plainAttrs_dict F.slot_dict_items F.type_dict_items (thn (he.run pins s σ H _ I h) fun u s1 ⟨x, H1, I1, rx, d, o, ex, hd⟩ => ?_)
  subst ex
  obtain rfl : u = Value.ref d := rx
  have I2 : Inv X pins σ H1 { s1 with heap := s1.heap.push { cls := .type "dict_items", data := .fields #[.ref d] } } := I1.kept (t' := s1.toks) fun b ob q => Heap.get?_push_of_some _ q
  rcases hd with ⟨xs, vs, hd, hv, q⟩ | ⟨hd, q⟩
  · obtain ⟨hs, hgd, hx, es, ep, hdt, hsz, ent⟩ := frzN I1 hv hd
    have raw : DT.Raw s1.heap d es ep := ⟨o, hgd, hx, hdt⟩
    refine ⟨raw.typeIs, fun b z => by cases z; exact ⟨o, hgd, hx.2.1⟩, ?_⟩
    have fin : wpAny (model X.prog X.w) X.A (pyIter (.ref s1.heap.objs.size)) (PIE X pins σ (.Tuple elts kk tpos) R) X.xe { s1 with heap := s1.heap.push { cls := .type "dict_items", data := .fields #[.ref d] } } := by
      refine DT.iterI (d := d) (es := es) (ep := ep) ⟨_, Heap.get?_push_size _ rfl, rfl, rfl⟩ (raw.push _) (pi_one (tk := s1.toks) I2 _ (turn_itemsN _ hdt hv) ⟨.none, .none, ?_⟩ q)
      rw [← hsz]
      exact Heap.get?_push_size _ rfl
    show wpAny _ _ (callWith cpos (.builtin "dict.items") [.ref d] [] []) _ X.xe s1
    exact method_meetsIn F.slot_dict_items F.entry_dict_items rfl (PySem.evalArgs_none ⟨rfl, raw.typeIs, F.args_dict_items_1 _, _, DT.meetsItems (es := es) (ep := ep) hs, raw, fin⟩)
  · obtain ⟨hs, hgd, hx, es, ep, vs, hdt, hsz, kv, hm⟩ := I1.frzK hd
    have hl : ([] : List (L2.Key × V)).length = vs.length := Paired.length kv
    refine ⟨hm.dictOf.typeIs, hm.dictOf.mapOf.noDict, ?_⟩
    have fin : wpAny (model X.prog X.w) X.A (pyIter (.ref s1.heap.objs.size)) (PIE X pins σ (.Tuple elts kk tpos) R) X.xe { s1 with heap := s1.heap.push { cls := .type "dict_items", data := .fields #[.ref d] } } := by
      refine wpAny_pyIter_items (d := d) (knd := mixKind X.prog X.w) ⟨_, Heap.get?_push_size _ rfl, rfl, rfl⟩ (hm.push _) (pi_one (tk := s1.toks) I2 _ (turn_items _ hdt) ⟨.none, .none, ?_⟩ q)
      rw [hl]
      exact Heap.get?_push_size _ rfl
    show wpAny _ _ (callWith cpos (.builtin "dict.items") [.ref d] [] []) _ X.xe s1
    exact method_meetsIn F.slot_dict_items F.entry_dict_items rfl (PySem.evalArgs_none ⟨rfl, hm.dictOf.typeIs, F.args_dict_items_1 _, _, meets_dict_items (mixKind X.prog X.w) d hs, ⟨vs, hm.dictOf⟩, fin⟩)
end VM
namespace VM
open PySem L2 PySem.Spec PyProof.Rows
theorem encI_alike (p q : Nk × Int) : PySem.W.alike (encI p) (encI q) = true := by
  have h : PySem.W.alikeAll (p.1.2.map .int) (q.1.2.map .int) = true := PySem.W.alike_ints _ _
  simp [encI, encK, PySem.W.alike, PySem.W.alikeAll, h]
theorem encI_depth (p : Nk × Int) : (encI p).depth ≤ 3 := by
  have h : PyData.depthAll (p.1.2.map .int) = 0 := PySem.W.depth_ints _
  simp [encI, encK, PyData.depth, PyData.depthAll, h]
section
variable {P : Program} {w : World} {K : PySem.W.Frag} {μ : List Addr} {H : Hp} {h : Heap} {a : Addr}
theorem ints_reads (hok : HOk P w H h) : ∀ {r : List Int} {vs : List V} {us : List Value}, Reps K μ H (r.map .int) vs → Vals vs us → ReadsAll h us (r.map .int) []
  | [], _, _, .nil, .nil => .nil
  | x :: r, _, _, .cons (.int _) t, .cons q u => by
    obtain ⟨tk, rfl⟩ := (show ∃ t, _ = Value.int x t from q)
    exact .cons (as := []) (bs := []) (.int x tk) (ints_reads hok t u)
theorem nk_reads (hok : HOk P w H h) (KX : K.In h) {k : Nk} {b : Addr} (r : Rep K μ H (nkD k) (.ref b)) : Reads h (.ref b) (encK k) [] := by
  cases r with
  | tup q rs =>
    obtain ⟨its, o, n, rv, h1, h2, h3⟩ := sqT_at hok KX q
    refine .tuple h1 h2 h3 ?_
    rw [show its.toArray.toList = its from rfl]
    cases rs with
    | cons r1 rs =>
      cases rs with
      | cons r2 rs =>
        cases rs
        cases rv with
        | cons v1 rv =>
          cases rv with
          | cons v2 rv =>
            cases rv
            cases r1
            obtain ⟨tk, rfl⟩ := (show ∃ t, _ = Value.int k.1 t from v1)
            refine .cons (as := []) (bs := []) (.int _ _) (.cons (as := []) (bs := []) ?_ .nil)
            cases r2 with
            | @tup b2 vs2 _ q2 rs2 =>
              obtain ⟨its2, o2, n2, rv2, g1, g2, g3⟩ := sqT_at hok KX q2
              cases (show _ = Value.ref b2 from v2)
              refine .tuple g1 g2 g3 ?_
              rw [show its2.toArray.toList = its2 from rfl]
              exact ints_reads hok rs2 rv2
end
section
variable {X : Cx}
theorem NdAt.raw {P : Program} {w : World} {K : PySem.W.Frag} {μ : List Addr} {H : Hp} {h : Heap} {a : Addr} {kvs : List (Nk × Int)} (N : NdAt K μ H a kvs) (hok : HOk P w H h) (KX : K.In h) : ∃ xs es ep, NRep K μ H kvs xs ∧ DT.Raw h a es ep ∧ es.toList = xs.map (entryOfKey (nestedKind P w)) ∧ kvs.length ≤ sizeLine ∧ (a == sysModules) = false := by
  obtain ⟨xs, r, ⟨o, es, ep, h1, h2, h3, h4, _⟩, _, l, m⟩ := N.dict (P := P) (w := w) hok KX
  exact ⟨xs, es, ep, r, ⟨o, h1, h2, h3⟩, h4, l, m⟩
def rItemsN (X : Cx) : V → List V → Hp → VK → Prop := fun x xs H Q => ∃ (a : Addr) (kvs : List (Nk × Int)) (μ : List Addr), x = .ref a ∧ xs = [] ∧ NdAt X.K μ H a kvs ∧ ∀ p, H p = none → Q (.ref p) (upd H p (DX.itemsO p a))
theorem mt_itemsN : MtR X "dict.items" (rItemsN X) := by
  intro pins s σ H x xs v us Q I rx rxs h
  obtain ⟨a, kvs, μ, rfl, rfl, ha, q⟩ := h
  cases rx
  cases rxs
  obtain ⟨xs', es, ep, _, raw, _, _, hd⟩ := ha.raw (P := X.prog) (w := X.w) I.hok I.kIn
  refine DT.callItems (es := es) (ep := ep) hd raw ?_
  have hf : H s.heap.objs.size = none := I.hok.fresh (Nat.le_refl _)
  exact ⟨.ref s.heap.objs.size, upd H s.heap.objs.size (DX.itemsO s.heap.objs.size a), I.laid (t' := s.toks) (fun b u e => Heap.get?_push_of_some _ e) (Nat.le_refl _) (DX.itemsO_ok (Heap.get?_push_size _ rfl)), rfl, q _ hf⟩
def rSortN (X : Cx) : List V → Hp → VK → Prop := fun vs H Q => ∃ (p a : Addr) (kvs : List (Nk × Int)) (μ : List Addr), vs = [.ref p] ∧ H p = some (DX.itemsO p a) ∧ NdAt X.K μ H a kvs ∧
  ∀ (H' : Hp) (l : Addr) (ps : List (Addr × (Nk × Int))), (∀ b o, H b = some o → H' b = some o) → ps.map (·.2) = sortI kvs → H l = none → H' l = some (.lst (ps.map fun z => V.ref z.1)) →
    (∀ z ∈ ps, ∃ q, H' z.1 = some (.tup [.ref q, .int z.2.2]) ∧ Rep X.K μ H (nkD z.2.1) (.ref q)) → Q (.ref l) H'
theorem paired_at {α β : Type} {F : α → β → Prop} : ∀ {l₁ : List α} {l₂ : List β} {j : Nat} {x : α}, Paired F l₁ l₂ → l₁[j]? = some x → ∃ y, l₂[j]? = some y ∧ F x y
  | _, _, j, x, .nil, h => by simp at h
  | _, _, 0, x, .cons f _, h => by
    cases h
    exact ⟨_, rfl, f⟩
  | _, _, j + 1, x, .cons _ t, h => by
    obtain ⟨y, h1, h2⟩ := paired_at (j := j) t (by simpa using h)
    exact ⟨y, by simpa using h1, h2⟩
theorem each_zip {α β : Type} {R : α → β → Prop} : ∀ {as : List α} {bs : List β}, as.length = bs.length → (∀ (j : Nat) (a : α) (b : β), as[j]? = some a → bs[j]? = some b → R a b) → W.EachIs R as bs
  | [], [], _, _ => .nil
  | [], _ :: _, h, _ => by cases h
  | _ :: _, [], h, _ => by cases h
  | a :: as, b :: bs, h, k => .cons (k 0 a b rfl rfl) (each_zip (by simpa using h) fun j x y hx hy => k (j + 1) x y (by simpa using hx) (by simpa using hy))
theorem each_out {α : Type} : ∀ {out : List Value} {zs : List (Addr × α)}, W.EachIs (fun v z => v = Value.ref z.1) out zs → out = zs.map fun z => Value.ref z.1
  | _, _, .nil => rfl
  | _, _, .cons h t => by rw [List.map_cons, h, each_out t]
theorem cr_sortedN (hc : X.calm = true) (hu : X.A.units + 64 < cLine) : CallR X (.builtin "sorted") (rSortN X) := by
  intro pins s σ H xs us Q I r h
  obtain ⟨p, a, kvs, μ, rfl, hp, ha, q⟩ := h
  obtain rfl := Vals.ref1 r
  have view : s.heap.IsItemsView p a := (show ObjOk X.prog X.w H s.heap p (DX.itemsO p a) from I.hok p _ hp).1
  obtain ⟨xs', es, ep, rel, raw, hes, hL, hd⟩ := ha.raw (P := X.prog) (w := X.w) I.hok I.kIn
  have l1 : kvs.length = xs'.length := NRep.length rel
  have l2 : es.size = xs'.length := size_of_entries hes
  have hh : X.A.handled = none := I.ok.hd hc
  refine DT.sortedI (es := es) (ep := ep) hh view raw (by omega) fun h' tk as hk hlt hl hG => ?_
  have lak : as.length = kvs.length := by omega
  have nd : as.Nodup := List.Pairwise.imp (fun h => Nat.ne_of_lt h) hG.rise
  -- the pairs that were made
  have pr : ∀ (j : Nat) (b : Addr), as[j]? = some b → ∃ (e : Nk × Int) (kq : Addr) (cv : Value), kvs[j]? = some e ∧ Rep X.K μ H (nkD e.1) (.ref kq) ∧ RelV (.int e.2) cv ∧ h'.get? b = some { cls := .type "tuple", data := .seq #[Value.ref kq, cv] } := by
    intro j b hj
    obtain ⟨en, he, hg⟩ := hG.pairs j b hj
    rw [entry_at hes j] at he
    cases hxj : xs'[j]? with
    | none =>
      rw [hxj] at he
      exact nomatch (show (none : Option DictEntry) = some en from he)
    | some x =>
      rw [hxj] at he
      have een : entryOfKey (nestedKind X.prog X.w) x = en := Option.some.inj he
      obtain ⟨e, he0, r1, r2, r3⟩ := DX.pget rel hxj
      refine ⟨e, x.2.1, x.2.2, he0, r2, r3, ?_⟩
      rw [hg, ← een]
      all_goals rfl
  -- the heap of the sort
  have hob : (h'.push { cls := .type "list", data := .seq (as.map Value.ref).toArray }).get? h'.objs.size = some (seqObj "list" (as.map Value.ref).toArray 0) := Heap.get?_push_size _ rfl
  have kb : ∀ b o, s.heap.get? b = some o → (h'.push { cls := .type "list", data := .seq (as.map Value.ref).toArray }).get? b = some o := fun b o e => Heap.get?_push_of_some _ (hk b o e)
  have ne0 : ∀ b o, h'.get? b = some o → b ≠ h'.objs.size := fun b o e => Nat.ne_of_lt (Heap.lt_size e)
  generalize hh2 : h'.push { cls := .type "list", data := .seq (as.map Value.ref).toArray } = h2 at hob kb ⊢
  have ka : ∀ b o, h'.get? b = some o → h2.get? b = some o := fun b o e => by rw [← hh2]; exact Heap.get?_push_of_some _ e
  have I2 : Inv X pins σ H { s with heap := h2, toks := tk } := I.kept (t' := tk) kb
  have rd : ∀ (j : Nat) (b : Addr), as[j]? = some b → ∃ e : Nk × Int, kvs[j]? = some e ∧ Reads h2 (.ref b) (encI e) [] := by
    intro j b hj
    obtain ⟨e, kq, cv, he, hkq, hcv, hg⟩ := pr j b hj
    obtain ⟨t, rfl⟩ := (show ∃ t, cv = Value.int e.2 t from hcv)
    refine ⟨e, he, .tuple (ka _ _ hg) rfl rfl ?_⟩
    exact .cons (as := []) (bs := []) (nk_reads I2.hok I2.kIn hkq) (.cons (as := []) (bs := []) (.int _ _) .nil)
  -- the pairs beside what they are
  have lz : (as.zip kvs).length = kvs.length := by rw [List.length_zip, lak]; omega
  have ez : ∀ (j : Nat) (v : Value) (z : Addr × (Nk × Int)), (as.map Value.ref)[j]? = some v → (as.zip kvs)[j]? = some z → v = Value.ref z.1 ∧ Reads h2 v (encI z.2) [] := by
    intro j v z hv hz
    obtain ⟨z1, z2⟩ := List.getElem?_zip_eq_some.mp hz
    rw [List.getElem?_map, z1] at hv
    cases hv
    obtain ⟨e, he, hr⟩ := rd j z.1 z1
    rw [z2] at he
    cases he
    exact ⟨rfl, hr⟩
  have e1 : W.EachIs (fun v z => v = Value.ref z.1) (as.map Value.ref) (as.zip kvs) := each_zip (by rw [List.length_map, lz, lak]) fun j v z hv hz => (ez j v z hv hz).1
  have e2 : W.EachIs (fun v z => ∃ bs, Reads h2 v (encI z.2) bs ∧ h'.objs.size ∉ bs) (as.map Value.ref) (as.zip kvs) := each_zip (by rw [List.length_map, lz, lak]) fun j v z hv hz => ⟨[], (ez j v z hv hz).2, by simp⟩
  refine W.list_sort_data (s := { s with heap := h2, toks := tk }) (R := fun v z => v = Value.ref z.1) (enc := fun z : Addr × (Nk × Int) => encI z.2) hob e1 e2 (W.AllAlike.of fun x y => encI_alike x.2 y.2) (W.Sortable.tuples fun x => ⟨_, _, rfl⟩) (by rw [lz]; exact hL) (fun z _ => by have := encI_depth z.2; show X.A.units + 1 + 1 + (encI z.2).depth < cLine; omega) fun out ho eo => ?_
  have hout := each_out eo
  generalize hzs : (as.zip kvs).mergeSort (W.dataLe false fun z => encI z.2) = zs at hout
  have pz : zs.Perm (as.zip kvs) := by rw [← hzs]; exact List.mergeSort_perm _ _
  have hsnd : zs.map (·.2) = sortI kvs := by
    rw [← hzs]
    unfold sortI
    rw [List.map_mergeSort (r := W.dataLe false fun z : Addr × (Nk × Int) => encI z.2) (s := W.dataLe false encI) (f := (·.2)) (fun _ _ _ _ => rfl), List.map_snd_zip (by rw [lak]; exact Nat.le_refl _)]
  have idx : ∀ z ∈ zs, ∃ j : Nat, as[j]? = some z.1 ∧ kvs[j]? = some z.2 := by
    intro z' hz'
    obtain ⟨j, hj⟩ := List.mem_iff_getElem?.mp (pz.mem_iff.mp hz')
    exact ⟨j, List.getElem?_zip_eq_some.mp hj⟩
  -- behind the sort
  have kF : ∀ b o, b ≠ h'.objs.size → h2.get? b = some o → (sortedHeap h2 h'.objs.size (as.map Value.ref) (List.toArray out)).get? b = some o := fun b o hb e => (PyProof.Rows.sortedHeap_old hb (Heap.lt_size e)).trans e
  have kS : ∀ b o, s.heap.get? b = some o → (sortedHeap h2 h'.objs.size (as.map Value.ref) (List.toArray out)).get? b = some o := fun b o e => kF b o (ne0 _ _ (hk b o e)) (kb b o e)
  obtain ⟨eF, heF⟩ := PyProof.Rows.sortedHeap_at (vs := as.map Value.ref) (out := List.toArray out) hob
  have I3 : Inv X pins σ H { s with heap := sortedHeap h2 h'.objs.size (as.map Value.ref) (List.toArray out), toks := tk } := I.kept (t' := tk) kS
  have hn0 : H h'.objs.size = none := I.hok.fresh (Nat.le_of_lt hlt)
  have lzs : zs.length = kvs.length := by rw [pz.length_eq, lz]
  have hlen : (zs.map fun z => V.ref z.1).length ≤ sizeLine := by rw [List.length_map, lzs]; exact hL
  have rv : Vals (zs.map fun z => V.ref z.1) out := by
    rw [hout]
    exact vals_maps (fun z : Addr × (Nk × Int) => V.ref z.1) (fun z => Value.ref z.1) zs fun _ _ => rfl
  have I4 : Inv X pins σ (upd H h'.objs.size (.lst (zs.map fun z => V.ref z.1))) { s with heap := sortedHeap h2 h'.objs.size (as.map Value.ref) (List.toArray out), toks := tk } :=
    I3.take (h' := sortedHeap h2 h'.objs.size (as.map Value.ref) (List.toArray out)) (t' := tk) (fun b ob _ e => e) (I.fpOk (Nat.le_of_lt hlt) hn0) ⟨hlen, out, eF, rv, heF⟩
  obtain ⟨H2, I5, g, qt⟩ := DX.takeT (P := fun b vs => ∃ (j : Nat) (e : Nk × Int) (kq : Addr), as[j]? = some b ∧ kvs[j]? = some e ∧ vs = [.ref kq, .int e.2] ∧ Rep X.K μ H (nkD e.1) (.ref kq)) I as _ I4 nd fun b hb => by
    obtain ⟨j, hj⟩ := List.mem_iff_getElem?.mp hb
    obtain ⟨e, kq, cv, he, hkq, hcv, hg⟩ := pr j b hj
    have hbl : s.heap.objs.size ≤ b := Nat.le_of_lt (hG.above b hb)
    refine ⟨hbl, ?_, [.ref kq, .int e.2], ⟨j, e, kq, hj, he, rfl, hkq⟩, fun H3 => ⟨(by rw [sizeLine_eq]; show 2 ≤ 16777216; omega), [Value.ref kq, cv], .cons rfl (.cons hcv .nil), ⟨_, kF _ _ (ne0 _ _ hg) (ka _ _ hg), rfl, 0, rfl⟩⟩⟩
    rw [upd_ne (ne0 _ _ hg)]
    exact I.hok.fresh hbl
  have gr : ∀ b o, H b = some o → H2 b = some o := fun b o e => g b o (by rw [upd_ne (ne_of_none e hn0)]; exact e)
  refine ⟨.ref h'.objs.size, H2, I5, rfl, q H2 h'.objs.size zs gr hsnd hn0 (g _ _ upd_same) fun z' hz' => ?_⟩
  obtain ⟨i, i1, i2⟩ := idx z' hz'
  obtain ⟨vs, ⟨j, e, kq, j1, j2, ev, hkq⟩, hH⟩ := qt z'.1 (List.mem_of_getElem? i1)
  have eij : i = j := (List.getElem?_inj (List.getElem?_eq_some_iff.mp i1).1 nd).mp (i1.trans j1.symm)
  subst eij
  have ee : e = z'.2 := Option.some.inj (j2.symm.trans i2)
  rw [ev, ee] at hH
  rw [ee] at hkq
  exact ⟨kq, hH, hkq⟩
end
end VM
set_option maxHeartbeats 1000000
namespace VM
open PySem L2
def W0 : Nat → Hp → Prop := fun _ _ => False
/-- an operation of two values, by the interpreter's f -/
def rM (K : PySem.W.Frag) (f : D → D → M D) : R2 := fun x y H Q => ∃ μ S d e, Cor K μ S H ∧ Rep K μ H d x ∧ Rep K μ H e y ∧ Pst K μ H (f d e S) (fun z _ μ' H' => ∀ v, Rep K μ' H' z v → Q v H') W0
section
variable {X : Cx} {μ : List Addr} {S : Store} {H : Hp} {Q : VK}
theorem Pst.done {z : D} {K : PySem.W.Frag} (c : Cor K μ S H) (h : Pst K μ H (ret z S) (fun z _ μ' H' => ∀ v, Rep K μ' H' z v → Q v H') W0) {v : V} (r : Rep K μ H z v) : Q v H := Pst.now c h v r
theorem Pst.ite {α : Type} {K : PySem.W.Frag} {b : Prop} [Decidable b] {m : M α} {R : α → Store → List Addr → Hp → Prop} {Wx : Nat → Hp → Prop} (h : Pst K μ H ((if b then m else bad) S) R Wx) : b ∧ Pst K μ H (m S) R Wx := by
  by_cases hb : b
  · rw [if_pos hb] at h
    exact ⟨hb, h⟩
  · rw [if_neg hb] at h
    exact h.elim
/-- a new object is laid -/
theorem Pst.newO {K : PySem.W.Frag} {o : Obj} {p : Addr} {u : HO} (c : Cor K μ S H) (hp : H p = none) (h : Pst K μ H (new o S) (fun z _ μ' H' => ∀ v, Rep K μ' H' z v → Q v H') W0)
    (ho : ∀ μ' H', Ext K μ H μ' H' → H' p = some u → ObjR K μ' H' p o) : Q (.ref p) (upd H p u) := by
  obtain ⟨e, c2⟩ := c.new hp ho
  refine h _ _ c2 e (.ref p) (.ref ?_)
  rw [← c.len, List.getElem?_append_right (Nat.le_refl _), Nat.sub_self]
  rfl
theorem pst_lst {α : Type} {K : PySem.W.Frag} {n : Nat} {a : Addr} {f : List D → M α} {R : α → Store → List Addr → Hp → Prop} {Wx : Nat → Hp → Prop} (c : Cor K μ S H) (ha : μ[n]? = some a) (h : Pst K μ H (bnd (lstOf n) f S) R Wx) :
    ∃ l vs, SqL K H a vs ∧ Reps K μ H l vs ∧ Pst K μ H (f l S) R Wx := by
  obtain ⟨o, h1, h2⟩ := c.obj' ha
  unfold bnd lstOf at h
  rw [h1] at h
  cases o with
  | lst l => obtain ⟨vs, q, r⟩ := h2; exact ⟨l, vs, SqL.of q, r, h⟩
  | ro l => obtain ⟨vs, ob, q, r⟩ := h2; exact ⟨l, vs, .inl (.inr ⟨ob, q⟩), r, h⟩
  | dk kvs => exact h.elim
  | fk kvs => exact h.elim
  | ins q c fs => exact h.elim
  | nd _ => exact h.elim
  | nf _ => exact h.elim
theorem pst_mut {α : Type} {K : PySem.W.Frag} {n : Nat} {a : Addr} {f : List D → M α} {R : α → Store → List Addr → Hp → Prop} {Wx : Nat → Hp → Prop} (c : Cor K μ S H) (ha : μ[n]? = some a) (h : Pst K μ H (bnd (mutOf n) f S) R Wx) :
    ∃ l vs, H a = some (.lst vs) ∧ Reps K μ H l vs ∧ Pst K μ H (f l S) R Wx := by
  obtain ⟨o, h1, h2⟩ := c.obj' ha
  unfold bnd mutOf at h
  rw [h1] at h
  cases o with
  | lst l => obtain ⟨vs, q, r⟩ := h2; exact ⟨l, vs, q, r, h⟩
  | ro l => exact h.elim
  | dk kvs => exact h.elim
  | fk kvs => exact h.elim
  | ins q c fs => exact h.elim
  | nd _ => exact h.elim
  | nf _ => exact h.elim
/-- an object of the store is written -/
theorem pst_put {α : Type} {K : PySem.W.Frag} {n : Nat} {a : Addr} {o : Obj} {u : HO} {f : Unit → M α} {R : α → Store → List Addr → Hp → Prop} {Wx : Nat → Hp → Prop} (c : Cor K μ S H) (ha : μ[n]? = some a) (h : Pst K μ H (bnd (put n o) f S) R Wx)
    (hf : ∀ ob u, H a ≠ some (.frz ob u)) (ho : ∀ H', Ext K μ H μ H' → H' a = some u → ObjR K μ H' a o) : Ext K μ H μ (upd H a u) ∧ Cor K μ (S.set n o) (upd H a u) ∧ Pst K μ (upd H a u) (f () (S.set n o)) R Wx := by
  obtain ⟨e, c2⟩ := c.write ha hf ho
  exact ⟨e, c2, Pst.ext h e⟩
end
def bopR : BOp → Operator
  | .add => .Add | .sub => .Sub | .mul => .Mult | .fdiv => .FloorDiv | .mod => .Mod | .pow => .Pow
section
variable {X : Cx} {μ : List Addr} {S : Store} {H : Hp} {Q : VK}
theorem mulOk_C {i j : Int} (h : mulOk i j = true) : CMul i j := by
  unfold mulOk at h
  simp only [Bool.or_eq_true, Bool.and_eq_true, decide_eq_true_eq] at h
  exact h
theorem opB_ok (o : BOp) : OpR X (binaryOp (bopR o)) (rM X.K (opB o)) := by
  intro pins s σ H x y v u Q I rx ry ⟨μ, S, d, e, c, rd, re, h⟩
  cases rd with
  | int i =>
    cases re with
    | int j =>
      cases o with
      | add => exact op_add pins s σ H _ _ v u Q I rx ry ⟨i, j, rfl, rfl, Pst.done c h (.int _)⟩
      | sub => exact op_sub pins s σ H _ _ v u Q I rx ry ⟨i, j, rfl, rfl, Pst.done c h (.int _)⟩
      | mul =>
        obtain ⟨hb, h⟩ := Pst.ite h
        exact op_mul pins s σ H _ _ v u Q I rx ry ⟨i, j, rfl, rfl, mulOk_C hb, Pst.done c h (.int _)⟩
      | fdiv =>
        obtain ⟨hb, h⟩ := Pst.ite h
        simp only [Bool.and_eq_true, decide_eq_true_eq] at hb
        exact op_fdiv pins s σ H _ _ v u Q I rx ry ⟨i, j, rfl, rfl, hb, Pst.done c h (.int _)⟩
      | mod =>
        obtain ⟨hb, h⟩ := Pst.ite h
        exact op_mod pins s σ H _ _ v u Q I rx ry ⟨i, j, rfl, rfl, of_decide_eq_true hb, Pst.done c h (.int _)⟩
      | pow =>
        obtain ⟨hb, h⟩ := Pst.ite h
        simp only [Bool.and_eq_true, decide_eq_true_eq] at hb
        exact op_pow pins s σ H _ _ v u Q I rx ry ⟨i, j, rfl, rfl, ⟨hb.1.1, hb.1.2, hb.2⟩, Pst.done c h (.int _)⟩
    | _ => cases o <;> exact h.elim
  | str a =>
    cases re with
    | str b =>
      cases o with
      | add =>
        obtain ⟨hb, h⟩ := Pst.ite h
        exact op_add_str pins s σ H _ _ v u Q I rx ry ⟨_, _, rfl, rfl, by rw [st_len, st_len, ← big_eq]; exact hb, Pst.done c h (by rw [st_app]; exact .str _)⟩
      | _ => exact h.elim
    | int j =>
      cases o with
      | mul =>
        match a, h with
        | [], h => exact h.elim
        | _ :: _ :: _, h => exact h.elim
        | [c'], h =>
          obtain ⟨hb, h⟩ := Pst.ite h
          obtain ⟨t, rfl⟩ := (show ∃ t, v = Value.str (st [c']) t from rx)
          obtain ⟨t2, rfl⟩ := (show ∃ t, u = Value.int j t from ry)
          have q : ∀ z : List Nat, z = List.replicate j.toNat c' → Q (.str (st z)) H := fun z hz => by
            subst hz
            exact Pst.done c h (.str _)
          have hj : j = 0 ∨ j = 1 ∨ j = 2 ∨ j = 3 := by omega
          have hlen : (st [c']).length = 1 := rfl
          rcases hj with rfl | rfl | rfl | rfl
          · exact PySem.P.mul_str (by decide) (fun z => absurd (by decide) z) (fun z => absurd (by decide) z) ⟨by decide, .str _, H, I.tok _, ⟨_, rfl⟩, q [] rfl⟩
          · exact PySem.P.mul_str (by decide) (fun _ z => by cases z) (fun _ z => by cases z) ⟨.str _, H, I, ⟨_, rfl⟩, q [c'] rfl⟩
          · exact PySem.P.mul_str (by decide) (fun _ _ => by rw [hlen]; decide) (fun _ _ => by rw [hlen]; decide +kernel) ⟨by show (2 : Nat) ≤ sizeLine; rw [sizeLine_eq]; decide, .str _, H, I.tok _, ⟨_, rfl⟩, q [c', c'] rfl⟩
          · exact PySem.P.mul_str (by decide) (fun _ _ => by rw [hlen]; decide) (fun _ _ => by rw [hlen]; decide +kernel) ⟨by show (3 : Nat) ≤ sizeLine; rw [sizeLine_eq]; decide, .str _, H, I.tok _, ⟨_, rfl⟩, q [c', c', c'] rfl⟩
      | _ => exact h.elim
    | _ => cases o <;> exact h.elim
  | @tup p vs ds q r =>
    cases re with
    | @tup p2 vs2 ds2 q2 r2 =>
      cases o with
      | add =>
        obtain ⟨hb, h⟩ := Pst.ite h
        refine op_catA pins s σ H _ _ v u Q I rx ry ⟨p, p2, vs, vs2, rfl, rfl, q, q2, by rw [← r.length, ← r2.length, ← big_eq]; exact hb, fun e => ?_, fun _ e => ?_, fun _ _ n hn => ?_⟩
        · subst e
          cases r
          exact Pst.done c h (.tup q2 r2)
        · subst e
          cases r2
          rw [List.append_nil] at h
          exact Pst.done c h (.tup q r)
        · obtain ⟨e, c2⟩ := c.side (u := .tup (vs ++ vs2)) hn
          exact h _ _ c2 e _ (.tup (SqT.of upd_same) ((r.append r2).ext e))
      | _ => exact h.elim
    | _ => cases o <;> exact h.elim
  | @ref n a hn =>
    cases re with
    | @ref m b hm =>
      cases o with
      | add =>
        obtain ⟨l, vs, q, r, h⟩ := pst_mut c hn h
        obtain ⟨l2, vs2, q2, r2, h⟩ := pst_mut c hm h
        obtain ⟨hb, h⟩ := Pst.ite h
        refine op_cat pins s σ H _ _ v u Q I rx ry ⟨a, b, vs, vs2, rfl, rfl, q, q2, by rw [← r.length, ← r2.length, ← big_eq]; exact hb, fun p hp => ?_⟩
        exact Pst.newO c hp h fun μ' H' e z => ⟨_, z, (r.append r2).ext e⟩
      | _ => exact h.elim
    | _ => cases o <;> exact h.elim
  | _ => cases o <;> exact h.elim
theorem mapM_some {α β : Type} {f : α → Option β} : ∀ {l : List α} {r : List β}, l.mapM f = some r → Paired (fun a b => f a = some b) l r
  | [], r, h => by
    simp at h
    subst h
    exact .nil
  | a :: l, r, h => by
    rw [List.mapM_cons] at h
    cases q : f a with
    | none => rw [q] at h; cases h
    | some b =>
      rw [q] at h
      cases q2 : l.mapM f with
      | none => simp [q2] at h
      | some r2 =>
        simp [q2] at h
        subst h
        exact .cons q (mapM_some q2)
theorem dpAll_of {K : PySem.W.Frag} {f : D → Option PyData} (ih : ∀ d v p, Rep K μ H d v → f d = some p → Dp K H v p) : ∀ {ds : List D} {vs : List V} {ps : List PyData}, Reps K μ H ds vs → Paired (fun a b => f a = some b) ds ps → DpAll K H vs ps
  | _, _, _, .nil, .nil => .nil
  | _, _, _, .cons h r, .cons q t => .cons (ih _ _ _ h q) (dpAll_of ih r t)
theorem deep_dp {K : PySem.W.Frag} (c : Cor K μ S H) : ∀ (n : Nat) (d : D) (v : V) (p : PyData), Rep K μ H d v → deep S n d = some p → Dp K H v p
  | 0, _, _, _, _, h => by cases h
  | n + 1, d, v, p, r, h => by
    cases r with
    | non => cases h; exact .non
    | bl b => cases h; exact .bl b
    | int i => cases h; exact .int i
    | str s => cases h; exact .str _
    | fn => cases h
    | @tup a vs ds q r =>
      have h : (ds.mapM (deep S n)).map PyData.tuple = some p := h
      cases e : ds.mapM (deep S n) with
      | none => rw [e] at h; cases h
      | some ps =>
        rw [e] at h
        cases h
        exact .tup q (dpAll_of (fun d v p => deep_dp c n d v p) r (mapM_some e))
    | @ref m a hm =>
      obtain ⟨o, h1, h2⟩ := c.obj' hm
      have h : (match S[m]? with
        | some (.lst l) => (l.mapM (deep S n)).map PyData.list
        | some (.ro l) => (l.mapM (deep S n)).map PyData.list
        | _ => none) = some p := h
      rw [h1] at h
      cases o with
      | lst ds =>
        obtain ⟨vs, q, r⟩ := h2
        have h : (ds.mapM (deep S n)).map PyData.list = some p := h
        cases e : ds.mapM (deep S n) with
        | none => rw [e] at h; cases h
        | some ps =>
          rw [e] at h
          cases h
          exact .lst (SqL.of q) (dpAll_of (fun d v p => deep_dp c n d v p) r (mapM_some e))
      | ro ds =>
        obtain ⟨vs, ob, q, r⟩ := h2
        have h : (ds.mapM (deep S n)).map PyData.list = some p := h
        cases e : ds.mapM (deep S n) with
        | none => rw [e] at h; cases h
        | some ps =>
          rw [e] at h
          cases h
          exact .lst (.inl (.inr ⟨ob, q⟩)) (dpAll_of (fun d v p => deep_dp c n d v p) r (mapM_some e))
      | dk kvs => cases h
      | fk kvs => cases h
      | ins q c fs => cases h
      | nd _ => cases h
      | nf _ => cases h
    | kl _ _ => cases h
    | exc _ _ _ _ => cases h
mutual
inductive Dq (K : PySem.W.Frag) (H : Hp) : V → PyData → Prop
  | non : Dq K H .non .none
  | bl (b : Bool) : Dq K H (.bl b) (.bool b)
  | int (i : Int) : Dq K H (.int i) (.int i)
  | str (x : PySem.Str) : Dq K H (.str x) (.str x)
  | lst {a : Addr} {xs : List V} {ds : List PyData} : SqL K H a xs → DqA K H xs ds → Dq K H (.ref a) (.list ds)
  | tup {a : Addr} {xs : List V} {ds : List PyData} : SqT K H a xs → DqA K H xs ds → Dq K H (.ref a) (.tuple ds)
  | dk {a : Addr} : H a = some (.dK []) → Dq K H (.ref a) (.dict [])
inductive DqA (K : PySem.W.Frag) (H : Hp) : List V → List PyData → Prop
  | nil : DqA K H [] []
  | cons {v : V} {vs : List V} {d : PyData} {ds : List PyData} : Dq K H v d → DqA K H vs ds → DqA K H (v :: vs) (d :: ds)
end
section
open PySem.Spec PyProof.Rows
variable {X : Cx} {pins : List (Addr × PySem.Obj)} {σ : L2.St} {s : Shared}
mutual
theorem Dq.reads (I : Inv X pins σ H s) : ∀ (d : PyData) (v : V) (u : Value), Dq X.K H v d → RelV v u → ∃ as, Reads s.heap u d as ∧ (hasLst d = false → sysModules ∉ as)
  | .none, _, _, h, r => by cases h; cases r; exact ⟨_, Reads.none, fun _ => by simp⟩
  | .bool b, _, _, h, r => by cases h; cases r; exact ⟨_, Reads.bool b, fun _ => by simp⟩
  | .int i, _, _, h, r => by cases h; obtain ⟨t, rfl⟩ := r; exact ⟨_, Reads.int i t, fun _ => by simp⟩
  | .str x, _, _, h, r => by cases h; obtain ⟨t, rfl⟩ := r; exact ⟨_, Reads.str x t, fun _ => by simp⟩
  | .list ds, _, _, h, r => by
    cases h with
    | lst hs ha =>
      cases r
      obtain ⟨its, rv, ⟨o, n, ho, hc, _, hd⟩, _⟩ := I.list hs
      obtain ⟨as, hr, _⟩ := Dq.readsA I ds _ its ha rv
      exact ⟨_, Reads.list ho hc hd hr, fun z => by simp [hasLst] at z⟩
  | .tuple ds, _, _, h, r => by
    cases h with
    | tup hs ha =>
      cases r
      obtain ⟨its, rv, ⟨o, ho, hc, n, hd⟩, _⟩ := I.tuple hs
      obtain ⟨as, hr, hk⟩ := Dq.readsA I ds _ its ha rv
      exact ⟨_, Reads.tuple ho hc hd hr, fun z => hk (by simpa [hasLst] using z)⟩
  | .dict kvs, _, _, h, r => by
    cases h with
    | dk ha =>
      cases r
      obtain ⟨_, hy, vs, kv, o, es, ep, ho, hx, hd, _, hp, _⟩ := dk_of I.hok ha
      cases kv
      have : es.toList = [] := by cases h2 : es.toList with
        | nil => rfl
        | cons _ _ => rw [h2] at hp; cases hp
      refine ⟨_, Reads.dict ho hx.1 hd (by rw [this]; exact .nil) (by rw [this]; exact .nil), fun _ => ?_⟩
      simp only [List.append_nil, List.mem_singleton]
      exact fun e => beq_eq_false_iff_ne.mp hy e.symm
theorem Dq.readsA (I : Inv X pins σ H s) : ∀ (ds : List PyData) (vs : List V) (us : List Value), DqA X.K H vs ds → Vals vs us → ∃ as, ReadsAll s.heap us ds as ∧ (hasLstA ds = false → sysModules ∉ as)
  | [], _, _, h, r => by cases h; cases r; exact ⟨_, ReadsAll.nil, fun _ => by simp⟩
  | d :: ds, _, _, h, r => by
    cases h with
    | cons h1 h2 =>
      cases r with
      | cons r1 r2 =>
        obtain ⟨as, q1, k1⟩ := Dq.reads I d _ _ h1 r1
        obtain ⟨bs, q2, k2⟩ := Dq.readsA I ds _ _ h2 r2
        refine ⟨_, ReadsAll.cons q1 q2, fun z => ?_⟩
        rw [hasLstA, Bool.or_eq_false_iff] at z
        rw [List.mem_append]
        exact fun e => e.elim (k1 z.1) (k2 z.2)
end
end
theorem dqAll_of {K : PySem.W.Frag} {f : D → Option PyData} (ih : ∀ d v p, Rep K μ H d v → f d = some p → Dq K H v p) : ∀ {ds : List D} {vs : List V} {ps : List PyData}, Reps K μ H ds vs → Paired (fun a b => f a = some b) ds ps → DqA K H vs ps
  | _, _, _, .nil, .nil => .nil
  | _, _, _, .cons h r, .cons q t => .cons (ih _ _ _ h q) (dqAll_of ih r t)
theorem deepR_dq {K : PySem.W.Frag} (c : Cor K μ S H) : ∀ (n : Nat) (d : D) (v : V) (p : PyData), Rep K μ H d v → deepR S n d = some p → Dq K H v p
  | 0, _, _, _, _, h => by cases h
  | n + 1, d, v, p, r, h => by
    cases r with
    | non => cases h; exact .non
    | bl b => cases h; exact .bl b
    | int i => cases h; exact .int i
    | str s => cases h; exact .str _
    | fn => cases h
    | @tup a vs ds q r =>
      have h : (ds.mapM (deepR S n)).map PyData.tuple = some p := h
      cases e : ds.mapM (deepR S n) with
      | none => rw [e] at h; cases h
      | some ps =>
        rw [e] at h
        cases h
        exact .tup q (dqAll_of (fun d v p => deepR_dq c n d v p) r (mapM_some e))
    | @ref m a hm =>
      obtain ⟨o, h1, h2⟩ := c.obj' hm
      have h : (match S[m]? with
        | some (.lst l) => (l.mapM (deepR S n)).map PyData.list
        | some (.ro l) => (l.mapM (deepR S n)).map PyData.list
        | some (.dk []) => some (.dict [])
        | _ => none) = some p := h
      rw [h1] at h
      cases o with
      | lst ds =>
        obtain ⟨vs, q, r⟩ := h2
        have h : (ds.mapM (deepR S n)).map PyData.list = some p := h
        cases e : ds.mapM (deepR S n) with
        | none => rw [e] at h; cases h
        | some ps =>
          rw [e] at h
          cases h
          exact .lst (SqL.of q) (dqAll_of (fun d v p => deepR_dq c n d v p) r (mapM_some e))
      | ro ds =>
        obtain ⟨vs, ob, q, r⟩ := h2
        have h : (ds.mapM (deepR S n)).map PyData.list = some p := h
        cases e : ds.mapM (deepR S n) with
        | none => rw [e] at h; cases h
        | some ps =>
          rw [e] at h
          cases h
          exact .lst (.inl (.inr ⟨ob, q⟩)) (dqAll_of (fun d v p => deepR_dq c n d v p) r (mapM_some e))
      | dk kvs =>
        obtain ⟨vs, q, r⟩ := h2
        cases kvs with
        | nil => cases h; cases r; exact .dk q
        | cons _ _ => cases h
      | fk kvs => cases h
      | ins q c fs => cases h
      | nd _ => cases h
      | nf _ => cases h
    | kl _ _ => cases h
    | exc _ _ _ _ => cases h
theorem pst_two {α : Type} {K : PySem.W.Frag} {x y : V} {d e : D} {f : PyData × PyData → M α} {R : α → Store → List Addr → Hp → Prop} {Wx : Nat → Hp → Prop} (c : Cor K μ S H) (rd : Rep K μ H d x) (re : Rep K μ H e y) (h : Pst K μ H (bnd (two d e) f S) R Wx) :
    ∃ p q, Dp K H x p ∧ Dp K H y q ∧ ((strB p = true ∧ strB q = true) ∨ (SeqAt.shaped p = true ∧ SeqAt.shaped q = true)) ∧ Pst K μ H (f (p, q) S) R Wx := by
  unfold bnd two at h
  cases hp : deep S dpt d with
  | none => simp only [hp] at h; exact h.elim
  | some p =>
    cases hq : deep S dpt e with
    | none => simp only [hp, hq] at h; exact h.elim
    | some q =>
      simp only [hp, hq] at h
      by_cases hb : ((strB p && strB q) || (SeqAt.shaped p && SeqAt.shaped q)) = true
      · rw [if_pos hb] at h
        rw [Bool.or_eq_true, Bool.and_eq_true, Bool.and_eq_true] at hb
        exact ⟨p, q, deep_dp c _ _ _ _ rd hp, deep_dp c _ _ _ _ re hq, hb, h⟩
      · rw [if_neg hb] at h
        exact h.elim
theorem dp_str {K : PySem.W.Frag} {x : V} {p : PyData} (h : Dp K H x p) (s : strB p = true) : ∃ a, x = .str a ∧ p = .str a := by
  cases h <;> first | exact ⟨_, rfl, rfl⟩ | cases s
end
end VM
namespace VM
open PySem L2
def copR : COp → CmpOp
  | .eq => .Eq | .ne => .NotEq | .lt => .Lt | .le => .LtE | .gt => .Gt | .ge => .GtE | .isin => .In | .notin => .NotIn | .is => .Is | .isnot => .IsNot | .eqt => .Eq
section
variable {X : Cx} {μ : List Addr} {S : Store} {H : Hp} {Q : VK}
theorem Rep.non_iff {K : PySem.W.Frag} {d : D} {x : V} (r : Rep K μ H d x) : decide (x = .non) = isNon d := by
  cases r <;> first | rfl | (rw [decide_eq_false (by intro z; cases z)]; rfl)
theorem kget_valV {K : PySem.W.Frag} {k : Key} : ∀ {kvs : List (Key × D)} {ks : List (L2.Key × V)}, KRep K μ H kvs ks →
    match kget kvs k, valV ks (kS k) with
    | some d, some v => Rep K μ H d v
    | none, none => True
    | _, _ => False
  | [], [], .nil => by
    show (match (none : Option D), (none : Option V) with | some d, some v => Rep K μ H d v | none, none => True | _, _ => False)
    trivial
  | p :: kvs, q :: ks, .cons h r => by
    have ih := kget_valV (k := k) r
    by_cases e : p.1 = k
    · have e1 : kget (p :: kvs) k = some p.2 := by simp [kget, List.find?_cons, e]
      have e2 : valV (q :: ks) (kS k) = some q.2 := valV_pos (by rw [h.1, e])
      rw [e1, e2]
      exact h.2
    · have e1 : kget (p :: kvs) k = kget kvs k := by simp [kget, List.find?_cons, e]
      have e2 : valV (q :: ks) (kS k) = valV ks (kS k) := valV_neg (by rw [h.1]; exact fun z => e (kS_inj z))
      rw [e1, e2]
      exact ih
theorem kget_some {K : PySem.W.Frag} {k : Key} {kvs : List (Key × D)} {ks : List (L2.Key × V)} (r : KRep K μ H kvs ks) {d : D} (h : kget kvs k = some d) : ∃ v, valV ks (kS k) = some v ∧ Rep K μ H d v := by
  have q := kget_valV (k := k) r
  rw [h] at q
  cases e : valV ks (kS k) with
  | some v => rw [e] at q; exact ⟨v, rfl, q⟩
  | none => rw [e] at q; exact q.elim
theorem kget_isSome {K : PySem.W.Frag} {k : Key} {kvs : List (Key × D)} {ks : List (L2.Key × V)} (r : KRep K μ H kvs ks) : (valV ks (kS k)).isSome = (kget kvs k).isSome := by
  have q := kget_valV (k := k) r
  cases e : valV ks (kS k) <;> cases e2 : kget kvs k <;> rw [e, e2] at q <;> first | rfl | exact q.elim
theorem key_rep {K : PySem.W.Frag} {d : D} {x : V} {k : Key} (r : Rep K μ H d x) (h : keyOf d = some k) : x = kV (kS k) := by
  cases r <;> first | (cases h; rfl) | cases h
theorem kput_rep {K : PySem.W.Frag} {k : Key} {d : D} {v : V} (rd : Rep K μ H d v) {kvs : List (Key × D)} {ks : List (L2.Key × V)} (r : KRep K μ H kvs ks) : KRep K μ H (kput kvs k d) (putK ks (kS k) v) := by
  have any_eq : ∀ {kvs : List (Key × D)} {ks : List (L2.Key × V)}, KRep K μ H kvs ks → (kvs.any fun kv => decide (kv.1 = k)) = (ks.any fun kv => decide (kv.1 = kS k)) := by
    intro kvs ks r
    induction r with
    | nil => rfl
    | @cons p q _ _ h _ ih =>
      rw [List.any_cons, List.any_cons, ih]
      congr 1
      rw [h.1]
      by_cases e : p.1 = k
      · rw [decide_eq_true e, decide_eq_true (by rw [e])]
      · rw [decide_eq_false e, decide_eq_false (fun z => e (kS_inj z))]
  have repl : ∀ {kvs : List (Key × D)} {ks : List (L2.Key × V)}, KRep K μ H kvs ks → KRep K μ H (kvs.map fun kv => if kv.1 = k then (kv.1, d) else kv) (ks.map fun kv => if kv.1 = kS k then (kv.1, v) else kv) := by
    intro kvs ks r
    induction r with
    | nil => exact .nil
    | @cons p q _ _ h _ ih =>
      rw [List.map_cons, List.map_cons]
      refine .cons ?_ ih
      by_cases e : p.1 = k
      · rw [if_pos e, if_pos (by rw [h.1, e])]
        exact ⟨h.1, rd⟩
      · rw [if_neg e, if_neg (by rw [h.1]; exact fun z => e (kS_inj z))]
        exact h
  have app : ∀ {kvs : List (Key × D)} {ks : List (L2.Key × V)}, KRep K μ H kvs ks → KRep K μ H (kvs ++ [(k, d)]) (ks ++ [(kS k, v)]) := by
    intro kvs ks r
    induction r with
    | nil => exact .cons ⟨rfl, rd⟩ .nil
    | cons h _ ih => exact .cons h ih
  unfold kput putK
  rw [any_eq r]
  split
  · exact repl r
  · exact app r
theorem KRep.length {K : PySem.W.Frag} {kvs : List (Key × D)} {ks : List (L2.Key × V)} (r : KRep K μ H kvs ks) : kvs.length = ks.length := Paired.length r
theorem op_inT (hu : X.A.units + 65 < cLine) : OpR X (compareOp .In) (fun x y H Q => ∃ d ds, Dp X.K H x d ∧ Dp X.K H y (.tuple ds) ∧ SeqAt.shaped d = true ∧ SeqAt.shaped (.tuple ds) = true ∧ Q (.bl (ds.any fun z => PyData.eqv z d)) H) := by
  rintro pins s σ H x y v u Q I rx ry ⟨d, ds, hd, he, sd, se, q⟩
  obtain ⟨as, r1⟩ := Dp.reads I d x v hd rx
  obtain ⟨bs, r2⟩ := Dp.reads I (.tuple ds) y u he ry
  refine SeqAt.in_tuple_reads r2 r1 (SeqAt.canLay_of_shaped se) (SeqAt.canLay_of_shaped sd) (PyProof.Rows.room_in_shaped sd hu) ?_
  exact ⟨.bl _, H, I, rfl, q⟩
theorem op_notInT (hu : X.A.units + 65 < cLine) : OpR X (compareOp .NotIn) (fun x y H Q => ∃ d ds, Dp X.K H x d ∧ Dp X.K H y (.tuple ds) ∧ SeqAt.shaped d = true ∧ SeqAt.shaped (.tuple ds) = true ∧ Q (.bl (!ds.any fun z => PyData.eqv z d)) H) := by
  rintro pins s σ H x y v u Q I rx ry ⟨d, ds, hd, he, sd, se, q⟩
  obtain ⟨as, r1⟩ := Dp.reads I d x v hd rx
  obtain ⟨bs, r2⟩ := Dp.reads I (.tuple ds) y u he ry
  refine SeqAt.notIn_tuple_reads r2 r1 (SeqAt.canLay_of_shaped se) (SeqAt.canLay_of_shaped sd) (PyProof.Rows.room_in_shaped sd hu) ?_
  exact ⟨.bl _, H, I, rfl, q⟩
/-- what the interpreter's in comes to -/
inductive InIs (X : Cx) (H : Hp) (x y : V) (b : Bool) : Prop
  | sign (c : Nat) (z : List Nat) : x = .str ⟨#[c]⟩ → y = .str (st z) → b = decide (c ∈ z) → InIs X H x y b
  | tup (d : PyData) (ds : List PyData) : Dp X.K H x d → Dp X.K H y (.tuple ds) → SeqAt.shaped d = true → SeqAt.shaped (.tuple ds) = true → b = (ds.any fun z => PyData.eqv z d) → InIs X H x y b
  | lst (d : PyData) (ds : List PyData) : Dp X.K H x d → Dp X.K H y (.list ds) → SeqAt.shaped d = true → SeqAt.shaped (.list ds) = true → b = (ds.any fun z => PyData.eqv z d) → InIs X H x y b
  | dk (a : Addr) (ks : List (L2.Key × V)) (k : L2.Key) : y = .ref a → H a = some (.dK ks) → x = kV k → b = (valV ks k).isSome → InIs X H x y b
theorem inIs_of {x y : V} {d e : D} {f : Bool → M D} {R : D → Store → List Addr → Hp → Prop} {Wx : Nat → Hp → Prop} (c : Cor X.K μ S H) (rd : Rep X.K μ H d x) (re : Rep X.K μ H e y) (h : Pst X.K μ H (bnd (opIn d e) f S) R Wx) : ∃ b, InIs X H x y b ∧ Pst X.K μ H (f b S) R Wx := by
  unfold bnd opIn at h
  cases re with
  | str z =>
    cases rd with
    | str w =>
      match w, h with
      | [c'], h => exact ⟨_, .sign c' z rfl rfl rfl, h⟩
      | [], h => exact h.elim
      | _ :: _ :: _, h => exact h.elim
    | _ => exact h.elim
  | @tup a vs ds q r =>
    simp only at h
    cases h1 : deep S dpt d with
    | none => rw [h1] at h; exact h.elim
    | some p =>
      rw [h1] at h
      cases h2 : deep S dpt (.tup ds) with
      | none => rw [h2] at h; exact h.elim
      | some p2 =>
        rw [h2] at h
        cases p2 with
        | tuple qs =>
          simp only at h
          by_cases hb : (SeqAt.shaped p && SeqAt.shaped (.tuple qs)) = true
          · rw [if_pos hb] at h
            rw [Bool.and_eq_true] at hb
            exact ⟨_, .tup p qs (deep_dp c _ _ _ _ rd h1) (deep_dp c _ _ _ _ (.tup q r) h2) hb.1 hb.2 rfl, h⟩
          · rw [if_neg hb] at h
            exact h.elim
        | _ => exact h.elim
  | @ref n a hn =>
    obtain ⟨o, h1, h2⟩ := c.obj' hn
    simp only [h1] at h
    have lists : ∀ {b : Bool}, (∃ p qs, deep S dpt d = some p ∧ deep S dpt (.ref n) = some (.list qs) ∧ (SeqAt.shaped p && SeqAt.shaped (.list qs)) = true ∧ b = (qs.any fun z => PyData.eqv z p)) → InIs X H x (.ref a) b := by
      rintro b ⟨p, qs, e1, e2, hb, e3⟩
      rw [Bool.and_eq_true] at hb
      exact .lst p qs (deep_dp c _ _ _ _ rd e1) (deep_dp c _ _ _ _ (.ref hn) e2) hb.1 hb.2 e3
    cases o with
    | dk kvs =>
      obtain ⟨ks, q, r⟩ := h2
      simp only at h
      cases hk : keyOf d with
      | none => rw [hk] at h; exact h.elim
      | some k =>
        rw [hk] at h
        exact ⟨_, .dk a ks (kS k) rfl q (key_rep rd hk) (kget_isSome r).symm, h⟩
    | lst l =>
      simp only at h
      cases e1 : deep S dpt d with
      | none => rw [e1] at h; exact h.elim
      | some p =>
        rw [e1] at h
        cases e2 : deep S dpt (.ref n) with
        | none => rw [e2] at h; exact h.elim
        | some p2 =>
          rw [e2] at h
          cases p2 with
          | list qs =>
            simp only at h
            by_cases hb : (SeqAt.shaped p && SeqAt.shaped (.list qs)) = true
            · rw [if_pos hb] at h
              exact ⟨_, lists ⟨p, qs, e1, e2, hb, rfl⟩, h⟩
            · rw [if_neg hb] at h
              exact h.elim
          | _ => exact h.elim
    | fk l =>
      simp only at h
      cases e1 : deep S dpt d with
      | none => rw [e1] at h; exact h.elim
      | some p =>
        rw [e1] at h
        cases e2 : deep S dpt (.ref n) with
        | none => rw [e2] at h; exact h.elim
        | some p2 =>
          rw [e2] at h
          cases p2 with
          | list qs =>
            simp only at h
            by_cases hb : (SeqAt.shaped p && SeqAt.shaped (.list qs)) = true
            · rw [if_pos hb] at h
              exact ⟨_, lists ⟨p, qs, e1, e2, hb, rfl⟩, h⟩
            · rw [if_neg hb] at h
              exact h.elim
          | _ => exact h.elim
    | ins q c fs =>
      simp only at h
      cases e1 : deep S dpt d with
      | none => rw [e1] at h; exact h.elim
      | some p =>
        rw [e1] at h
        cases e2 : deep S dpt (.ref n) with
        | none => rw [e2] at h; exact h.elim
        | some p2 =>
          rw [e2] at h
          cases p2 with
          | list qs =>
            simp only at h
            by_cases hb : (SeqAt.shaped p && SeqAt.shaped (.list qs)) = true
            · rw [if_pos hb] at h
              exact ⟨_, lists ⟨p, qs, e1, e2, hb, rfl⟩, h⟩
            · rw [if_neg hb] at h
              exact h.elim
          | _ => exact h.elim
    | nd q =>
      simp only at h
      cases e1 : deep S dpt d with
      | none => rw [e1] at h; exact h.elim
      | some p =>
        rw [e1] at h
        cases e2 : deep S dpt (.ref n) with
        | none => rw [e2] at h; exact h.elim
        | some p2 =>
          rw [e2] at h
          cases p2 with
          | list qs =>
            simp only at h
            by_cases hb : (SeqAt.shaped p && SeqAt.shaped (.list qs)) = true
            · rw [if_pos hb] at h
              exact ⟨_, lists ⟨p, qs, e1, e2, hb, rfl⟩, h⟩
            · rw [if_neg hb] at h
              exact h.elim
          | _ => exact h.elim
    | nf q =>
      simp only at h
      cases e1 : deep S dpt d with
      | none => rw [e1] at h; exact h.elim
      | some p =>
        rw [e1] at h
        cases e2 : deep S dpt (.ref n) with
        | none => rw [e2] at h; exact h.elim
        | some p2 =>
          rw [e2] at h
          cases p2 with
          | list qs =>
            simp only at h
            by_cases hb : (SeqAt.shaped p && SeqAt.shaped (.list qs)) = true
            · rw [if_pos hb] at h
              exact ⟨_, lists ⟨p, qs, e1, e2, hb, rfl⟩, h⟩
            · rw [if_neg hb] at h
              exact h.elim
          | _ => exact h.elim
    | ro l =>
      simp only at h
      cases e1 : deep S dpt d with
      | none => rw [e1] at h; exact h.elim
      | some p =>
        rw [e1] at h
        cases e2 : deep S dpt (.ref n) with
        | none => rw [e2] at h; exact h.elim
        | some p2 =>
          rw [e2] at h
          cases p2 with
          | list qs =>
            simp only at h
            by_cases hb : (SeqAt.shaped p && SeqAt.shaped (.list qs)) = true
            · rw [if_pos hb] at h
              exact ⟨_, lists ⟨p, qs, e1, e2, hb, rfl⟩, h⟩
            · rw [if_neg hb] at h
              exact h.elim
          | _ => exact h.elim
  | _ => exact h.elim
/-- tuples, of which one is of one text: what stands behind the first is not looked at -/
theorem eqt_ok (hu : X.A.units + 65 < cLine) {K : PySem.W.Frag} (hK : K = X.K) {pins : List (Addr × PySem.Obj)} {s : Shared} {σ : L2.St} {x y : V} {v u : Value} (I : L2.Inv X pins σ H s) (rx : RelV x v) (ry : RelV y u) {d e : D} (c : Cor X.K μ S H) (rd : Rep X.K μ H d x) (re : Rep X.K μ H e y)
    (h : Pst X.K μ H (opC .eqt d e S) (fun z _ μ' H' => ∀ v, Rep X.K μ' H' z v → Q v H') W0) : wpAny (model X.prog X.w) X.A (compareOp .Eq v u) (EP X pins σ Q) X.xe s := by
  have bad : ∀ {p : Prop}, Pst X.K μ H (.bad : Out D) (fun z _ μ' H' => ∀ v, Rep X.K μ' H' z v → Q v H') W0 → p := fun z => z.elim
  cases rd with
  | @tup a xs ds q r =>
    cases r with
    | nil => exact bad h
    | @cons d1 ds1 v1 vs1 r1 r2 =>
      cases r1 with
      | str sa =>
        cases re with
        | @tup a2 xs2 ds2 q2 t =>
          cases t with
          | nil => exact bad h
          | @cons e1 es1 w1 ws1 t1 t2 =>
            cases t1 with
            | str sb =>
              cases t2 with
              | nil =>
                cases rx
                cases ry
                obtain ⟨its, rv, hi, _⟩ := I.tuple q
                obtain ⟨its2, rv2, hi2, _⟩ := I.tuple q2
                cases rv with
                | cons g1 g2 =>
                  rename_i u1 us1
                  obtain ⟨tk1, rfl⟩ := g1
                  cases rv2 with
                  | cons k1 k2 =>
                    cases k2
                    obtain ⟨tk2, rfl⟩ := k1
                    have hh : Pst X.K μ H (ret (.bl (decide (sa = sb) && ds1.isEmpty)) S) (fun z _ μ' H' => ∀ v, Rep X.K μ' H' z v → Q v H') W0 := h
                    have hr := SeqAt.RcAt.tuples (A := X.A) (e := fun _ => st sa == st sb) hi hi2 (by omega) (fun j h1 h2 => by
                      have hj : j = 0 := by
                        have : j < 1 := h2
                        omega
                      subst hj
                      exact SeqAt.EqAt.str_str _ _ _ _)
                    refine hr X.prog X.w X.xe _ ?_
                    have hb : ((List.range (min (Value.str (st sa) tk1 :: us1).toArray.size [Value.str (st sb) tk2].toArray.size)).all (fun _ => st sa == st sb) && (Value.str (st sa) tk1 :: us1).toArray.size == [Value.str (st sb) tk2].toArray.size) = (decide (sa = sb) && ds1.isEmpty) := by
                      have l1 : us1.length = vs1.length := (Vals.length g2).symm
                      have l2 : ds1.length = vs1.length := Reps.length r2
                      have e1 : min (Value.str (st sa) tk1 :: us1).toArray.size [Value.str (st sb) tk2].toArray.size = 1 := by simp
                      rw [e1]
                      have e2 : ((Value.str (st sa) tk1 :: us1).toArray.size == [Value.str (st sb) tk2].toArray.size) = ds1.isEmpty := by
                        have : us1.length = ds1.length := by omega
                        cases ds1 with
                        | nil =>
                          cases us1 with
                          | nil => rfl
                          | cons _ _ => cases this
                        | cons _ _ =>
                          cases us1 with
                          | nil => cases this
                          | cons _ _ => simp
                      rw [e2]
                      have e3 : (st sa == st sb) = decide (sa = sb) := by
                        by_cases e : sa = sb
                        · subst e; simp
                        · rw [decide_eq_false e]
                          exact beq_eq_false_iff_ne.mpr fun z => e (st_inj z)
                      rw [show (List.range 1).all (fun _ => st sa == st sb) = (st sa == st sb) by simp [List.range_succ], e3]
                    rw [hb]
                    exact ⟨.bl _, H, I, rfl, Pst.done c hh (.bl _)⟩
              | cons _ _ => exact bad h
            | _ => exact bad h
        | _ => exact bad h
      | _ => exact bad h
  | _ => exact bad h
theorem opC_ok (hu : X.A.units + 65 < cLine) (o : COp) : OpR X (compareOp (copR o)) (rM X.K (opC o)) := by
  intro pins s σ H x y v u Q I rx ry ⟨μ, S, d, e, c, rd, re, h⟩
  cases o with
  | eq =>
    obtain ⟨p, q, h1, h2, h3, h⟩ := pst_two c rd re h
    rcases h3 with ⟨h3, h4⟩ | ⟨h3, h4⟩
    · obtain ⟨a, rfl, rfl⟩ := dp_str h1 h3
      obtain ⟨b, rfl, rfl⟩ := dp_str h2 h4
      refine op_eq pins s σ H _ _ v u Q I rx ry ⟨rfl, ?_⟩
      have z : (a == b) = decide (V.str a = V.str b) := by
        by_cases e : a = b
        · subst e; simp
        · rw [decide_eq_false (fun z => e (V.str.inj z))]
          exact beq_eq_false_iff_ne.mpr e
      rw [← z]
      exact Pst.done c h (.bl _)
    · exact op_eqD (by omega) pins s σ H x y v u Q I rx ry ⟨p, q, h1, h2, h3, h4, Pst.done c h (.bl _)⟩
  | eqt => exact eqt_ok hu rfl I rx ry c rd re h
  | ne =>
    obtain ⟨p, q, h1, h2, h3, h⟩ := pst_two c rd re h
    rcases h3 with ⟨h3, h4⟩ | ⟨h3, h4⟩
    · obtain ⟨a, rfl, rfl⟩ := dp_str h1 h3
      obtain ⟨b, rfl, rfl⟩ := dp_str h2 h4
      refine op_ne pins s σ H _ _ v u Q I rx ry ⟨rfl, ?_⟩
      have z : (a == b) = decide (V.str a = V.str b) := by
        by_cases e : a = b
        · subst e; simp
        · rw [decide_eq_false (fun z => e (V.str.inj z))]
          exact beq_eq_false_iff_ne.mpr e
      rw [← z]
      exact Pst.done c h (.bl _)
    · exact op_neD (by omega) pins s σ H x y v u Q I rx ry ⟨p, q, h1, h2, h3, h4, Pst.done c h (.bl _)⟩
  | lt =>
    cases rd with
    | int i =>
      cases re with
      | int j => exact op_lt pins s σ H _ _ v u Q I rx ry ⟨i, j, rfl, rfl, Pst.done c h (.bl _)⟩
      | _ => exact h.elim
    | str a =>
      cases re with
      | str b => exact op_lt_str pins s σ H _ _ v u Q I rx ry ⟨_, _, rfl, rfl, Pst.done c h (.bl _)⟩
      | _ => exact h.elim
    | _ => exact h.elim
  | le =>
    cases rd with
    | int i =>
      cases re with
      | int j => exact op_le pins s σ H _ _ v u Q I rx ry ⟨i, j, rfl, rfl, Pst.done c h (.bl _)⟩
      | _ => exact h.elim
    | _ => exact h.elim
  | gt =>
    cases rd with
    | int i =>
      cases re with
      | int j => exact op_gt pins s σ H _ _ v u Q I rx ry ⟨i, j, rfl, rfl, Pst.done c h (.bl _)⟩
      | _ => exact h.elim
    | _ => exact h.elim
  | ge =>
    cases rd with
    | int i =>
      cases re with
      | int j => exact op_ge pins s σ H _ _ v u Q I rx ry ⟨i, j, rfl, rfl, Pst.done c h (.bl _)⟩
      | _ => exact h.elim
    | _ => exact h.elim
  | isin =>
    obtain ⟨b, i, h⟩ := inIs_of c rd re h
    have q : Q (.bl b) H := Pst.done c h (.bl _)
    cases i with
    | sign c' z e1 e2 e3 => subst e3; exact op_in_sign pins s σ H _ _ v u Q I rx ry ⟨c', _, e1, e2, q⟩
    | tup p ps h1 h2 h3 h4 e => subst e; exact op_inT hu pins s σ H _ _ v u Q I rx ry ⟨p, ps, h1, h2, h3, h4, q⟩
    | lst p ps h1 h2 h3 h4 e => subst e; exact op_inD hu pins s σ H _ _ v u Q I rx ry ⟨p, ps, h1, h2, h3, h4, q⟩
    | dk a ks k e1 h1 e2 e =>
      subst e1 e2 e
      cases ry
      exact d_in (by omega) I (DGet.k h1) rx fun s' I' => ⟨.bl _, H, I', rfl, q⟩
  | notin =>
    obtain ⟨b, i, h⟩ := inIs_of c rd re h
    have q : Q (.bl (!b)) H := Pst.done c h (.bl _)
    cases i with
    | sign c' z e1 e2 e3 => subst e3; exact op_notIn_sign pins s σ H _ _ v u Q I rx ry ⟨c', _, e1, e2, q⟩
    | tup p ps h1 h2 h3 h4 e => subst e; exact op_notInT hu pins s σ H _ _ v u Q I rx ry ⟨p, ps, h1, h2, h3, h4, q⟩
    | lst p ps h1 h2 h3 h4 e => subst e; exact op_notInD hu pins s σ H _ _ v u Q I rx ry ⟨p, ps, h1, h2, h3, h4, q⟩
    | dk a ks k e1 h1 e2 e =>
      subst e1 e2 e
      cases ry
      exact d_notIn (by omega) I (DGet.k h1) rx fun s' I' => ⟨.bl _, H, I', rfl, q⟩
  | is =>
    obtain ⟨b, hb, h⟩ := Pst.lft c (Pst.bnd h)
    have q : Q (.bl b) H := Pst.done c h (.bl _)
    cases re with
    | non => cases hb; exact op_isN pins s σ H _ _ v u Q I rx ry ⟨rfl, by rw [rd.non_iff]; exact q⟩
    | bl b2 =>
      cases rd with
      | bl b1 => cases hb; exact op_isBl pins s σ H _ _ v u Q I rx ry ⟨b1, b2, rfl, rfl, q⟩
      | _ => cases hb
    | _ => cases rd <;> cases hb
  | isnot =>
    obtain ⟨b, hb, h⟩ := Pst.lft c (Pst.bnd h)
    have q : Q (.bl (!b)) H := Pst.done c h (.bl _)
    cases re with
    | non => cases hb; exact op_notN pins s σ H _ _ v u Q I rx ry ⟨rfl, by rw [rd.non_iff]; exact q⟩
    | bl b2 =>
      cases rd with
      | bl b1 => cases hb; exact op_notBl pins s σ H _ _ v u Q I rx ry ⟨b1, b2, rfl, rfl, q⟩
      | _ => cases hb
    | _ => cases rd <;> cases hb
end
end VM
namespace VM
open PySem L2
open PySem.Spec PyProof.Rows
theorem rk_all {prog : Program} {w : World} {as as' : List Addr} {h : Heap} {n n' : Nat} (hn : n ≤ n') (ha : ∀ b ∈ as, b ∈ as') : ∀ {us : List Value} {ts : List PySem.Str}, ReprAllK prog w as h n us ts → ReprAllK prog w as' h n' us ts
  | _, _, .nil => .nil
  | _, _, .cons h1 h2 => .cons ((h1.level_le hn).more ha) (rk_all hn ha h2)
theorem ram_mono {h : Heap} {n n' : Nat} {bs : List Addr} (hn : n ≤ n') (r : ReadAtMost h n bs) : ReadAtMost h n' bs := fun b hb => let ⟨d, as, h1, h2⟩ := r b hb; ⟨d, as, h1, Nat.le_trans h2 hn⟩
theorem ram_app {h : Heap} {n : Nat} {bs cs : List Addr} (r : ReadAtMost h n bs) (t : ReadAtMost h n cs) : ReadAtMost h n (bs ++ cs) := fun b hb => (List.mem_append.mp hb).elim (r b) (t b)
theorem ram_nil {h : Heap} {n : Nat} : ReadAtMost h n [] := fun _ hb => nomatch hb
theorem rk_len {prog : Program} {w : World} {as : List Addr} {h : Heap} {n : Nat} : ∀ {us : List Value} {ts : List PySem.Str}, ReprAllK prog w as h n us ts → ts.length = us.length
  | _, _, .nil => rfl
  | _, _, .cons _ h2 => by rw [List.length_cons, List.length_cons, rk_len h2]
section
variable {X : Cx} {pins : List (Addr × PySem.Obj)} {σ : L2.St} {s : Shared} {prog : Program} {w : World}
theorem rk_item {as : List Addr} {h : Heap} {n : Nat} : ∀ {us : List Value} {ts : List PySem.Str}, ReprAllK prog w as h n us ts → ∀ (i : Nat) (y : Value), us[i]? = some y → ∃ t, ts[i]? = some t ∧ ReprK prog w as h n y t
  | _, _, .nil, _, _, e => by cases e
  | _, _, .cons h1 h2, 0, _, e => by cases e; exact ⟨_, rfl, h1⟩
  | _, _, .cons h1 h2, i + 1, y, e => rk_item h2 i y e
mutual
theorem Dq.rk (I : Inv X pins σ H s) : ∀ (d : PyData) (v : V) (u : Value), Dq X.K H v d → RelV v u → d.showable = true → d.shown.length ≤ sizeLine → ∃ as bs, Reads s.heap u d as ∧ ReadAtMost s.heap d.depth bs ∧ ReprK prog w bs s.heap d.depth u d.shown
  | .none, _, _, h, r, _, _ => by cases h; cases r; exact ⟨_, [], Reads.none, ram_nil, ReprK.of_is ReprIs.none _ _ _⟩
  | .bool b, _, _, h, r, _, _ => by cases h; cases r; exact ⟨_, [], Reads.bool b, ram_nil, ReprK.of_is (ReprIs.bool b) _ _ _⟩
  | .int i, _, _, h, r, hs, _ => by cases h; obtain ⟨t, rfl⟩ := r; exact ⟨_, [], Reads.int i t, ram_nil, ReprK.of_is (ReprIs.int t (of_decide_eq_true hs)) _ _ _⟩
  | .str x, _, _, h, r, _, hz => by cases h; obtain ⟨t, rfl⟩ := r; exact ⟨_, [], Reads.str x t, ram_nil, ReprK.of_is (ReprIs.str x t hz) _ _ _⟩
  | .list ds, _, _, h, r, hs, hz => by
    cases h with
    | lst hl ha =>
      cases r
      obtain ⟨its, rv, ⟨o, n, ho, hc, _, hd⟩, _⟩ := I.list hl
      obtain ⟨as, bs, hr, hb, hk⟩ := Dq.rkA I ds _ its ha rv hs fun t ht => Nat.le_trans (listText_mem_le ht) hz
      have rd := Reads.list ho hc hd hr
      have hna := not_mem_of_deeper rd (Nat.lt_succ_self _) hb
      refine ⟨_, _, rd, ReadAtMost.cons rd (Nat.le_succ _) hb, ?_⟩
      cases its with
      | nil =>
        cases ds with
        | nil => exact (ReprK.listEmpty (as := _) ho hc hd).more fun _ z => z
        | cons _ _ => cases hr
      | cons y l => exact ReprK.list ho hc hd hna (rk_len hk) fun i y e => rk_item hk i y (by simpa using e)
  | .tuple ds, _, _, h, r, hs, hz => by
    cases h with
    | tup hl ha =>
      cases r
      obtain ⟨its, rv, ⟨o, ho, hc, n, hd⟩, _⟩ := I.tuple hl
      obtain ⟨as, bs, hr, hb, hk⟩ := Dq.rkA I ds _ its ha rv hs fun t ht => Nat.le_trans (tupleText_mem_le ht) hz
      have rd := Reads.tuple ho hc hd hr
      have hna := not_mem_of_deeper rd (Nat.lt_succ_self _) hb
      exact ⟨_, _, rd, ReadAtMost.cons rd (Nat.le_succ _) hb, ReprK.tuple ho hc hd hna hk⟩
  | .dict kvs, _, _, h, r, hs, hz => by
    cases h with
    | dk ha =>
      cases r
      obtain ⟨_, hy, vs, kv, o, es, ep, ho, hx, hd, _, hp, _⟩ := dk_of I.hok ha
      cases kv
      have he : es.toList = [] := by cases h2 : es.toList with
        | nil => rfl
        | cons _ _ => rw [h2] at hp; cases hp
      have rd : Reads s.heap _ (.dict []) _ := Reads.dict ho hx.1 hd (by rw [he]; exact .nil) (by rw [he]; exact .nil)
      exact ⟨_, _, rd, ReadAtMost.cons rd (Nat.le_succ _) ram_nil, ReprK.dict ho hx.1 hd hy (fun z => nomatch z) (by rw [he]; exact .nil)⟩
theorem Dq.rkA (I : Inv X pins σ H s) : ∀ (ds : List PyData) (vs : List V) (us : List Value), DqA X.K H vs ds → Vals vs us → PyData.showableAll ds = true → (∀ t ∈ PyData.shownAll ds, t.length ≤ sizeLine) → ∃ as bs, ReadsAll s.heap us ds as ∧ ReadAtMost s.heap (PyData.depthAll ds) bs ∧ ReprAllK prog w bs s.heap (PyData.depthAll ds) us (PyData.shownAll ds)
  | [], _, _, h, r, _, _ => by cases h; cases r; exact ⟨_, [], ReadsAll.nil, ram_nil, .nil⟩
  | d :: ds, _, _, h, r, hs, hz => by
    cases h with
    | cons h1 h2 =>
      cases r with
      | cons r1 r2 =>
        have hs : (d.showable && PyData.showableAll ds) = true := hs
        rw [Bool.and_eq_true] at hs
        obtain ⟨as, bs, q1, b1, k1⟩ := Dq.rk I d _ _ h1 r1 hs.1 (hz d.shown (List.mem_cons_self ..))
        obtain ⟨cs, es, q2, b2, k2⟩ := Dq.rkA I ds _ _ h2 r2 hs.2 fun t ht => hz t (List.mem_cons_of_mem _ ht)
        have l1 : d.depth ≤ PyData.depthAll (d :: ds) := Nat.le_max_left _ _
        have l2 : PyData.depthAll ds ≤ PyData.depthAll (d :: ds) := Nat.le_max_right _ _
        exact ⟨_, bs ++ es, ReadsAll.cons q1 q2, ram_app (ram_mono l1 b1) (ram_mono l2 b2), .cons ((k1.level_le l1).more fun b z => List.mem_append_left _ z) (rk_all l2 (fun b z => List.mem_append_right _ z) k2)⟩
end
variable {A : Around} {E : Value → Shared → Prop} {Q : Value → Shared → Prop}
theorem repr_lst (I : Inv X pins σ H s) {a : Addr} {xs : List V} {ds : List PyData} (hl : SqL X.K H a xs) (ha : DqA X.K H xs ds) (hs : (PyData.list ds).showable = true) (hz : (PyData.list ds).shown.length ≤ sizeLine) (hdd : (PyData.list ds).hasDict = true) (hg : A.guards = some []) (hu : A.units + ((PyData.list ds).depth + 1) < cLine)
    (hQ : ∀ (h' : Heap) (u : Tok) (tk : Nat), (∀ (b : Addr) (o : PySem.Obj), s.heap.get? b = some o → h'.get? b = some o) → Q (.str (PyData.list ds).shown u) { heap := h', gens := s.gens, drawn := s.drawn, toks := tk, os := s.os }) :
    wpAny (model prog w) A (call (.builtin "repr") [.ref a]) Q E s := by
  obtain ⟨its, rv, ⟨o, n, ho, hc, _, hd⟩, _⟩ := I.list hl
  obtain ⟨as, bs, hr, hb, hk⟩ := Dq.rkA (prog := prog) (w := w) I ds _ its ha rv hs fun t ht => Nat.le_trans (listText_mem_le ht) hz
  have rd := Reads.list ho hc hd hr
  have hna := not_mem_of_deeper rd (Nat.lt_succ_self _) hb
  refine call_repr_slot (by omega) ⟨o, ho, hc⟩ (Slot.toG F.slot_list_repr) ?_
  cases its with
  | nil =>
    cases ds with
    | nil => cases hdd
    | cons _ _ => cases hr
  | cons y l =>
    have hu' : A.units + 1 + (PyData.depthAll ds + 1) < cLine := by
      have : (PyData.list ds).depth = PyData.depthAll ds + 1 := rfl
      omega
    exact call_list_reprK ho hc hd hna (rk_len hk) (fun i y e => rk_item hk i y (by simpa using e)) hg (fun b _ => Clear.nil b) hu' (fun _ _ e => e) (fun h' u tk hk => ⟨_, u, rfl, hQ h' u tk hk⟩) hz
theorem repr_tup (I : Inv X pins σ H s) {a : Addr} {xs : List V} {ds : List PyData} (hl : SqT X.K H a xs) (ha : DqA X.K H xs ds) (hs : (PyData.tuple ds).showable = true) (hz : (PyData.tuple ds).shown.length ≤ sizeLine) (hg : A.guards = some []) (hu : A.units + ((PyData.tuple ds).depth + 1) < cLine)
    (hQ : ∀ (h' : Heap) (u : Tok) (tk : Nat), (∀ (b : Addr) (o : PySem.Obj), s.heap.get? b = some o → h'.get? b = some o) → Q (.str (PyData.tuple ds).shown u) { heap := h', gens := s.gens, drawn := s.drawn, toks := tk, os := s.os }) :
    wpAny (model prog w) A (call (.builtin "repr") [.ref a]) Q E s := by
  obtain ⟨its, rv, ⟨o, ho, hc, n, hd⟩, _⟩ := I.tuple hl
  obtain ⟨as, bs, hr, hb, hk⟩ := Dq.rkA (prog := prog) (w := w) I ds _ its ha rv hs fun t ht => Nat.le_trans (tupleText_mem_le ht) hz
  have rd := Reads.tuple ho hc hd hr
  have hna := not_mem_of_deeper rd (Nat.lt_succ_self _) hb
  have hu' : A.units + 1 + (PyData.depthAll ds + 1) < cLine := by
    have : (PyData.tuple ds).depth = PyData.depthAll ds + 1 := rfl
    omega
  exact call_repr_slot (by omega) ⟨o, ho, hc⟩ F.slot_tuple_repr (call_tuple_reprK ho hc hd hna hk hg (fun b _ => Clear.nil b) hu' (fun _ _ e => e) (fun h' u tk hk => ⟨_, u, rfl, hQ h' u tk hk⟩) hz)
end
end VM
namespace VM
open PySem L2
section
variable {X : Cx} {μ : List Addr} {S : Store} {H : Hp} {Q : VK}
theorem Reps.atI {K : PySem.W.Frag} {ds : List D} {vs : List V} (r : Reps K μ H ds vs) {i : Int} {d : D} (h : VM.atI ds i = some d) : ∃ v, L2.atI vs i = some v ∧ Rep K μ H d v := by
  unfold VM.atI at h
  unfold L2.atI
  rw [← r.length]
  have e : ∀ n i, VM.ixN n i = L2.ixN n i := fun _ _ => rfl
  rw [e] at h
  cases q : L2.ixN ds.length i with
  | none => rw [q] at h; cases h
  | some j =>
    rw [q] at h
    exact r.get h
theorem pst_rd {α : Type} {K : PySem.W.Frag} {n : Nat} {a : Addr} {f : Obj → M α} {R : α → Store → List Addr → Hp → Prop} {Wx : Nat → Hp → Prop} (c : Cor K μ S H) (ha : μ[n]? = some a) (h : Pst K μ H (bnd (rd n) f S) R Wx) :
    ∃ o, ObjR K μ H a o ∧ S[n]? = some o ∧ Pst K μ H (f o S) R Wx := by
  obtain ⟨o, h1, h2⟩ := c.obj' ha
  unfold bnd rd at h
  rw [h1] at h
  exact ⟨o, h2, h1, h⟩
/-- d[k], a dict of the heap -/
theorem ix_dK (hu : X.A.units + 1 < cLine) : IxR X (fun x y H Q => ∃ a ks k v, x = .ref a ∧ Rd H a (.dK ks) ∧ y = kV k ∧ valV ks k = some v ∧ Q v H) := by
  rintro value slice pins s σ H x y v u Q I rx ry ⟨a, ks, k, r, rfl, hd, rfl, hv, q⟩ hs
  obtain rfl : v = Value.ref a := rx
  have g : DGet H a (kV k) (some r) := by rw [← hv]; exact .inl ⟨ks, k, hd, rfl, rfl⟩
  refine PyProof.Rows.tail_any (dict_typeIs I g) PySem.F.slot_dict_getitem.lookup (d_getItem hu I g ry fun w' s3 I3 rw' => ?_) hs
  exact ⟨r, H, I3, rw', q⟩
theorem opIx_ok (hu : X.A.units + 65 < cLine) : IxR X (rM X.K opIx) := by
  intro value slice pins s σ H x y v u Q I rx ry ⟨μ, S, d, e, c, rd, re, h⟩ hs
  cases rd with
  | @tup a vs ds q r =>
    cases re with
    | int i =>
      obtain ⟨z, hz, h⟩ := Pst.lft c h
      obtain ⟨w, h1, h2⟩ := r.atI hz
      exact ix_tup value slice pins s σ H _ _ v u Q I rx ry ⟨a, vs, i, w, rfl, rfl, q, h1, h w h2⟩ hs
    | _ => exact h.elim
  | str z =>
    cases re with
    | int i =>
      obtain ⟨hb, h⟩ := Pst.ite h
      obtain ⟨w, hz, h⟩ := Pst.lft c h
      cases q : VM.atI z i with
      | none => rw [q] at hz; cases hz
      | some c' =>
        rw [q] at hz
        cases hz
        exact ix_str value slice pins s σ H _ _ v u Q I rx ry ⟨st z, i, c', rfl, rfl, by rw [st_len, ← big_eq]; exact hb, q, h _ (.str [c'])⟩ hs
    | _ => exact h.elim
  | @ref n a hn =>
    obtain ⟨o, ho, _, h⟩ := pst_rd c hn h
    cases o with
    | lst l =>
      obtain ⟨vs, q, r⟩ := ho
      cases re with
      | int i =>
        obtain ⟨z, hz, h⟩ := Pst.lft c h
        obtain ⟨w, h1, h2⟩ := r.atI hz
        exact ix_list value slice pins s σ H _ _ v u Q I rx ry ⟨a, vs, i, w, rfl, rfl, SqL.of q, h1, h w h2⟩ hs
      | _ => exact h.elim
    | ro l =>
      obtain ⟨vs, ob, q, r⟩ := ho
      cases re with
      | int i =>
        obtain ⟨z, hz, h⟩ := Pst.lft c h
        obtain ⟨w, h1, h2⟩ := r.atI hz
        exact ix_list value slice pins s σ H _ _ v u Q I rx ry ⟨a, vs, i, w, rfl, rfl, .inl (.inr ⟨ob, q⟩), h1, h w h2⟩ hs
      | _ => exact h.elim
    | dk kvs =>
      obtain ⟨ks, q, r⟩ := ho
      obtain ⟨z, hz, h⟩ := Pst.lft c h
      cases hk : keyOf e with
      | none => rw [hk] at hz; cases hz
      | some k =>
        rw [hk] at hz
        obtain ⟨w, h1, h2⟩ := kget_some r hz
        exact ix_dK (by omega) value slice pins s σ H _ _ v u Q I rx ry ⟨a, ks, kS k, w, rfl, .inl q, key_rep re hk, h1, h w h2⟩ hs
    | fk kvs =>
      obtain ⟨ks, ob, q, r⟩ := ho
      obtain ⟨z, hz, h⟩ := Pst.lft c h
      cases hk : keyOf e with
      | none => rw [hk] at hz; cases hz
      | some k =>
        rw [hk] at hz
        obtain ⟨w, h1, h2⟩ := kget_some r hz
        exact ix_dK (by omega) value slice pins s σ H _ _ v u Q I rx ry ⟨a, ks, kS k, w, rfl, .inr ⟨ob, q⟩, key_rep re hk, h1, h w h2⟩ hs
    | ins q c fs => exact h.elim
    | nd kvs =>
      obtain ⟨xs, q, r, nn⟩ := ho
      obtain ⟨z, hz, h2⟩ := Pst.lft c h
      clear h
      obtain ⟨k, hk, hz⟩ := Option.bind_eq_some_iff.mp hz
      obtain ⟨cc, hcc, rfl⟩ := Option.map_eq_some_iff.mp hz
      obtain rfl := nkOf_eq hk
      obtain ⟨b, rfl⟩ := nk_ref re
      exact ix_nd (by omega) value slice pins s σ H _ _ v u Q I rx ry ⟨a, b, kvs, k, cc, μ, rfl, rfl, .inl ⟨xs, q, r, nn⟩, re, hcc, h2 _ (.int _)⟩ hs
    | nf _ => exact h.elim
  | @kl a vs ds q r =>
    cases re with
    | int i =>
      obtain ⟨z, hz, h⟩ := Pst.lft c h
      obtain ⟨w, h1, h2⟩ := r.atI hz
      exact ix_list value slice pins s σ H _ _ v u Q I rx ry ⟨a, vs, i, w, rfl, rfl, q H, h1, h w h2⟩ hs
    | _ => exact h.elim
  | _ => exact h.elim
/-- slices -/
def rSlM (K : PySem.W.Frag) : V → Option Int → Option Int → Hp → VK → Prop := fun x lo hi H Q => ∃ μ S d, Cor K μ S H ∧ Rep K μ H d x ∧ Pst K μ H (opSl d lo hi S) (fun z _ μ' H' => ∀ v, Rep K μ' H' z v → Q v H') W0
theorem sIx_eq (n d : Nat) (o : Option Int) : VM.sIx n d o = HT.sIx n d o := by
  cases o with
  | none => rfl
  | some v => rfl
theorem opSl_ok : SlR X (rSlM X.K) := by
  intro pins s σ H x v vl vu lo hi sl Q I rx hs pl pu ⟨μ, S, d, c, rd, h⟩
  cases rd with
  | @tup a vs ds q r =>
    refine sl_tupA pins s σ H _ v vl vu lo hi sl Q I rx hs pl pu ⟨a, vs, rfl, q, fun w => ?_, fun w p hp => ?_⟩
    · have e : cut ds lo hi = ds := by
        unfold cut
        rw [sIx_eq, sIx_eq, r.length, w.1, w.2, List.drop_zero, Nat.sub_zero, ← r.length, List.take_length]
      have h : Pst X.K μ H (ret (D.tup (cut ds lo hi)) S) (fun z _ μ' H' => ∀ v, Rep X.K μ' H' z v → Q v H') W0 := h
      rw [e] at h
      exact Pst.done c h (.tup q r)
    · obtain ⟨e, c2⟩ := c.side (u := .tup (cutV vs lo hi)) hp
      exact h _ _ c2 e _ (.tup (SqT.of upd_same) ((r.cut lo hi).ext e))
  | str z =>
    obtain ⟨hb, h⟩ := Pst.ite h
    refine sl_str pins s σ H _ v vl vu lo hi sl Q I rx hs pl pu ⟨st z, rfl, by rw [st_len, ← big_eq]; exact hb, ?_⟩
    have e : cutS (st z) lo hi = st (cut z lo hi) := by
      unfold cutS cut
      rw [sIx_eq, sIx_eq, st_len]
      rfl
    rw [e]
    exact Pst.done c h (.str _)
  | @ref n a hn =>
    obtain ⟨l, vs, q, r, h⟩ := pst_lst c hn h
    exact sl_list pins s σ H _ v vl vu lo hi sl Q I rx hs pl pu ⟨a, vs, rfl, q, fun p hp => Pst.newO c hp h fun μ' H' e z => ⟨_, z, (r.cut lo hi).ext e⟩⟩
  | _ => exact h.elim
/-- o[i] = v -/
def rSetM (K : PySem.W.Frag) : TSet := fun o i v H Q => ∃ μ S d e f, Cor K μ S H ∧ Rep K μ H d o ∧ Rep K μ H e i ∧ Rep K μ H f v ∧ Pst K μ H (opSet d e f S) (fun _ _ _ H' => Q H') W0
theorem opSet_ok (hu : X.A.units + 65 < cLine) : PSet X (rSetM X.K) := by
  intro pins s σ H o i v ov iv u Q I ro ri rv ⟨μ, S, d, e, f, c, rd, re, rf, h⟩
  cases rd with
  | @ref n a hn =>
    obtain ⟨ob, ho, _, h⟩ := pst_rd c hn h
    cases ob with
    | lst l =>
      obtain ⟨vs, q, r⟩ := ho
      cases re with
      | int k =>
        obtain ⟨j, hj, h⟩ := Pst.lft c (Pst.bnd h)
        obtain ⟨e1, c1⟩ := c.write (u := .lst (vs.set j v)) (o := .lst (l.set j f)) hn (fun ob u z => by rw [q] at z; cases z) fun H' e z => ⟨_, z, (r.set rf j).ext e⟩
        exact set_list pins s σ H _ _ v ov iv u Q I ro ri rv ⟨a, vs, k, j, rfl, rfl, q, by rw [← r.length]; exact hj, h _ _ c1 e1⟩
      | _ => exact h.elim
    | ro l => exact h.elim
    | fk l => exact h.elim
    | ins q c fs => exact h.elim
    | nd kvs =>
      obtain ⟨xs, q, r, nn⟩ := ho
      obtain ⟨k, hk, h1⟩ := Pst.lft c (Pst.bnd h)
      obtain ⟨cc, hcc, h2⟩ := Pst.lft c (Pst.bnd h1)
      obtain ⟨hb, h3⟩ := Pst.ite h2
      clear h h1 h2
      obtain rfl := nkOf_eq hk
      obtain rfl := intD_eq hcc
      obtain ⟨b, rfl⟩ := nk_ref re
      cases ro
      cases ri
      cases rf
      refine n_set (by omega) I (.inl ⟨xs, q, r, nn⟩) re rv (by rw [← big_eq]; exact hb) fun s' xs' r' I' => ?_
      obtain ⟨e1, c1⟩ := c.write (u := .ext (NdP a xs')) (o := .nd (nput kvs k cc)) hn (fun ob u z => by rw [q] at z; cases z) fun H' e z => ⟨xs', z, NRep.mon r' e.mon, nput_keys kvs k cc nn⟩
      exact ⟨_, I', h3 _ _ c1 e1⟩
    | nf _ => exact h.elim
    | dk kvs =>
      obtain ⟨ks, q, r⟩ := ho
      cases hnk : nkOf e with
      | some k =>
        simp only [hnk] at h
        obtain ⟨cc, hcc, h2⟩ := Pst.lft c (Pst.bnd h)
        obtain ⟨hb, h3⟩ := Pst.ite h2
        clear h h2
        obtain rfl := nkOf_eq hnk
        obtain rfl := intD_eq hcc
        obtain ⟨b, rfl⟩ := nk_ref re
        obtain rfl : kvs = [] := by cases kvs with
          | nil => rfl
          | cons _ _ => cases hb
        cases r
        cases ro
        cases ri
        cases rf
        refine n_set (kvs := []) (by omega) I (.inr ⟨rfl, q⟩) re rv (by rw [sizeLine_eq]; decide) fun s' xs' r' I' => ?_
        obtain ⟨e1, c1⟩ := c.write (u := .ext (NdP a xs')) (o := .nd (nput [] k cc)) hn (fun ob u z => by rw [q] at z; cases z) fun H' e z => ⟨xs', z, NRep.mon r' e.mon, nput_keys [] k cc List.nodup_nil⟩
        exact ⟨_, I', h3 _ _ c1 e1⟩
      | none =>
        simp only [hnk] at h
        obtain ⟨k, hk, h⟩ := Pst.lft c (Pst.bnd h)
        obtain ⟨hb, h⟩ := Pst.ite h
        obtain ⟨e1, c1⟩ := c.write (u := .dK (putK ks (kS k) v)) (o := .dk (kput kvs k f)) hn (fun ob u z => by rw [q] at z; cases z) fun H' e z => ⟨_, z, (kput_rep rf r).ext e⟩
        have ei := key_rep re hk
        subst ei
        cases ro
        exact d_setItem (by omega) I (DPut.k q (by rw [← KRep.length r, ← big_eq]; exact hb)) ri rv fun s' I' => ⟨_, I', h _ _ c1 e1⟩
  | _ => exact h.elim
theorem truth_V {x : V} {d : D} {α : Type} {f : Bool → M α} {R : α → Store → List Addr → Hp → Prop} {Wx : Nat → Hp → Prop} (c : Cor X.K μ S H) (rd : Rep X.K μ H d x) (h : Pst X.K μ H (bnd (truth d) f S) R Wx) : ∃ k, TruV X.K x H k ∧ Pst X.K μ H (f k S) R Wx := by
  unfold bnd truth at h
  have em : ∀ {ds : List D} {vs : List V}, Reps X.K μ H ds vs → (!ds.isEmpty) = !vs.isEmpty := fun r => by cases r <;> rfl
  cases rd with
  | non => exact ⟨false, rfl, h⟩
  | bl b => exact ⟨b, rfl, h⟩
  | int i => exact ⟨i != 0, rfl, h⟩
  | fn => exact h.elim
  | str s =>
    simp only at h
    by_cases hb : s.length ≤ big
    · rw [if_pos hb] at h
      refine ⟨!s.isEmpty, ⟨by rw [st_len, ← big_eq]; exact hb, ?_⟩, h⟩
      rw [st_len]
      cases s with
      | nil => rfl
      | cons a r => simp; omega
    · rw [if_neg hb] at h
      exact h.elim
  | @tup a vs ds q r => exact ⟨!ds.isEmpty, .inr (.inl ⟨vs, q, em r⟩), h⟩
  | @ref n a hn =>
    obtain ⟨o, h1, h2⟩ := c.obj' hn
    simp only [h1] at h
    cases o with
    | lst l => obtain ⟨vs, q, r⟩ := h2; exact ⟨!l.isEmpty, .inl ⟨vs, SqL.of q, em r⟩, h⟩
    | ro l => obtain ⟨vs, ob, q, r⟩ := h2; exact ⟨!l.isEmpty, .inl ⟨vs, .inl (.inr ⟨ob, q⟩), em r⟩, h⟩
    | dk kvs =>
      obtain ⟨ks, q, r⟩ := h2
      refine ⟨!kvs.isEmpty, .inr (.inr ⟨ks, q, ?_⟩), h⟩
      cases r <;> rfl
    | fk _ => exact h.elim
    | ins _ _ _ => exact h.elim
    | nd _ => exact h.elim
    | nf _ => exact h.elim
  | kl _ _ => exact h.elim
  | exc _ _ _ _ => exact h.elim
def rB (K : PySem.W.Frag) (f : List D → M D) : List V → Hp → VK → Prop := fun xs H Q => ∃ μ S ds, Cor K μ S H ∧ Reps K μ H ds xs ∧ Pst K μ H (f ds S) (fun z _ μ' H' => ∀ v, Rep K μ' H' z v → Q v H') W0
theorem bif_one {b : Bif} {ds : List D} {R : D → Store → List Addr → Hp → Prop} {Wx : Nat → Hp → Prop} (h : Pst X.K μ H (bifR b ds S) R Wx) : ∃ d, ds = [d] := by
  cases ds with
  | nil => cases b <;> exact h.elim
  | cons d r =>
    cases r with
    | nil => exact ⟨d, rfl⟩
    | cons e t => cases b <;> cases d <;> exact h.elim
theorem len_ok : CallR X (.builtin "len") (rB X.K (bifR .len)) := by
  intro pins s σ H xs us Q I rx ⟨μ, S, ds, c, r, h⟩
  obtain ⟨d, rfl⟩ := bif_one h
  cases r with
  | cons r rn =>
    cases rn
    cases r with
    | str z =>
      obtain ⟨hb, h⟩ := Pst.ite h
      exact call_len_str pins s σ H _ us Q I rx ⟨st z, rfl, by rw [st_len, ← big_eq]; exact hb, by rw [st_len]; exact Pst.done c h (.int _)⟩
    | @tup a vs ds q r => exact call_len_seq pins s σ H _ us Q I rx ⟨a, vs, rfl, .inr q, by rw [← r.length]; exact Pst.done c h (.int _)⟩
    | @ref n a hn =>
      obtain ⟨o, ho, _, h⟩ := pst_rd c hn h
      cases o with
      | lst l => obtain ⟨vs, q, r⟩ := ho; exact call_len_seq pins s σ H _ us Q I rx ⟨a, vs, rfl, .inl (SqL.of q), by rw [← r.length]; exact Pst.done c h (.int _)⟩
      | ro l => obtain ⟨vs, ob, q, r⟩ := ho; exact call_len_seq pins s σ H _ us Q I rx ⟨a, vs, rfl, .inl (.inl (.inr ⟨ob, q⟩)), by rw [← r.length]; exact Pst.done c h (.int _)⟩
      | dk kvs =>
        obtain ⟨ks, q, r⟩ := ho
        obtain ⟨u, rfl, ru⟩ := Vals.one rx
        obtain rfl : u = Value.ref a := ru
        refine d_len I (.inl q) fun t s' I' => ⟨.int ks.length, H, I', ⟨_, rfl⟩, ?_⟩
        rw [← KRep.length r]
        exact Pst.done c h (.int _)
      | fk _ => exact h.elim
      | ins _ _ _ => exact h.elim
      | nd kvs =>
        obtain ⟨xs, q, r, nn⟩ := ho
        obtain ⟨u, rfl, ru⟩ := Vals.one rx
        obtain rfl : u = Value.ref a := ru
        refine n_len I (.inl ⟨xs, q, r, nn⟩) fun t s' I' => ⟨.int kvs.length, H, I', ⟨_, rfl⟩, ?_⟩
        exact Pst.done c h (.int _)
      | nf _ => exact h.elim
    | @kl a vs ds q r => exact call_len_seq pins s σ H _ us Q I rx ⟨a, vs, rfl, .inl (q H), by rw [← r.length]; exact Pst.done c h (.int _)⟩
    | _ => exact h.elim
theorem abs_ok : CallR X (.builtin "abs") (rB X.K (bifR .abs)) := by
  intro pins s σ H xs us Q I rx ⟨μ, S, ds, c, r, h⟩
  obtain ⟨d, rfl⟩ := bif_one h
  cases r with
  | cons r rn =>
    cases rn
    cases r with
    | int i => exact call_abs pins s σ H _ us Q I rx ⟨i, rfl, Pst.done c h (.int _)⟩
    | _ => exact h.elim
theorem int_ok : CallR X (.type "int") (rB X.K (bifR .int)) := by
  intro pins s σ H xs us Q I rx ⟨μ, S, ds, c, r, h⟩
  obtain ⟨d, rfl⟩ := bif_one h
  cases r with
  | cons r rn =>
    cases rn
    cases r with
    | int i => exact call_int1 pins s σ H _ us Q I rx (.inl ⟨i, rfl, Pst.done c h (.int _)⟩)
    | bl k => exact call_int1 pins s σ H _ us Q I rx (.inr ⟨k, rfl, Pst.done c h (.int _)⟩)
    | str z =>
      obtain ⟨hb, h⟩ := Pst.ite h
      obtain ⟨n, hn, h⟩ := Pst.lft c (Pst.bnd h)
      exact call_int_str pins s σ H _ us Q I rx ⟨_, n, rfl, hn, by rw [st_len]; exact hb, Pst.done c h (.int _)⟩
    | _ => exact h.elim
theorem str_ok : CallR X (.type "str") (rB X.K (bifR .str)) := by
  intro pins s σ H xs us Q I rx ⟨μ, S, ds, c, r, h⟩
  obtain ⟨d, rfl⟩ := bif_one h
  cases r with
  | cons r rn =>
    cases rn
    cases r with
    | int i =>
      obtain ⟨hb, h⟩ := Pst.ite h
      refine call_str_int pins s σ H _ us Q I rx ⟨i, rfl, of_decide_eq_true hb, ?_⟩
      have e : st (PySem.Str.ofString (toString i)).cps.toList = PySem.Str.ofString (toString i) := TL.mk_tl _
      rw [← e]
      exact Pst.done c h (.str _)
    | str z => exact SkE.call_str_str pins s σ H _ us Q I rx ⟨_, rfl, Pst.done c h (.str _)⟩
    | _ => exact h.elim
theorem tuple_ok : CallR X (.type "tuple") (rB X.K (bifR .tuple)) := by
  intro pins s σ H xs us Q I rx ⟨μ, S, ds, c, r, h⟩
  obtain ⟨d, rfl⟩ := bif_one h
  cases r with
  | cons r rn =>
    cases rn
    cases r with
    | @tup a vs ds q r => exact call_tuple_of pins s σ H _ us Q I rx ⟨a, vs, rfl, .inr ⟨q, Pst.done c h (.tup q r)⟩⟩
    | @ref n a hn =>
      obtain ⟨l, vs, q, r, h⟩ := pst_lst c hn h
      refine call_tuple_of pins s σ H _ us Q I rx ⟨a, vs, rfl, .inl ⟨q, fun p hp => ?_⟩⟩
      obtain ⟨e, c2⟩ := c.side (u := .tup vs) hp
      exact h _ _ c2 e _ (.tup (SqT.of upd_same) (r.ext e))
    | _ => exact h.elim
theorem list_ok : CallR X (.type "list") (rB X.K (bifR .list)) := by
  intro pins s σ H xs us Q I rx ⟨μ, S, ds, c, r, h⟩
  obtain ⟨d, rfl⟩ := bif_one h
  cases r with
  | cons r rn =>
    cases rn
    cases r with
    | @tup a vs ds q r => exact call_list_of pins s σ H _ us Q I rx ⟨a, vs, rfl, .inr q, fun p hp => Pst.newO c hp h fun μ' H' e z => ⟨_, z, r.ext e⟩⟩
    | @ref n a hn =>
      obtain ⟨l, vs, q, r, h⟩ := pst_lst c hn h
      exact call_list_of pins s σ H _ us Q I rx ⟨a, vs, rfl, .inl q, fun p hp => Pst.newO c hp h fun μ' H' e z => ⟨_, z, r.ext e⟩⟩
    | _ => exact h.elim
def blOf : D → Option Bool
  | .bl b => some b
  | _ => none
theorem bls_of {K : PySem.W.Frag} : ∀ {l : List D} {vs : List V} {bs : List Bool}, Reps K μ H l vs → Paired (fun d b => blOf d = some b) l bs → vs = bs.map V.bl
  | _, _, _, .nil, .nil => rfl
  | _, _, _, .cons h r, .cons q t => by
    cases h with
    | bl b => cases q; rw [bls_of r t]; rfl
    | _ => cases q
theorem allany_ok {b : Bif} {f : List Bool → Bool} (hb : ∀ n, bifR b [.ref n] = bnd (lstOf n) fun l => bnd (lft (l.mapM blOf)) fun bs => ret (.bl (f bs))) (hn : ∀ d, (∀ n, d ≠ .ref n) → bifR b [d] = bad)
    {vs : List V} {ds : List D} (c : Cor X.K μ S H) (r : Reps X.K μ H ds vs) (h : Pst X.K μ H (bifR b ds S) (fun z _ μ' H' => ∀ v, Rep X.K μ' H' z v → Q v H') W0) : ∃ a bs, vs = [.ref a] ∧ SqL X.K H a (bs.map V.bl) ∧ Q (.bl (f bs)) H := by
  obtain ⟨d, rfl⟩ := bif_one h
  cases r with
  | cons r rn =>
    cases rn
    cases r with
    | @ref n a hnn =>
      rw [hb] at h
      obtain ⟨l, vs, q, r, h⟩ := pst_lst c hnn h
      obtain ⟨bs, hbs, h⟩ := Pst.lft c (Pst.bnd h)
      rw [bls_of r (mapM_some hbs)] at q
      exact ⟨a, bs, rfl, q, Pst.done c h (.bl _)⟩
    | _ => rw [hn _ (fun n z => by cases z)] at h; exact h.elim
theorem all_ok (hc : X.calm = true) : CallR X (.builtin "all") (rB X.K (bifR .all)) := by
  intro pins s σ H xs us Q I rx ⟨μ, S, ds, c, r, h⟩
  obtain ⟨a, bs, h1, h2, h3⟩ := allany_ok (f := fun bs => bs.all id) (b := .all) (fun n => rfl) (fun d hd => by cases d <;> first | rfl | exact absurd rfl (hd _)) c r h
  exact cr_all hc pins s σ H _ us Q I rx ⟨a, bs, h1, h2, h3⟩
theorem any_ok (hc : X.calm = true) : CallR X (.builtin "any") (rB X.K (bifR .any)) := by
  intro pins s σ H xs us Q I rx ⟨μ, S, ds, c, r, h⟩
  obtain ⟨a, bs, h1, h2, h3⟩ := allany_ok (f := fun bs => bs.any id) (b := .any) (fun n => rfl) (fun d hd => by cases d <;> first | rfl | exact absurd rfl (hd _)) c r h
  exact cr_any hc pins s σ H _ us Q I rx ⟨a, bs, h1, h2, h3⟩
theorem repr_ok (hu : X.A.units + 70 < cLine) (hg : X.A.guards = some []) : CallR X (.builtin "repr") (rB X.K (bifR .repr)) := by
  intro pins s σ H xs us Q I rx ⟨μ, S, ds, c, r, h⟩
  obtain ⟨d, rfl⟩ := bif_one h
  cases r with
  | @cons _ _ v _ r rn =>
    cases rn
    obtain ⟨u, rfl, ru⟩ := Vals.one rx
    have h : Pst X.K μ H (match deepR S dpt d with
      | some p => if showB p then Out.ok (D.str p.shown.cps.toList) S else .bad
      | none => .bad) (fun z _ μ' H' => ∀ v, Rep X.K μ' H' z v → Q v H') W0 := h
    cases hp : deepR S dpt d with
    | none => rw [hp] at h; exact h.elim
    | some p =>
      rw [hp] at h
      simp only at h
      by_cases hb : showB p = true
      · rw [if_pos hb] at h
        unfold showB at hb
        simp only [Bool.and_eq_true, decide_eq_true_eq] at hb
        obtain ⟨⟨h1, h3⟩, h4⟩ := hb
        have es : st p.shown.cps.toList = p.shown := TL.mk_tl _
        have q : Q (.str p.shown) H := by
          rw [← es]
          exact Pst.done c h (.str _)
        have dp := deepR_dq c _ _ _ _ r hp
        obtain ⟨as, hr, hno⟩ := Dq.reads I p v u dp ru
        have hz : p.shown.length ≤ sizeLine := by rw [← big_eq]; exact h3
        cases dp with
        | non => cases ru; exact PySem.P.repr_of_none ⟨.str _, H, I.tok _, ⟨_, rfl⟩, q⟩
        | bl b => cases ru; exact PySem.P.repr_of_bool ⟨.str _, H, I.tok _, ⟨_, rfl⟩, q⟩
        | int i =>
          obtain ⟨t, rfl⟩ := ru
          exact PySem.P.repr_of_int (of_decide_eq_true h1) ⟨.str _, H, I.tok _, ⟨_, rfl⟩, q⟩
        | str z =>
          obtain ⟨t, rfl⟩ := ru
          exact PySem.P.repr_of_str (h := ⟨.str _, H, I.tok _, ⟨_, rfl⟩, q⟩) (hsz := hz)
        | @lst a xs ds h5 h6 =>
          cases ru
          cases hdd : (PyData.list ds).hasDict with
          | true => exact repr_lst I h5 h6 h1 hz hdd hg (by omega) fun h' u tk hk => ⟨.str _, H, I.kept (t' := tk) hk, ⟨_, rfl⟩, q⟩
          | false => exact repr_of_reads' hr h1 (fun z => by rw [hdd] at z; cases z) hg (by omega) (fun _ _ e => e) (fun h' u tk hk => ⟨.str _, H, I.kept (t' := tk) hk, ⟨_, rfl⟩, q⟩) hz
        | @tup a xs ds h5 h6 =>
          cases ru
          exact repr_tup I h5 h6 h1 hz hg (by omega) fun h' u tk hk => ⟨.str _, H, I.kept (t' := tk) hk, ⟨_, rfl⟩, q⟩
        | @dk a h5 =>
          cases ru
          exact repr_of_reads' hr h1 (fun _ => hno rfl) hg (by omega) (fun _ _ e => e) (fun h' u tk hk => ⟨.str _, H, I.kept (t' := tk) hk, ⟨_, rfl⟩, q⟩) hz
      · rw [if_neg hb] at h
        exact h.elim
end
end VM
namespace VZ
open PySem
/-- an iterator over a list (false) or a tuple (true), and what it goes over -/
def ItA : Bool → Heap → Addr → Addr → Nat → Prop
  | true, h, it, l, i => h.IsTupleIter it l i
  | false, h, it, l, i => h.IsListIter it l i
def SqA : Bool → Heap → Addr → Array Value → Prop
  | true, h, l, xs => h.IsTuple l xs
  | false, h, l, xs => h.IsList l xs
section
variable {k : Bool} {h h' : Heap} {it l : Addr} {i : Nat} {xs : Array Value}
theorem ItA.mv (x : ItA k h it l i) (f : ∀ o, h.get? it = some o → h'.get? it = some o) : ItA k h' it l i := by
  cases k <;> exact x.at f
theorem SqA.mv (x : SqA k h l xs) (f : ∀ o, h.get? l = some o → h'.get? l = some o) : SqA k h' l xs := by
  cases k
  · obtain ⟨o, e, r⟩ := (x : h.IsList l xs); exact ⟨o, f o e, r⟩
  · obtain ⟨o, e, r⟩ := (x : h.IsTuple l xs); exact ⟨o, f o e, r⟩
theorem ItA.obj (x : ItA k h it l i) : ∃ o, h.get? it = some o ∧ o.data = .fields #[.ref l, .int i 0] := by
  cases k <;> (obtain ⟨o, e, _, d⟩ := x; exact ⟨o, e, d⟩)
theorem SqA.obj (x : SqA k h l xs) : ∃ o, h.get? l = some o := by
  cases k <;> (obtain ⟨o, e, _⟩ := x; exact ⟨o, e⟩)
end
section
variable {prog : Program} {w : World} {A : Around} {E : Value → Shared → Prop} {s : Shared} {k k1 k2 : Bool} {z TI TO T i1 i2 l1 l2 it l : Addr} {f : Bool} {oT : Obj} {n1 n2 i : Nat} {xs ys : Array Value} {x y a b : Value}
theorem next_one {Q : Value → Shared → Prop} (hi : ItA k s.heap it l i) (hl : SqA k s.heap l xs) (hx : xs[i]? = some x) (q : ∀ h', ItA k h' it l (i + 1) → Heap.SameBut it s.heap h' → Q x { s with heap := h' }) :
    wpAny (model prog w) A (Builtin.SmallTypes.nextOf (.ref it)) Q E s := by
  cases k
  · exact wpAny_nextOf_list_item hi hl hx q
  · exact RZ.nextOf_tuple_item hi hl hx q
theorem next_no {Q : Value → Shared → Prop} (hh : A.handled = none) (hi : ItA k s.heap it l i) (hl : SqA k s.heap l xs) (hx : xs[i]? = none)
    (q : ∀ h' e, Heap.ExtBut it s.heap h' → (∃ o, h'.get? e = some o ∧ o.cls = .type "StopIteration") → E (.ref e) { s with heap := h' }) : wpAny (model prog w) A (Builtin.SmallTypes.nextOf (.ref it)) Q E s := by
  cases k
  · exact wpAny_nextOf_list_end hh hi hl hx q
  · exact RZ.nextOf_tuple_end hh hi hl hx q
/-- a turn; nothing given out is about -/
theorem item_free {Q : Option Value → Shared → Prop} (D : ZipApart z TI TO i1 i2 l1 l2) (hz : IsZip s.heap z TI TO .none) (pI : IsPair s.heap TI (.ref i1) (.ref i2)) (pO : IsPair s.heap TO a b)
    (h1 : ItA k1 s.heap i1 l1 n1) (h2 : ItA k2 s.heap i2 l2 n2) (q1 : SqA k1 s.heap l1 xs) (q2 : SqA k2 s.heap l2 ys) (hx : xs[n1]? = some x) (hy : ys[n2]? = some y)
    (hQ : ∀ h', IsZip h' z TI TO (rawInt s.heap.objs.size) → IsPair h' TO x y → ItA k1 h' i1 l1 (n1 + 1) → ItA k2 h' i2 l2 (n2 + 1) → IsPair h' s.heap.objs.size x y → h'.objs.size = s.heap.objs.size + 1 →
      (∀ c o, c ≠ z → c ≠ TO → c ≠ i1 → c ≠ i2 → s.heap.get? c = some o → h'.get? c = some o) → Q (some (.ref s.heap.objs.size)) { s with heap := h' }) : wpAny (model prog w) A (pyNext (.ref z)) Q E s := by
  have ty : s.TypeIs (.ref z) "zip" := ⟨_, hz, rfl⟩
  unfold pyNext
  refine wpAny_bind (wpAny_attempt (wpAny_callSpecial?_slot (name := Str.ofString "__next__") ty F.slot_zip_next (wpAny_call_entry F.slot_zip_next ty F.entry_zip_next ?_ (F.args_zip_next_1 _))))
  show wpAny _ _ (field (.ref z) 2 >>= _) _ _ _; refine wpAny_bind (wpAny_field hz rfl (x := .bool false) rfl ?_)
  show wpAny _ _ (field (.ref z) 3 >>= _) _ _ _; refine wpAny_bind (wpAny_field hz rfl (x := .ref TI) rfl (wpAny_bind (wpAny_seqItems pI rfl ?_)))
  show wpAny _ _ (Builtin.SmallTypes.ownedTupleIsFree (.ref z) >>= _) _ _ _; refine wpAny_bind ?_
  unfold Builtin.SmallTypes.ownedTupleIsFree; refine wpAny_bind (wpAny_field hz rfl (x := .none) rfl (wpAny_pure ?_))
  simp only [if_true]
  refine wpAny_bind (wpAny_rule (wpAny_bind (wpAny_field hz rfl (x := .ref TO) rfl (wpAny_bind (wpAny_setField_rec hz (by simp) fun g1 z1 e1 => ?_)))))
  replace z1 : IsZip g1 z TI TO .ellipsis := z1
  refine wpAny_bind ?_
  simp only [List.zipIdx_cons, List.zipIdx_nil, List.forIn_cons, List.forIn_nil]
  refine wpAny_bind (wpAny_bind (wpAny_onRaise ?_)); show wpAny _ _ (Builtin.SmallTypes.nextOf (.ref i1) >>= _) _ _ _
  refine wpAny_bind (next_one (h1.mv fun o e => e1.extBut _ _ D.i1z e) (q1.mv fun o e => e1.extBut _ _ D.l1z e) hx fun g2 t1 e2 => wpAny_pure ?_)
  have pO2 : IsPair g2 TO a b := e2.extBut _ _ D.TOi1 (e1.extBut _ _ D.TOz pO)
  refine wpAny_bind (wpAny_seqItems pO2 rfl (wpAny_bind (wpAny_updateSeq_pair pO2 fun g3 p3 e3 => ?_)))
  replace p3 : IsPair g3 TO x b := p3
  refine wpAny_bind (wpAny_letGo (wpAny_pure (wpAny_bind (wpAny_bind (wpAny_onRaise ?_))))); show wpAny _ _ (Builtin.SmallTypes.nextOf (.ref i2) >>= _) _ _ _
  refine wpAny_bind (next_one (h2.mv fun o e => e3.extBut _ _ D.TOi2.symm (e2.extBut _ _ D.i12.symm (e1.extBut _ _ D.i2z e))) (q2.mv fun o e => e3.extBut _ _ D.l2TO (e2.extBut _ _ D.l2i1 (e1.extBut _ _ D.l2z e))) hy fun g4 t2 e4 => wpAny_pure ?_)
  have pO4 : IsPair g4 TO x b := e4.extBut _ _ D.TOi2 p3
  refine wpAny_bind (wpAny_seqItems pO4 rfl (wpAny_bind (wpAny_updateSeq_pair pO4 fun g5 p5 e5 => ?_)))
  replace p5 : IsPair g5 TO x y := p5
  refine wpAny_bind (wpAny_letGo (wpAny_pure (wpAny_pure (wpAny_bind (wpAny_seqItems p5 rfl (wpAny_bind (wpAny_newTuple ?_)))))))
  have sz : g5.objs.size = s.heap.objs.size := by rw [e5.1, e4.1, e3.1, e2.1, e1.1]
  have z5 : IsZip g5 z TI TO .ellipsis := e5.extBut _ _ D.TOz.symm (e4.extBut _ _ D.i2z.symm (e3.extBut _ _ D.TOz.symm (e2.extBut _ _ D.i1z.symm z1)))
  have k5 : ∀ c o, c ≠ z → c ≠ TO → c ≠ i1 → c ≠ i2 → s.heap.get? c = some o → g5.get? c = some o := fun c o c1 c2 c3 c4 e => e5.extBut _ _ c2 (e4.extBut _ _ c4 (e3.extBut _ _ c2 (e2.extBut _ _ c3 (e1.extBut _ _ c1 e))))
  have t1' : ItA k1 g5 i1 l1 (n1 + 1) := t1.mv fun o e => e5.extBut _ _ D.TOi1.symm (e4.extBut _ _ D.i12 (e3.extBut _ _ D.TOi1.symm e))
  have t2' : ItA k2 g5 i2 l2 (n2 + 1) := t2.mv fun o e => e5.extBut _ _ D.TOi2.symm e
  have zl : z < g5.objs.size := Heap.lt_size z5
  show wpAny _ _ (Builtin.SmallTypes.ownedTupleHandOut (.ref z) (.ref g5.objs.size) >>= _) _ _ _; refine wpAny_bind ?_
  unfold Builtin.SmallTypes.ownedTupleHandOut
  have z6 : IsZip (g5.push { cls := .type "tuple", data := .seq #[x, y] }) z TI TO .ellipsis := Heap.get?_push_of_some _ z5
  refine wpAny_bind (wpAny_setField_rec z6 (by simp) fun g7 z7 e7 => ?_)
  replace z7 : IsZip g7 z TI TO (rawInt g5.objs.size) := z7
  refine wpAny_setField_rec z7 (by simp) fun g8 z8 e8 => ?_
  replace z8 : IsZip g8 z TI TO (rawInt g5.objs.size) := z8
  have up : ∀ c o, c ≠ z → g5.get? c = some o → g8.get? c = some o := fun c o n e => e8.extBut _ _ n (e7.extBut _ _ n (Heap.get?_push_of_some _ e))
  have T8 : IsPair g8 g5.objs.size x y := e8.extBut _ _ (Nat.ne_of_gt zl) (e7.extBut _ _ (Nat.ne_of_gt zl) (Heap.get?_push_size _ rfl))
  have s8 : g8.objs.size = g5.objs.size + 1 := by rw [e8.1, e7.1, Heap.size_push]
  rw [sz] at z8 T8 s8
  refine wpAny_pure ⟨_, rfl, wpAny_pure ?_⟩
  show Q (some (.ref g5.objs.size)) _
  rw [sz]
  exact hQ g8 z8 (up _ _ D.TOz p5) (t1'.mv fun o e => up _ o D.i1z e) (t2'.mv fun o e => up _ o D.i2z e) T8 s8 fun c o c1 c2 c3 c4 e => up c o c1 (k5 c o c1 c2 c3 c4 e)
/-- a turn; what was given out last is still there -/
theorem item_held {Q : Option Value → Shared → Prop} (D : ZipApart z TI TO i1 i2 l1 l2) (hz : IsZipHeld s.heap z TI TO T f) (hT : s.heap.get? T = some oT) (pI : IsPair s.heap TI (.ref i1) (.ref i2))
    (h1 : ItA k1 s.heap i1 l1 n1) (h2 : ItA k2 s.heap i2 l2 n2) (q1 : SqA k1 s.heap l1 xs) (q2 : SqA k2 s.heap l2 ys) (hx : xs[n1]? = some x) (hy : ys[n2]? = some y)
    (hQ : ∀ h', IsZipHeld h' z TI TO T true → ItA k1 h' i1 l1 (n1 + 1) → ItA k2 h' i2 l2 (n2 + 1) → IsPair h' s.heap.objs.size x y → h'.objs.size = s.heap.objs.size + 1 →
      (∀ c o, c ≠ z → c ≠ i1 → c ≠ i2 → s.heap.get? c = some o → h'.get? c = some o) → Q (some (.ref s.heap.objs.size)) { s with heap := h' }) : wpAny (model prog w) A (pyNext (.ref z)) Q E s := by
  have ty : s.TypeIs (.ref z) "zip" := ⟨_, hz, rfl⟩
  unfold pyNext
  refine wpAny_bind (wpAny_attempt (wpAny_callSpecial?_slot (name := Str.ofString "__next__") ty F.slot_zip_next (wpAny_call_entry F.slot_zip_next ty F.entry_zip_next ?_ (F.args_zip_next_1 _))))
  show wpAny _ _ (field (.ref z) 2 >>= _) _ _ _; refine wpAny_bind (wpAny_field hz rfl (x := .bool false) rfl ?_)
  show wpAny _ _ (field (.ref z) 3 >>= _) _ _ _; refine wpAny_bind (wpAny_field hz rfl (x := .ref TI) rfl (wpAny_bind (wpAny_seqItems pI rfl ?_)))
  show wpAny _ _ (Builtin.SmallTypes.ownedTupleIsFree (.ref z) >>= _) _ _ _; refine wpAny_bind (wpAny_tupleHeld_zip hz hT fun g1 z1 e1 => ?_)
  simp only [Bool.false_eq_true, if_false]
  refine wpAny_bind ?_; rw [← Array.forIn_toList]; simp only [List.forIn_cons, List.forIn_nil]
  refine wpAny_bind (wpAny_bind (wpAny_holding ?_)); show wpAny _ _ (Builtin.SmallTypes.nextOf (.ref i1) >>= _) _ _ _
  refine wpAny_bind (next_one (s := { s with heap := g1 }) (h1.mv fun o e => e1.extBut _ _ D.i1z e) (q1.mv fun o e => e1.extBut _ _ D.l1z e) hx fun g2 t1 e2 => wpAny_pure (wpAny_pure (wpAny_bind (wpAny_bind (wpAny_holding ?_)))))
  show wpAny _ _ (Builtin.SmallTypes.nextOf (.ref i2) >>= _) _ _ _
  refine wpAny_bind (next_one (s := { s with heap := g2 }) (h2.mv fun o e => e2.extBut _ _ D.i12.symm (e1.extBut _ _ D.i2z e)) (q2.mv fun o e => e2.extBut _ _ D.l2i1 (e1.extBut _ _ D.l2z e)) hy fun g3 t2 e3 => wpAny_pure (wpAny_pure (wpAny_pure ?_)))
  show wpAny _ _ (newTuple [x, y] >>= _) _ _ _; refine wpAny_bind (wpAny_newTuple ?_)
  have sz : g3.objs.size = s.heap.objs.size := by rw [e3.1, e2.1, e1.1]
  have z3 : IsZipHeld g3 z TI TO T true := e3.extBut _ _ D.i2z.symm (e2.extBut _ _ D.i1z.symm z1)
  have kp : ∀ c o, c ≠ z → c ≠ i1 → c ≠ i2 → s.heap.get? c = some o → g3.get? c = some o := fun c o c1 c2 c3 e => e3.extBut _ _ c3 (e2.extBut _ _ c2 (e1.extBut _ _ c1 e))
  have t1' : ItA k1 g3 i1 l1 (n1 + 1) := t1.mv fun o e => e3.extBut _ _ D.i12 e
  refine wpAny_pure ⟨_, rfl, wpAny_pure ?_⟩
  show Q (some (.ref g3.objs.size)) _
  have pN : IsPair (g3.push { cls := .type "tuple", data := .seq #[x, y] }) g3.objs.size x y := Heap.get?_push_size _ rfl
  have s4 : (g3.push { cls := .type "tuple", data := .seq #[x, y] }).objs.size = g3.objs.size + 1 := Heap.size_push ..
  rw [sz] at pN s4 ⊢
  exact hQ _ (Heap.get?_push_of_some _ z3) (t1'.mv fun o e => Heap.get?_push_of_some _ e) (t2.mv fun o e => Heap.get?_push_of_some _ e) pN s4 fun c o c1 c2 c3 e => Heap.get?_push_of_some _ (kp c o c1 c2 c3 e)
/-- the end, what was given out last still there or nothing given out -/
theorem end_any {Q : Option Value → Shared → Prop} (hh : A.handled = none) (D : ZipApart z TI TO i1 i2 l1 l2) (hz : (IsZip s.heap z TI TO .none ∧ ∃ a b, IsPair s.heap TO a b) ∨ ∃ T f oT, IsZipHeld s.heap z TI TO T f ∧ s.heap.get? T = some oT)
    (pI : IsPair s.heap TI (.ref i1) (.ref i2)) (h1 : ItA k1 s.heap i1 l1 n1) (h2 : ItA k2 s.heap i2 l2 n2) (q1 : SqA k1 s.heap l1 xs) (q2 : SqA k2 s.heap l2 ys) (no : xs[n1]? = none ∨ ys[n2]? = none)
    (hQ : ∀ h', (∀ c o, c ≠ z → c ≠ TO → c ≠ i1 → c ≠ i2 → s.heap.get? c = some o → h'.get? c = some o) → Q none { s with heap := h' }) : wpAny (model prog w) A (pyNext (.ref z)) Q E s := by
  have ty : s.TypeIs (.ref z) "zip" := by rcases hz with ⟨e, _⟩ | ⟨_, _, _, e, _⟩ <;> exact ⟨_, e, rfl⟩
  have fin : ∀ h' e, (∀ c o, c ≠ z → c ≠ TO → c ≠ i1 → c ≠ i2 → s.heap.get? c = some o → h'.get? c = some o) → (∃ o, h'.get? e = some o ∧ o.cls = .type "StopIteration") →
      wpAny (model prog w) A (do if ← isInstance (.ref e) (.type "StopIteration") then pure none else throw (Value.ref e)) Q E { s with heap := h' } := fun h' e kp ⟨o, ho, hc⟩ =>
    wpAny_bind (wpAny_isInstance (T := "StopIteration") (b := true) ⟨o, ho, hc⟩ isSubtype_stop (wpAny_pure (hQ _ kp)))
  unfold pyNext
  refine wpAny_bind (wpAny_attempt (wpAny_callSpecial?_slot (name := Str.ofString "__next__") ty F.slot_zip_next (wpAny_call_entry F.slot_zip_next ty F.entry_zip_next ?_ (F.args_zip_next_1 _))))
  rcases hz with ⟨hz, a, b, pO⟩ | ⟨T, f, oT, hz, hT⟩
  · show wpAny _ _ (field (.ref z) 2 >>= _) _ _ _; refine wpAny_bind (wpAny_field hz rfl (x := .bool false) rfl ?_)
    show wpAny _ _ (field (.ref z) 3 >>= _) _ _ _; refine wpAny_bind (wpAny_field hz rfl (x := .ref TI) rfl (wpAny_bind (wpAny_seqItems pI rfl ?_)))
    show wpAny _ _ (Builtin.SmallTypes.ownedTupleIsFree (.ref z) >>= _) _ _ _; refine wpAny_bind ?_
    unfold Builtin.SmallTypes.ownedTupleIsFree; refine wpAny_bind (wpAny_field hz rfl (x := .none) rfl (wpAny_pure ?_))
    simp only [if_true]
    refine wpAny_bind (wpAny_rule (wpAny_bind (wpAny_field hz rfl (x := .ref TO) rfl (wpAny_bind (wpAny_setField_rec hz (by simp) fun g1 z1 e1 => ?_)))))
    replace z1 : IsZip g1 z TI TO .ellipsis := z1
    refine wpAny_bind ?_
    simp only [List.zipIdx_cons, List.zipIdx_nil, List.forIn_cons, List.forIn_nil]
    refine wpAny_bind (wpAny_bind (wpAny_onRaise ?_)); show wpAny _ _ (Builtin.SmallTypes.nextOf (.ref i1) >>= _) _ _ _
    have un : ∀ g h' e, IsZip g z TI TO .ellipsis → Heap.SameBut z g h' → (∃ o, g.get? e = some o ∧ o.cls = .type "StopIteration") → ∃ o, h'.get? e = some o ∧ o.cls = .type "StopIteration" := fun g h' e hg sb ⟨o, ho, hc⟩ =>
      ⟨o, sb.extBut _ _ (fun x => by subst x; rw [hg] at ho; cases ho; simp at hc) ho, hc⟩
    cases hx : xs[n1]? with
    | none =>
      refine wpAny_bind (next_no hh (h1.mv fun o e => e1.extBut _ _ D.i1z e) (q1.mv fun o e => e1.extBut _ _ D.l1z e) hx fun g2 e e2 he => ?_)
      have z2 : IsZip g2 z TI TO .ellipsis := e2 _ _ D.i1z.symm z1
      exact wpAny_setField_rec z2 (by simp) fun g3 _ e3 => fin g3 e (fun c o c1 _ c3 _ x => e3.extBut _ _ c1 (e2 _ _ c3 (e1.extBut _ _ c1 x))) (un g2 g3 e z2 e3 he)
    | some x =>
      have hy : ys[n2]? = none := no.resolve_left fun z => by rw [hx] at z; cases z
      refine wpAny_bind (next_one (h1.mv fun o e => e1.extBut _ _ D.i1z e) (q1.mv fun o e => e1.extBut _ _ D.l1z e) hx fun g2 t1 e2 => wpAny_pure ?_)
      have pO2 : IsPair g2 TO a b := e2.extBut _ _ D.TOi1 (e1.extBut _ _ D.TOz pO)
      refine wpAny_bind (wpAny_seqItems pO2 rfl (wpAny_bind (wpAny_updateSeq_pair pO2 fun g3 p3 e3 => ?_)))
      refine wpAny_bind (wpAny_letGo (wpAny_pure (wpAny_bind (wpAny_bind (wpAny_onRaise ?_))))); show wpAny _ _ (Builtin.SmallTypes.nextOf (.ref i2) >>= _) _ _ _
      refine wpAny_bind (next_no hh (h2.mv fun o e => e3.extBut _ _ D.TOi2.symm (e2.extBut _ _ D.i12.symm (e1.extBut _ _ D.i2z e))) (q2.mv fun o e => e3.extBut _ _ D.l2TO (e2.extBut _ _ D.l2i1 (e1.extBut _ _ D.l2z e))) hy fun g4 e e4 he => ?_)
      have z4 : IsZip g4 z TI TO .ellipsis := e4 _ _ D.i2z.symm (e3.extBut _ _ D.TOz.symm (e2.extBut _ _ D.i1z.symm z1))
      exact wpAny_setField_rec z4 (by simp) fun g5 _ e5 => fin g5 e (fun c o c1 c2 c3 c4 x => e5.extBut _ _ c1 (e4 _ _ c4 (e3.extBut _ _ c2 (e2.extBut _ _ c3 (e1.extBut _ _ c1 x))))) (un g4 g5 e z4 e5 he)
  · show wpAny _ _ (field (.ref z) 2 >>= _) _ _ _; refine wpAny_bind (wpAny_field hz rfl (x := .bool false) rfl ?_)
    show wpAny _ _ (field (.ref z) 3 >>= _) _ _ _; refine wpAny_bind (wpAny_field hz rfl (x := .ref TI) rfl (wpAny_bind (wpAny_seqItems pI rfl ?_)))
    show wpAny _ _ (Builtin.SmallTypes.ownedTupleIsFree (.ref z) >>= _) _ _ _; refine wpAny_bind (wpAny_tupleHeld_zip hz hT fun g1 z1 e1 => ?_)
    simp only [Bool.false_eq_true, if_false]
    refine wpAny_bind ?_; rw [← Array.forIn_toList]; simp only [List.forIn_cons, List.forIn_nil]
    refine wpAny_bind (wpAny_bind (wpAny_holding ?_)); show wpAny _ _ (Builtin.SmallTypes.nextOf (.ref i1) >>= _) _ _ _
    cases hx : xs[n1]? with
    | none =>
      refine wpAny_bind (next_no (s := { s with heap := g1 }) hh (h1.mv fun o e => e1.extBut _ _ D.i1z e) (q1.mv fun o e => e1.extBut _ _ D.l1z e) hx fun g2 e e2 he => ?_)
      exact fin g2 e (fun c o c1 _ c3 _ x => e2 _ _ c3 (e1.extBut _ _ c1 x)) he
    | some x =>
      have hy : ys[n2]? = none := no.resolve_left fun z => by rw [hx] at z; cases z
      refine wpAny_bind (next_one (s := { s with heap := g1 }) (h1.mv fun o e => e1.extBut _ _ D.i1z e) (q1.mv fun o e => e1.extBut _ _ D.l1z e) hx fun g2 t1 e2 => wpAny_pure (wpAny_pure (wpAny_bind (wpAny_bind (wpAny_holding ?_)))))
      show wpAny _ _ (Builtin.SmallTypes.nextOf (.ref i2) >>= _) _ _ _
      refine wpAny_bind (next_no (s := { s with heap := g2 }) hh (h2.mv fun o e => e2.extBut _ _ D.i12.symm (e1.extBut _ _ D.i2z e)) (q2.mv fun o e => e2.extBut _ _ D.l2i1 (e1.extBut _ _ D.l2z e)) hy fun g3 e e3 he => ?_)
      exact fin g3 e (fun c o c1 c2 c3 c4 x => e3 _ _ c4 (e2.extBut _ _ c3 (e1.extBut _ _ c1 x))) he
end
end VZ
namespace VZ
open PySem
def itC : Bool → String
  | true => "tuple_iterator"
  | false => "list_iterator"
abbrev itO (k : Bool) (l : Addr) : Obj := { cls := .type (itC k), data := .fields #[.ref l, .int 0 0] }
abbrev g1 (k1 : Bool) (h : Heap) (l1 : Addr) : Heap := h.push (itO k1 l1)
abbrev g2 (k1 k2 : Bool) (h : Heap) (l1 l2 : Addr) : Heap := (g1 k1 h l1).push (itO k2 l2)
abbrev g3 (k1 k2 : Bool) (h : Heap) (l1 l2 : Addr) : Heap := (g2 k1 k2 h l1 l2).push { cls := .type "tuple", data := .seq #[.ref h.objs.size, .ref (g1 k1 h l1).objs.size] }
abbrev g4 (k1 k2 : Bool) (h : Heap) (l1 l2 : Addr) : Heap := (g3 k1 k2 h l1 l2).push { cls := .type "tuple", data := .seq #[.none, .none] }
abbrev g5 (k1 k2 : Bool) (h : Heap) (l1 l2 : Addr) : Heap := (g4 k1 k2 h l1 l2).push { cls := .type "zip", data := .fields #[.none, .bool false, .bool false, .ref (g2 k1 k2 h l1 l2).objs.size, .ref (g3 k1 k2 h l1 l2).objs.size] }
theorem meets_zip (k1 k2 : Bool) (l1 l2 : Addr) (xs ys : Array Value) : Meets (Builtin.«zip.__new__» ⟨[.type "zip", .ref l1, .ref l2], []⟩) (fun _ R s => SqA k1 s.heap l1 xs ∧ SqA k2 s.heap l2 ys ∧ R (.ok (.ret (.ref (g4 k1 k2 s.heap l1 l2).objs.size))) { s with heap := g5 k1 k2 s.heap l1 l2 }) :=
  .of_wp fun prog w A R s h => by
    obtain ⟨hp, g, d, tk, os⟩ := s; obtain ⟨a1, a2, h⟩ := h
    have hsub := sub_zip
    cases k1 <;> cases k2
    · have b1 : Heap.IsList (Shared.heap ⟨hp, g, d, tk, os⟩) l1 xs := a1
      have b2 : Heap.IsList (Shared.heap ⟨hp.push { cls := .type "list_iterator", data := .fields #[.ref l1, .int 0 0] }, g, d, tk, os⟩) l2 ys := a2.mv fun o e => Heap.get?_push_of_some _ e
      wp_walk using wpAny_pyIter_list b1, wpAny_pyIter_list b2
      exact ⟨_, rfl, h⟩
    · have b1 : Heap.IsList (Shared.heap ⟨hp, g, d, tk, os⟩) l1 xs := a1
      have b2 : Heap.IsTuple (Shared.heap ⟨hp.push { cls := .type "list_iterator", data := .fields #[.ref l1, .int 0 0] }, g, d, tk, os⟩) l2 ys := (show SqA true _ l2 ys from a2).mv fun o e => Heap.get?_push_of_some _ e
      wp_walk using wpAny_pyIter_list b1, wpAny_pyIter_tuple b2
      exact ⟨_, rfl, h⟩
    · have b1 : Heap.IsTuple (Shared.heap ⟨hp, g, d, tk, os⟩) l1 xs := a1
      have b2 : Heap.IsList (Shared.heap ⟨hp.push { cls := .type "tuple_iterator", data := .fields #[.ref l1, .int 0 0] }, g, d, tk, os⟩) l2 ys := (show SqA false _ l2 ys from a2).mv fun o e => Heap.get?_push_of_some _ e
      wp_walk using wpAny_pyIter_tuple b1, wpAny_pyIter_list b2
      exact ⟨_, rfl, h⟩
    · have b1 : Heap.IsTuple (Shared.heap ⟨hp, g, d, tk, os⟩) l1 xs := a1
      have b2 : Heap.IsTuple (Shared.heap ⟨hp.push { cls := .type "tuple_iterator", data := .fields #[.ref l1, .int 0 0] }, g, d, tk, os⟩) l2 ys := (show SqA true _ l2 ys from a2).mv fun o e => Heap.get?_push_of_some _ e
      wp_walk using wpAny_pyIter_tuple b1, wpAny_pyIter_tuple b2
      exact ⟨_, rfl, h⟩
theorem it_new (k : Bool) {h : Heap} {it l : Addr} (e : h.get? it = some (itO k l)) : ItA k h it l 0 := by cases k <;> exact ⟨_, e, rfl, rfl⟩
section
variable {prog : Program} {w : World} {A : Around} {E : Value → Shared → Prop} {s : Shared} {k1 k2 : Bool} {l1 l2 : Addr} {xs ys : Array Value}
theorem call_zip {Q : Value → Shared → Prop} (q1 : SqA k1 s.heap l1 xs) (q2 : SqA k2 s.heap l2 ys)
    (h : ∀ h', IsZip h' (s.heap.objs.size + 4) (s.heap.objs.size + 2) (s.heap.objs.size + 3) .none → IsPair h' (s.heap.objs.size + 2) (.ref s.heap.objs.size) (.ref (s.heap.objs.size + 1)) → IsPair h' (s.heap.objs.size + 3) .none .none →
      ItA k1 h' s.heap.objs.size l1 0 → ItA k2 h' (s.heap.objs.size + 1) l2 0 → h'.objs.size = s.heap.objs.size + 5 → (∀ c o, s.heap.get? c = some o → h'.get? c = some o) → Q (.ref (s.heap.objs.size + 4)) { s with heap := h' }) :
    wpAny (model prog w) A (call (.type "zip") [.ref l1, .ref l2]) Q E s := by
  refine callType_new F.called_zip (by decide) (F.typeCall_zip_2 _ _) (F.newCall_zip_2 _ _) (fun obj => F.args_object_init_3 obj _ _) F.entry_zip_new (meets_zip k1 k2 l1 l2 xs ys) ⟨q1, q2, ?_⟩
  have z1 : (g1 k1 s.heap l1).objs.size = s.heap.objs.size + 1 := Heap.size_push ..
  have z2 : (g2 k1 k2 s.heap l1 l2).objs.size = s.heap.objs.size + 2 := by rw [Heap.size_push, z1]
  have z3 : (g3 k1 k2 s.heap l1 l2).objs.size = s.heap.objs.size + 3 := by rw [Heap.size_push, z2]
  have z4 : (g4 k1 k2 s.heap l1 l2).objs.size = s.heap.objs.size + 4 := by rw [Heap.size_push, z3]
  have z5 : (g5 k1 k2 s.heap l1 l2).objs.size = s.heap.objs.size + 5 := by rw [Heap.size_push, z4]
  have up : ∀ {c : Addr} {o u : Obj} {h : Heap}, h.get? c = some o → (h.push u).get? c = some o := fun e => Heap.get?_push_of_some _ e
  have e5 : (g5 k1 k2 s.heap l1 l2).get? (g4 k1 k2 s.heap l1 l2).objs.size = some _ := Heap.get?_push_size _ rfl
  have e4 : (g5 k1 k2 s.heap l1 l2).get? (g3 k1 k2 s.heap l1 l2).objs.size = some _ := up (Heap.get?_push_size _ rfl)
  have e3 : (g5 k1 k2 s.heap l1 l2).get? (g2 k1 k2 s.heap l1 l2).objs.size = some _ := up (up (Heap.get?_push_size _ rfl))
  have e2 : (g5 k1 k2 s.heap l1 l2).get? (g1 k1 s.heap l1).objs.size = some (itO k2 l2) := up (up (up (Heap.get?_push_size _ rfl)))
  have e1 : (g5 k1 k2 s.heap l1 l2).get? s.heap.objs.size = some (itO k1 l1) := up (up (up (up (Heap.get?_push_size _ rfl))))
  show _ ∧ _
  rw [z2, z3, z4] at e5; rw [z1, z2] at e3; rw [z3] at e4; rw [z1] at e2; rw [z4]
  exact ⟨⟨_, e5, rfl⟩, h _ e5 e3 e4 (it_new k1 e1) (it_new k2 e2) z5 fun c o x => up (up (up (up (up x))))⟩
end
/-- the state of a zip being walked: nothing given out, or something that stands at T -/
def ZSt (k1 k2 : Bool) (z TI TO i1 i2 l1 l2 d : Addr) (xs ys : Array Value) (i : Nat) (h : Heap) : Prop :=
  IsPair h TI (.ref i1) (.ref i2) ∧ ItA k1 h i1 l1 i ∧ ItA k2 h i2 l2 i ∧ SqA k1 h l1 xs ∧ SqA k2 h l2 ys ∧ ((IsZip h z TI TO .none ∧ ∃ a b, IsPair h TO a b) ∨ ∃ T f oT, IsZipHeld h z TI TO T f ∧ h.get? T = some oT ∧ T ≠ z ∧ T ≠ i1 ∧ T ≠ i2 ∧ T ≠ d)
section
variable {prog : Program} {w : World} {A : Around} {E : Value → Shared → Prop} {s : Shared} {k1 k2 : Bool} {z TI TO i1 i2 l1 l2 d : Addr} {xs ys : Array Value} {i : Nat}
theorem ZSt.mv {h h' : Heap} (st : ZSt k1 k2 z TI TO i1 i2 l1 l2 d xs ys i h) (off : d ∉ [z, TI, TO, i1, i2, l1, l2]) (kp : ∀ b o, b ≠ d → h.get? b = some o → h'.get? b = some o) : ZSt k1 k2 z TI TO i1 i2 l1 l2 d xs ys i h' := by
  simp only [List.mem_cons, List.not_mem_nil, or_false, not_or] at off
  obtain ⟨n1, n2, n3, n4, n5, n6, n7⟩ := off
  obtain ⟨pI, t1, t2, q1, q2, hz⟩ := st
  refine ⟨kp _ _ (Ne.symm n2) pI, t1.mv fun o e => kp _ o (Ne.symm n4) e, t2.mv fun o e => kp _ o (Ne.symm n5) e, q1.mv fun o e => kp _ o (Ne.symm n6) e, q2.mv fun o e => kp _ o (Ne.symm n7) e, ?_⟩
  rcases hz with ⟨hz, a, b, pO⟩ | ⟨T, f, oT, hz, hT, r1, r2, r3, r4⟩
  · exact .inl ⟨kp _ _ (Ne.symm n1) hz, a, b, kp _ _ (Ne.symm n3) pO⟩
  · exact .inr ⟨T, f, oT, kp _ _ (Ne.symm n1) hz, kp _ _ r4 hT, r1, r2, r3, r4⟩
/-- a turn of it -/
theorem ZSt.item {Q : Option Value → Shared → Prop} (D : ZipApart z TI TO i1 i2 l1 l2) (st : ZSt k1 k2 z TI TO i1 i2 l1 l2 d xs ys i s.heap) (hd : d < s.heap.objs.size) (hi : i < min xs.size ys.size)
    (hQ : ∀ h', IsPair h' s.heap.objs.size (xs[i]'(Nat.lt_of_lt_of_le hi (Nat.min_le_left ..))) (ys[i]'(Nat.lt_of_lt_of_le hi (Nat.min_le_right ..))) → ZSt k1 k2 z TI TO i1 i2 l1 l2 d xs ys (i + 1) h' →
      (∀ c o, c ≠ z → c ≠ TO → c ≠ i1 → c ≠ i2 → s.heap.get? c = some o → h'.get? c = some o) → Q (some (.ref s.heap.objs.size)) { s with heap := h' }) : wpAny (model prog w) A (pyNext (.ref z)) Q E s := by
  obtain ⟨pI, t1, t2, q1, q2, hz⟩ := st
  have ex := Array.getElem?_eq_getElem (xs := xs) (i := i) (Nat.lt_of_lt_of_le hi (Nat.min_le_left ..))
  have ey := Array.getElem?_eq_getElem (xs := ys) (i := i) (Nat.lt_of_lt_of_le hi (Nat.min_le_right ..))
  have lt : ∀ {c o}, s.heap.get? c = some o → s.heap.objs.size ≠ c := fun e => Nat.ne_of_gt (Heap.lt_size e)
  have m1 : s.heap.objs.size ≠ i1 := let ⟨_, e, _⟩ := t1.obj; lt e
  have m2 : s.heap.objs.size ≠ i2 := let ⟨_, e, _⟩ := t2.obj; lt e
  rcases hz with ⟨hz, a, b, pO⟩ | ⟨T, f, oT, hz, hT, r1, r2, r3, r4⟩
  · refine item_free D hz pI pO t1 t2 q1 q2 ex ey fun h' a1 a2 a3 a4 a5 a6 kp => hQ h' a5 ⟨kp _ _ D.TIz D.TITO D.TIi1 D.TIi2 pI, a3, a4, q1.mv fun o e => kp _ o D.l1z D.l1TO D.l1i1 D.l1i2 e, q2.mv fun o e => kp _ o D.l2z D.l2TO D.l2i1 D.l2i2 e, ?_⟩ kp
    exact .inr ⟨s.heap.objs.size, false, _, a1, a5, lt hz, m1, m2, Nat.ne_of_gt hd⟩
  · refine item_held D hz hT pI t1 t2 q1 q2 ex ey fun h' a1 a3 a4 a5 a6 kp => hQ h' a5 ⟨kp _ _ D.TIz D.TIi1 D.TIi2 pI, a3, a4, q1.mv fun o e => kp _ o D.l1z D.l1i1 D.l1i2 e, q2.mv fun o e => kp _ o D.l2z D.l2i1 D.l2i2 e, ?_⟩ fun c o c1 _ c3 c4 e => kp c o c1 c3 c4 e
    exact .inr ⟨T, true, oT, a1, kp _ _ r1 r2 r3 hT, r1, r2, r3, r4⟩
theorem min_end : xs[min xs.size ys.size]? = none ∨ ys[min xs.size ys.size]? = none := by
  rcases Nat.le_total xs.size ys.size with h | h
  · exact .inl (Array.getElem?_eq_none (by rw [Nat.min_eq_left h]; exact Nat.le_refl _))
  · exact .inr (Array.getElem?_eq_none (by rw [Nat.min_eq_right h]; exact Nat.le_refl _))
theorem ZSt.done {Q : Option Value → Shared → Prop} (hh : A.handled = none) (D : ZipApart z TI TO i1 i2 l1 l2) (st : ZSt k1 k2 z TI TO i1 i2 l1 l2 d xs ys (min xs.size ys.size) s.heap)
    (hQ : ∀ h', (∀ c o, c ≠ z → c ≠ TO → c ≠ i1 → c ≠ i2 → s.heap.get? c = some o → h'.get? c = some o) → Q none { s with heap := h' }) : wpAny (model prog w) A (pyNext (.ref z)) Q E s := by
  obtain ⟨pI, t1, t2, q1, q2, hz⟩ := st
  refine end_any hh D ?_ pI t1 t2 q1 q2 min_end hQ
  rcases hz with hz | ⟨T, f, oT, hz, hT, _⟩
  · exact .inl hz
  · exact .inr ⟨T, f, oT, hz, hT⟩
end
/-- as dict()'s argument -/
theorem arg_zip {prog : Program} {w : World} (k1 k2 : Bool) (z TI TO i1 i2 l1 l2 : Addr) (D : ZipApart z TI TO i1 i2 l1 l2) (xs ys : Array Value) :
    PairArg prog w "zip" z [z, TI, TO, i1, i2, l1, l2] [z, TO, i1, i2] (min xs.size ys.size) (fun i k v => xs[i]? = some k ∧ ys[i]? = some v)
      (fun h => IsZip h z TI TO .none ∧ IsPair h TI (.ref i1) (.ref i2) ∧ (∃ a b, IsPair h TO a b) ∧ ItA k1 h i1 l1 0 ∧ ItA k2 h i2 l2 0 ∧ SqA k1 h l1 xs ∧ SqA k2 h l2 ys) where
  type := fun s ok => ⟨_, ok.1, rfl⟩
  notDict := by decide
  keep := fun h h' ok kp => by
    obtain ⟨hz, pI, ⟨a, b, pO⟩, t1, t2, q1, q2⟩ := ok
    exact ⟨kp _ _ hz, kp _ _ pI, ⟨a, b, kp _ _ pO⟩, t1.mv fun o e => kp _ o e, t2.mv fun o e => kp _ o e, q1.mv fun o e => kp _ o e, q2.mv fun o e => kp _ o e⟩
  there := fun h ok b hb => by
    obtain ⟨hz, pI, ⟨a, c, pO⟩, t1, t2, q1, q2⟩ := ok
    obtain ⟨o1, t1, _⟩ := t1.obj
    obtain ⟨o2, t2, _⟩ := t2.obj
    obtain ⟨o3, q1⟩ := q1.obj
    obtain ⟨o4, q2⟩ := q2.obj
    simp only [List.mem_cons, List.not_mem_nil, or_false] at hb
    rcases hb with rfl | rfl | rfl | rfl | rfl | rfl | rfl
    all_goals first | exact ⟨_, hz⟩ | exact ⟨_, pI⟩ | exact ⟨_, pO⟩ | exact ⟨_, t1⟩ | exact ⟨_, t2⟩ | exact ⟨_, q1⟩ | exact ⟨_, q2⟩
  sub := fun b hb => by simp at hb ⊢; rcases hb with rfl | rfl | rfl | rfl <;> simp
  noKeys := fun A s Q E hA ok h => getAttrOr_miss_zip ok.1 rfl rfl rfl zip_no_keys (by decide +kernel) hA h
  iter := fun A s d Q E hA ok hd off h => by
    obtain ⟨hz, pI, pO, t1, t2, q1, q2⟩ := ok
    refine wpAny_pyIter_zip hz (h z [z, TO, i1, i2] (ZSt k1 k2 z TI TO i1 i2 l1 l2 d xs ys) s.heap s.toks ?_ ⟨pI, t1, t2, q1, q2, .inl ⟨hz, pO⟩⟩ (fun _ _ e => e) fun b hb => .inl hb)
    exact {
      off := fun hm => off (by simp only [List.mem_cons, List.not_mem_nil, or_false] at hm ⊢; rcases hm with e | e | e | e <;> simp [e])
      frame := fun i h₁ h₂ st kp => st.mv off kp
      item := fun i s₁ Q₁ E₁ hi st hds hQ => ZSt.item D st hds hi fun h' pN st' kp =>
        hQ s₁.heap.objs.size _ _ h' s₁.toks ⟨Array.getElem?_eq_getElem _, Array.getElem?_eq_getElem _⟩ (.inl ⟨_, pN, rfl, _, rfl⟩) st' fun c o hc e => kp c o (fun x => hc (by simp [x])) (fun x => hc (by simp [x])) (fun x => hc (by simp [x])) (fun x => hc (by simp [x])) e
      done := fun s₁ Q₁ E₁ st hQ => ZSt.done hA D st fun h' kp => hQ h' s₁.toks fun c o hc e => kp c o (fun x => hc (by simp [x])) (fun x => hc (by simp [x])) (fun x => hc (by simp [x])) (fun x => hc (by simp [x])) e }
section
variable {prog : Program} {w : World} {A : Around} {E : Value → Shared → Prop} {s : Shared} {R : Result → Shared → Prop} {k1 k2 : Bool} {z TI TO i1 i2 l1 l2 S : Addr} {xs ys : Array Value}
/-- the items so far: new tuples of the pairs -/
def Prs (N : Nat) (xs ys : Array Value) (h : Heap) (acc : Array Value) : Prop := ∀ (j : Nat) (v : Value), acc[j]? = some v → ∃ (p : Addr) (x y : Value), v = Value.ref p ∧ N ≤ p ∧ xs[j]? = some x ∧ ys[j]? = some y ∧ IsPair h p x y
theorem ne_ge {a N p : Nat} (h : a < N) (q : N ≤ p) : p ≠ a := by omega
theorem loop_zip (D : ZipApart z TI TO i1 i2 l1 l2) (hh : A.handled = none) (off : S ∉ [z, TI, TO, i1, i2, l1, l2]) (N : Nat) (hN : z < N ∧ TO < N ∧ i1 < N ∧ i2 < N ∧ S < N) (hn : min xs.size ys.size ≤ sizeLine) (res : Value) : ∀ (m i : Nat) (s : Shared) (acc : Array Value) (c : Nat),
    min xs.size ys.size - i = m → i ≤ min xs.size ys.size → ZSt k1 k2 z TI TO i1 i2 l1 l2 S xs ys i s.heap → s.heap.get? S = some { cls := .type "list", dict := none, data := .seq acc c, slots := #[] } → acc.size = i → Prs N xs ys s.heap acc → N ≤ s.heap.objs.size →
    (∀ h' acc' c', (∀ b o, b ≠ S → b ≠ z → b ≠ TO → b ≠ i1 → b ≠ i2 → s.heap.get? b = some o → h'.get? b = some o) → h'.get? S = some { cls := .type "list", dict := none, data := .seq acc' c', slots := #[] } → acc'.size = min xs.size ys.size → Prs N xs ys h' acc' → R (.ok (.ret res)) { s with heap := h' }) →
    codeAny (model prog w) A (.builtin "list.extend.loop" ⟨[.ref S, .ref z, res], []⟩) R s := by
  intro m
  induction m with
  | zero =>
    intro i s acc c hm hi st hS hl hp hs hR
    obtain rfl : i = min xs.size ys.size := by omega
    refine codeAny_builtin F.entry_extend_loop ?_; rw [Around.under_plainId F.plain_extend_loop _]
    show wpAny _ A.in1 (pyNext (.ref z) >>= _) _ _ s
    simp only [List.mem_cons, List.not_mem_nil, or_false, not_or] at off
    refine wpAny_bind (ZSt.done hh D st fun h' kp => wpAny_pure (hR h' acc c (fun b o _ c1 c2 c3 c4 e => kp b o c1 c2 c3 c4 e) (kp _ _ off.1 off.2.2.1 off.2.2.2.1 off.2.2.2.2.1 hS) hl fun j v e => ?_))
    obtain ⟨p, x, y, ev, hp1, e1, e2, pp⟩ := hp j v e
    exact ⟨p, x, y, ev, hp1, e1, e2, kp _ _ (ne_ge hN.1 hp1) (ne_ge hN.2.1 hp1) (ne_ge hN.2.2.1 hp1) (ne_ge hN.2.2.2.1 hp1) pp⟩
  | succ m ih =>
    intro i s acc c hm hi st hS hl hp hs hR
    have off' := off
    simp only [List.mem_cons, List.not_mem_nil, or_false, not_or] at off'
    have lt : i < min xs.size ys.size := by omega
    refine codeAny_builtin F.entry_extend_loop ?_; rw [Around.under_plainId F.plain_extend_loop _]
    show wpAny _ A.in1 (pyNext (.ref z) >>= _) _ _ s
    refine wpAny_bind (ZSt.item D st (Heap.lt_size hS) lt fun h' pN st' kp => ?_)
    have hS' := kp _ _ off'.1 off'.2.2.1 off'.2.2.2.1 off'.2.2.2.2.1 hS
    show wpAny _ A.in1 (updateSeq S (·.push (.ref s.heap.objs.size)) >>= _) _ _ _
    have oth : ∀ b o, b ≠ S → h'.get? b = some o → (h'.update S (Obj.mapSeq (·.push (.ref s.heap.objs.size)))).get? b = some o := fun b o n e => (Heap.get?_update_other _ _ (Ne.symm n)).trans e
    have big : s.heap.objs.size ≤ h'.objs.size := Nat.le_of_lt (Heap.lt_size pN)
    refine wpAny_bind (wpAny_updateSeq hS' rfl (wpAny_pure ⟨plainId_quiet F.plain_extend_loop _, ih (i + 1) _ (acc.push _) _ (by omega) lt (st'.mv off oth) (Heap.get?_update_self _ hS' rfl) (by rw [Array.size_push, hl]) (fun j v e => ?_) (by show N ≤ (h'.update S _).objs.size; rw [Heap.size_update]; omega) fun h2 acc' c' kp2 hS2 hl2 hp2 => ?_⟩)
      (by rw [hl]; omega) (by show (acc.push _).size ≤ sizeLine + 1; rw [Array.size_push, hl]; omega))
    · rw [Array.getElem?_push] at e
      split at e
      · rename_i ej
        cases e
        rw [hl] at ej
        subst ej
        exact ⟨_, _, _, rfl, hs, Array.getElem?_eq_getElem _, Array.getElem?_eq_getElem _, oth _ _ (ne_ge hN.2.2.2.2 hs) pN⟩
      · obtain ⟨p, x, y, ev, hp1, e1, e2, pp⟩ := hp j v e
        exact ⟨p, x, y, ev, hp1, e1, e2, oth _ _ (ne_ge hN.2.2.2.2 hp1) (kp _ _ (ne_ge hN.1 hp1) (ne_ge hN.2.1 hp1) (ne_ge hN.2.2.1 hp1) (ne_ge hN.2.2.2.1 hp1) pp)⟩
    · exact hR h2 acc' c' (fun b o c0 c1 c2 c3 c4 e => kp2 b o c0 c1 c2 c3 c4 (oth b o c0 (kp b o c1 c2 c3 c4 e))) hS2 hl2 hp2
theorem zip_no_len : typeLookup (.type "zip") "__len__" = pure none := am_miss_of_fast (by decide +kernel)
theorem zip_no_hint : typeLookup (.type "zip") "__length_hint__" = pure none := am_miss_of_fast (by decide +kernel)
theorem list_zip {Q : Value → Shared → Prop} (D : ZipApart z TI TO i1 i2 l1 l2) (hh : A.handled = none) (hn : min xs.size ys.size ≤ sizeLine) (lt : l1 < s.heap.objs.size ∧ l2 < s.heap.objs.size)
    (hz : IsZip s.heap z TI TO .none) (pI : IsPair s.heap TI (.ref i1) (.ref i2)) (pO : ∃ a b, IsPair s.heap TO a b) (t1 : ItA k1 s.heap i1 l1 0) (t2 : ItA k2 s.heap i2 l2 0) (q1 : SqA k1 s.heap l1 xs) (q2 : SqA k2 s.heap l2 ys)
    (hQ : ∀ h' acc c, (∀ b o, b ≠ z → b ≠ TO → b ≠ i1 → b ≠ i2 → s.heap.get? b = some o → h'.get? b = some o) → h'.get? s.heap.objs.size = some { cls := .type "list", dict := none, data := .seq acc c, slots := #[] } → acc.size = min xs.size ys.size →
      Prs (s.heap.objs.size + 1) xs ys h' acc → Q (.ref s.heap.objs.size) { s with heap := h' }) : wpAny (model prog w) A (call (.type "list") [.ref z]) Q E s := by
  refine callType_codes (Q₁ := fun obj s₁ => obj = .ref s.heap.objs.size ∧ s₁ = { s with heap := s.heap.push { cls := .type "list", data := .seq #[] } }) PySem.F.called_list (PySem.F.typeCall_list_1 _) PySem.F.entry_list_init (code_list_new _ ⟨rfl, rfl⟩) fun obj s₁ h₁ => ?_
  obtain ⟨rfl, rfl⟩ := h₁
  have hS0 : (s.heap.push { cls := .type "list", data := .seq #[] }).get? s.heap.objs.size = some { cls := .type "list", data := .seq #[] } := Heap.get?_push_size _ rfl
  have ne : ∀ {b o}, s.heap.get? b = some o → b ≠ s.heap.objs.size := fun e => Nat.ne_of_lt (Heap.lt_size e)
  obtain ⟨a0, b0, pO⟩ := pO
  have off : s.heap.objs.size ∉ [z, TI, TO, i1, i2, l1, l2] := by
    obtain ⟨o1, x1, _⟩ := t1.obj
    obtain ⟨o2, x2, _⟩ := t2.obj
    simp only [List.mem_cons, List.not_mem_nil, or_false, not_or]
    exact ⟨(ne hz).symm, (ne pI).symm, (ne pO).symm, (ne x1).symm, (ne x2).symm, Nat.ne_of_gt lt.1, Nat.ne_of_gt lt.2⟩
  have ltz : z < s.heap.objs.size ∧ TO < s.heap.objs.size ∧ i1 < s.heap.objs.size ∧ i2 < s.heap.objs.size := ⟨Heap.lt_size hz, Heap.lt_size pO, let ⟨_, e, _⟩ := t1.obj; Heap.lt_size e, let ⟨_, e, _⟩ := t2.obj; Heap.lt_size e⟩
  have st0 : ZSt k1 k2 z TI TO i1 i2 l1 l2 s.heap.objs.size xs ys 0 s.heap := ⟨pI, t1, t2, q1, q2, .inl ⟨hz, a0, b0, pO⟩⟩
  have st1 : ZSt k1 k2 z TI TO i1 i2 l1 l2 s.heap.objs.size xs ys 0 (s.heap.push { cls := .type "list", data := .seq #[] }) := st0.mv off fun b o _ e => Heap.get?_push_of_some _ e
  have ty : ∀ h g d tk os, IsZip h z TI TO .none → (⟨h, g, d, tk, os⟩ : Shared).TypeIs (.ref z) "zip" := fun _ _ _ _ _ e => ⟨_, e, rfl⟩
  refine ⟨⟨_, hS0, rfl⟩, PySem.F.args_list_init_2 _ _, ?_⟩
  show wpAny _ _ (do let old ← Builtin.List.listItems (.ref s.heap.objs.size); Builtin.List.listUpdate (.ref s.heap.objs.size) (fun _ => #[]); letGo old.toList.reverse; Builtin.List.listExtendWith (.ref s.heap.objs.size) (.ref z) .none) _ _ _
  refine wpAny_bind ?_; unfold Builtin.List.listItems
  refine wpAny_bind (wpAny_seqItems hS0 rfl (wpAny_pure ?_))
  show wpAny _ _ (updateSeq s.heap.objs.size (fun _ => #[]) >>= fun _ => letGo (#[] : Array Value).toList.reverse >>= fun _ => Builtin.List.listExtendWith (.ref s.heap.objs.size) (.ref z) .none) _ _ _
  refine wpAny_bind (wpAny_updateSeq hS0 rfl ?_)
  have hS1 := Heap.get?_update_self (Obj.mapSeq (fun _ => (#[] : Array Value))) hS0 rfl
  have oth1 : ∀ b o, b ≠ s.heap.objs.size → (s.heap.push { cls := .type "list", data := .seq #[] }).get? b = some o → ((s.heap.push { cls := .type "list", data := .seq #[] }).update s.heap.objs.size (Obj.mapSeq (fun _ => (#[] : Array Value)))).get? b = some o :=
    fun b o n e => (Heap.get?_update_other _ _ (Ne.symm n)).trans e
  have sz1 : ((s.heap.push { cls := .type "list", data := .seq #[] }).update s.heap.objs.size (Obj.mapSeq (fun _ => (#[] : Array Value)))).objs.size = s.heap.objs.size + 1 := by rw [Heap.size_update, Heap.size_push]
  refine wpAny_bind (wpAny_letGo ?_)
  have st2 := st1.mv off oth1
  have all1 : ∀ b o, s.heap.get? b = some o → ((s.heap.push { cls := .type "list", data := .seq #[] }).update s.heap.objs.size (Obj.mapSeq (fun _ => (#[] : Array Value)))).get? b = some o := fun b o e => oth1 b o (ne e) (Heap.get?_push_of_some _ e)
  generalize (s.heap.push { cls := .type "list", data := .seq #[] }).update s.heap.objs.size (Obj.mapSeq (fun _ => (#[] : Array Value))) = G at hS1 oth1 st2 sz1 all1 ⊢
  have hzG : IsZip G z TI TO .none := all1 _ _ hz
  unfold Builtin.List.listExtendWith
  refine wpAny_bind (wpAny_typeOf (ty _ _ _ _ _ hzG) ?_)
  have n1 : Builtin.List.listSameRef (.ref s.heap.objs.size) (.ref z) = false := by simp [Builtin.List.listSameRef, (ne hz).symm]
  simp only [n1, show (Value.type "zip" == Value.type "list") = false by decide, show (Value.type "zip" == Value.type "tuple") = false by decide, Bool.or_false, Bool.false_eq_true, if_false]
  refine wpAny_bind (wpAny_pyIter_zip hzG (wpAny_bind (wpAny_holding ?_)))
  unfold Builtin.List.listLengthHint
  refine wpAny_bind (wpAny_specialOf (ty _ _ _ _ _ hzG) zip_no_len ?_)
  show wpAny _ _ (specialOf (Value.ref z) (Str.ofString "__length_hint__") >>= _) _ _ _; refine wpAny_bind (wpAny_specialOf (ty _ _ _ _ _ hzG) zip_no_hint (wpAny_pure ?_))
  have key : ∀ (R : Result → Shared → Prop), (∀ h' acc c, (∀ b o, b ≠ z → b ≠ TO → b ≠ i1 → b ≠ i2 → s.heap.get? b = some o → h'.get? b = some o) → h'.get? s.heap.objs.size = some { cls := .type "list", dict := none, data := .seq acc c, slots := #[] } → acc.size = min xs.size ys.size →
      Prs (s.heap.objs.size + 1) xs ys h' acc → R (.ok (.ret .none)) { s with heap := h' }) → ∀ (h : Heap) (c : Nat), (∀ b o, b ≠ s.heap.objs.size → G.get? b = some o → h.get? b = some o) → h.objs.size = s.heap.objs.size + 1 → h.get? s.heap.objs.size = some { cls := .type "list", data := .seq #[] c } →
      codeAny (model prog w) A.in1 (.builtin "list.extend.loop" ⟨[.ref s.heap.objs.size, .ref z, .none], []⟩) R { s with heap := h } := fun R hR h c kp sz hS => by
    refine loop_zip (A := A.in1) (xs := xs) (ys := ys) D hh off (s.heap.objs.size + 1) ⟨Nat.lt_succ_of_lt ltz.1, Nat.lt_succ_of_lt ltz.2.1, Nat.lt_succ_of_lt ltz.2.2.1, Nat.lt_succ_of_lt ltz.2.2.2, Nat.lt_succ_self _⟩ hn .none _ 0 _ #[] c rfl (Nat.zero_le _) (st2.mv off kp) hS rfl (fun j v e => by simp at e) (by show _ ≤ h.objs.size; omega) fun h' acc c' kp' hS' hl hp => ?_
    exact hR h' acc c' (fun b o c1 c2 c3 c4 e => kp' b o (ne e) c1 c2 c3 c4 (kp b o (ne e) (all1 b o e))) hS' hl hp
  refine wpAny_ite_split (fun _ => ?_) (fun _ => wpAny_pure ⟨plainId_quiet PySem.F.plain_extend_loop _, key _ (fun h' acc c kp hS hl hp => ⟨rfl, hQ h' acc c kp hS hl hp⟩) G _ (fun b o _ e => e) sz1 hS1⟩)
  refine wpAny_bind (wpAny_rule (wpAny_bind ?_))
  show wpAny _ _ (updateSeq s.heap.objs.size (·.push .none) >>= fun _ => updateSeq s.heap.objs.size (·.pop)) _ _ _; refine wpAny_bind (wpAny_updateSeq hS1 rfl ?_)
  have hS2 := Heap.get?_update_self (Obj.mapSeq (·.push Value.none)) hS1 rfl
  refine wpAny_updateSeq (hz := by seq_fits) hS2 rfl ?_
  have hS3 := Heap.get?_update_self (Obj.mapSeq (·.pop)) hS2 rfl
  refine wpAny_pure ⟨plainId_quiet PySem.F.plain_extend_loop _, key _ (fun h' acc c kp hS hl hp => ⟨rfl, hQ h' acc c kp hS hl hp⟩) _ _ (fun b o n e => ?_) ?_ hS3⟩
  · exact (Heap.get?_update_other _ _ (Ne.symm n)).trans ((Heap.get?_update_other _ _ (Ne.symm n)).trans e)
  · rw [Heap.size_update, Heap.size_update, sz1]
end
end VZ
set_option maxHeartbeats 2000000
namespace VZ
open PySem PySem.Spec PyProof.Rows L2
/-- a list (false) or a tuple (true) that may be read -/
def SqK (K : PySem.W.Frag) : Bool → Hp → Addr → List V → Prop
  | true, H, a, xs => SqT K H a xs
  | false, H, a, xs => SqL K H a xs
section
variable {X : Cx} {pins : List (Addr × Obj)} {σ : L2.St} {H : Hp} {s : Shared} {k : Bool} {a : Addr} {xs ys : List V}
theorem sq_raw (I : Inv X pins σ H s) (q : SqK X.K k H a xs) : ∃ its : List Value, Vals xs its ∧ SqA k s.heap a its.toArray ∧ xs.length ≤ sizeLine ∧ a < s.heap.objs.size := by
  cases k
  · obtain ⟨its, r, p, z⟩ := I.list q
    exact ⟨its, r, p.isList, z, p.lt⟩
  · obtain ⟨its, r, p, z⟩ := I.tuple q
    exact ⟨its, r, (show s.heap.IsTuple a its.toArray from p), z, p.lt⟩
theorem sq_inj (I : Inv X pins σ H s) (q : SqK X.K k H a xs) (q' : SqK X.K k H a ys) : xs = ys := by
  cases k
  · exact I.list_inj q q'
  · exact I.tuple_inj q q'
/-- many new objects at once -/
theorem inv_many {H' : Hp} {h' : Heap} {t' : Nat} (I : Inv X pins σ H s) (kp : ∀ b u, s.heap.get? b = some u → h'.get? b = some u) (ext : ∀ b o, H b = some o → H' b = some o) (fresh : ∀ b, H b = none → H' b ≠ none → s.heap.objs.size ≤ b)
    (new : ∀ b o, H b = none → H' b = some o → ObjOk X.prog X.w H' h' b o) : Inv X pins σ H' { s with heap := h', toks := t' } := by
  refine I.un ⟨fun b u q _ _ _ => kp b u q, fun b u q _ _ _ => ⟨u.slots, kp b u q⟩, fun b u q n _ => ?_, fun b u q _ => ⟨u, kp b u q⟩, fun b xs q => ext b _ q, fun b u xs q => ext b _ q, fun b ps q => ⟨#[], by rw [ext b _ q]; simp⟩⟩ fun b o e => ?_
  · cases z : H' b with
    | none => rfl
    | some o => exact absurd (Heap.lt_size q) (Nat.not_lt.mpr (fresh b n (by rw [z]; exact fun y => by cases y)))
  · cases z : H b with
    | none => exact new b o z e
    | some u =>
      have e2 := ext b u z
      rw [e] at e2
      cases e2
      exact (I.hok b o z).stay (fun c v _ q => kp c v q) (fun c q => ext c _ q) fun c xs q => ext c _ q
end
/-- the two at each turn, in a new pair -/
def ItzM (K : PySem.W.Frag) (k1 k2 : Bool) (a b : Addr) : It :=
  ⟨fun i H => ∃ (xs ys : List V) (x y : V), SqK K k1 H a xs ∧ SqK K k2 H b ys ∧ xs[i]? = some x ∧ ys[i]? = some y,
    fun i H v H' => ∃ T x y, v = .ref T ∧ H T = none ∧ H' = upd H T (.tup [x, y]) ∧ (∀ xs, SqK K k1 H a xs → xs[i]? = some x) ∧ ∀ ys, SqK K k2 H b ys → ys[i]? = some y,
    fun i H => ∃ xs ys : List V, SqK K k1 H a xs ∧ SqK K k2 H b ys ∧ (xs.length ≤ i ∨ ys.length ≤ i)⟩
theorem turnM {P : Program} {w : World} {K : PySem.W.Frag} {elts : List Expr} {kk : Nat} {tpos : Pos} {k1 k2 : Bool} {a b z TI TO i1 i2 : Addr} (D : ZipApart z TI TO i1 i2 a b) :
    Turn P w K (.Tuple elts kk tpos) (ItzM K k1 k2 a b) [z, TI, TO, i1, i2] z (fun i h => IsZip h z TI TO .none ∧ IsPair h TI (.ref i1) (.ref i2) ∧ (∃ x y, IsPair h TO x y) ∧ ItA k1 h i1 a i ∧ ItA k2 h i2 b i) where
  mem := by simp
  obj := fun i h ⟨hz, pI, ⟨x, y, pO⟩, t1, t2⟩ c hc => by
    obtain ⟨o1, e1, d1⟩ := t1.obj
    obtain ⟨o2, e2, d2⟩ := t2.obj
    simp only [List.mem_cons, List.not_mem_nil, or_false] at hc
    rcases hc with q | q | q | q | q <;> rw [q]
    · exact ⟨_, hz, fun v q => nomatch q⟩
    · exact ⟨_, pI, fun v q => nomatch q⟩
    · exact ⟨_, pO, fun v q => nomatch q⟩
    · exact ⟨o1, e1, fun v q => by rw [d1] at q; cases q⟩
    · exact ⟨o2, e2, fun v q => by rw [d2] at q; cases q⟩
  keep := fun i h h' ⟨hz, pI, ⟨x, y, pO⟩, t1, t2⟩ kp => ⟨kp z (by simp) _ hz, kp TI (by simp) _ pI, ⟨x, y, kp TO (by simp) _ pO⟩, t1.mv fun o q => kp i1 (by simp) o q, t2.mv fun o q => kp i2 (by simp) o q⟩
  item := by
    intro X hP hw hK hc i pins s σ H E I hf st hg
    subst hP hw hK
    obtain ⟨hz, pI, ⟨x0, y0, pO⟩, t1, t2⟩ := st
    obtain ⟨xs, ys, x, y, qx, qy, hx, hy⟩ := hg
    obtain ⟨its, rv, p, _⟩ := sq_raw I qx
    obtain ⟨its2, rv2, p2, _⟩ := sq_raw I qy
    obtain ⟨u, hu, ru⟩ := rv.get hx
    obtain ⟨u2, hu2, ru2⟩ := rv2.get hy
    have zl : z < s.heap.objs.size := Heap.lt_size hz
    refine item_free D hz pI pO t1 t2 p p2 (x := u) (y := u2) (by simpa using hu) (by simpa using hu2) fun h' z' O' t1' t2' hT hsz kp => ⟨_, rfl, wpAny_letOwnedTupleGo_zip (s := { s with heap := h' }) z' fun h'' z'' sb => ?_⟩
    have hT2 : h''.get? s.heap.objs.size = some { cls := .type "tuple", data := .seq #[u, u2] } := (sb.2 _ (Nat.ne_of_gt zl)).trans hT
    have new : ObjOk X.prog X.w (upd H s.heap.objs.size (.tup [x, y])) h'' s.heap.objs.size (.tup [x, y]) := ⟨by show 2 ≤ sizeLine; decide, [u, u2], .cons ru (.cons ru2 .nil), _, hT2, rfl, _, rfl⟩
    have I1 : Inv X pins σ (upd H s.heap.objs.size (.tup [x, y])) { s with heap := h'' } := I.turnedNew (t' := s.toks) (ch := [z, TI, TO, i1, i2]) (fun c o hb q =>
      (sb.2 c fun e => hb (by simp [e])).trans (kp c o (fun e => hb (by simp [e])) (fun e => hb (by simp [e])) (fun e => hb (by simp [e])) (fun e => hb (by simp [e])) q)) hf (Nat.le_refl _) new
    refine ⟨.ref s.heap.objs.size, _, I1, rfl, ⟨_, x, y, rfl, I.hok.fresh (Nat.le_refl _), rfl, fun l hl => by rw [sq_inj I hl qx]; exact hx, fun l hl => by rw [sq_inj I hl qy]; exact hy⟩, ⟨z'', ?_, ⟨u, u2, ?_⟩, ?_, ?_⟩, fun c hcm => ?_⟩
    · exact (sb.2 _ D.TIz).trans (kp _ _ D.TIz D.TITO D.TIi1 D.TIi2 pI)
    · exact (sb.2 _ D.TOz).trans O'
    · exact t1'.mv fun o q => (sb.2 _ D.i1z).trans q
    · exact t2'.mv fun o q => (sb.2 _ D.i2z).trans q
    · obtain ⟨o1, e1, _⟩ := t1.obj
      obtain ⟨o2, e2, _⟩ := t2.obj
      have lt : c < s.heap.objs.size := by
        simp only [List.mem_cons, List.not_mem_nil, or_false] at hcm
        rcases hcm with q | q | q | q | q <;> rw [q]
        · exact zl
        · exact Heap.lt_size pI
        · exact Heap.lt_size pO
        · exact Heap.lt_size e1
        · exact Heap.lt_size e2
      rw [upd_ne (Nat.ne_of_lt lt)]
      exact (hf c hcm).1
  done := by
    intro X hP hw hK hc i pins s σ H E I hf st hg
    subst hP hw hK
    obtain ⟨hz, pI, pO, t1, t2⟩ := st
    obtain ⟨xs, ys, qx, qy, he⟩ := hg
    obtain ⟨its, rv, p, _⟩ := sq_raw I qx
    obtain ⟨its2, rv2, p2, _⟩ := sq_raw I qy
    have m1 := rv.length
    have m2 := rv2.length
    have no : its.toArray[i]? = none ∨ its2.toArray[i]? = none := he.imp (fun q => by simp; omega) fun q => by simp; omega
    exact end_any (I.ok.hd hc) D (.inl ⟨hz, pO⟩) pI t1 t2 p p2 no fun h' kp => ⟨rfl, I.turnedL (t' := s.toks) (ch := [z, TI, TO, i1, i2]) (fun c o hb q => kp c o (fun e => hb (by simp [e])) (fun e => hb (by simp [e])) (fun e => hb (by simp [e])) (fun e => hb (by simp [e])) q) hf⟩
  self := fun A i s Q E st h => wpAny_pyIter_zip st.1 h
def two (K : PySem.W.Frag) (ta : TA) (R : Bool → Bool → Addr → Addr → List V → List V → Hp → Prop) : L2.St → Hp → Prop := fun σ H => ta σ H fun vs H1 => ∃ k1 k2 a b xs ys, vs = [V.ref a, V.ref b] ∧ SqK K k1 H1 a xs ∧ SqK K k2 H1 b ys ∧ R k1 k2 a b xs ys H1
def iZipM (K : PySem.W.Frag) (ta : TA) : TI := fun σ H R => two K ta (fun k1 k2 a b _ _ H1 => R (ItzM K k1 k2 a b) H1) σ H
section
variable {X : Cx} {e e2 : Expr} {ta : TA}
/-- zip(e, e2) made; what is behind it, in the machine's words -/
theorem zip_made {pins : List (Addr × Obj)} {s : Shared} {σ : L2.St} {H : Hp} {p pos : Pos} {Q : Value → Shared → Prop} {R : Bool → Bool → Addr → Addr → List V → List V → Hp → Prop} (hg : Gl X "zip") (hm : X.mg "zip" = none) (ha : PA X [e, e2] ta)
    (hs : starEach [e, e2] X.env = (false, eval e X.env) :: starEach [e2] X.env) (hpl : (backTo pos (starEach [e2] X.env)).any (·.1) = false) (I : Inv X pins σ H s) (h : two X.K ta R σ H)
    (q : ∀ (s1 : Shared) (H1 : Hp) (h' : Heap) k1 k2 a b xs ys (its its2 : List Value) (z TI TO i1 i2 : Addr), Inv X pins σ H1 s1 → R k1 k2 a b xs ys H1 → SqK X.K k1 H1 a xs → SqK X.K k2 H1 b ys → Vals xs its → Vals ys its2 → xs.length ≤ sizeLine → ys.length ≤ sizeLine → ZipApart z TI TO i1 i2 a b →
      IsZip h' z TI TO .none → IsPair h' TI (.ref i1) (.ref i2) → (∃ a b, IsPair h' TO a b) → ItA k1 h' i1 a 0 → ItA k2 h' i2 b 0 → SqA k1 h' a its.toArray → SqA k2 h' b its2.toArray → (∀ c o, s1.heap.get? c = some o → h'.get? c = some o) →
      (∀ c ∈ [z, TI, TO, i1, i2], s1.heap.objs.size ≤ c) → a < h'.objs.size → b < h'.objs.size → Q (.ref z) { s1 with heap := h' }) :
    wpAny (model X.prog X.w) X.A (eval (.Call (.Name "zip" p) [e, e2] [] pos) X.env) Q X.xe s := by
  refine Call_ (ld_blt I hg hm PyProof.Rows.boot_zip (PyProof.Rows.callWith_type1 (thn (ha.run pos pins s σ H _ I h) fun us s1 ⟨vs, H1, I1, r1, q1⟩ => ?_) hs hpl))
  obtain ⟨k1, k2, a, b, xs, ys, ex, qx, qy, q1⟩ := q1
  subst ex
  cases r1 with
  | cons r rr =>
    cases rr with
    | cons r' rr =>
      cases rr
      cases r
      cases r'
      obtain ⟨its, rv, p1, z1, l1⟩ := sq_raw I1 qx
      obtain ⟨its2, rv2, p2, z2, l2⟩ := sq_raw I1 qy
      refine call_zip p1 p2 fun h' hz pI pO t1 t2 hsz kp => q s1 H1 h' k1 k2 a b xs ys its its2 _ _ _ _ _ I1 q1 qx qy rv rv2 z1 z2 (PySem.W.ktu_apart s1.heap.objs.size a b l1 l2) hz pI ⟨_, _, pO⟩ t1 t2 (p1.mv fun o e => kp _ o e) (p2.mv fun o e => kp _ o e) kp (fun c hc => ?_) (by rw [hsz]; exact Nat.lt_of_lt_of_le l1 (Nat.le_add_right _ _)) (by rw [hsz]; exact Nat.lt_of_lt_of_le l2 (Nat.le_add_right _ _))
      simp only [List.mem_cons, List.not_mem_nil, or_false] at hc
      rcases hc with q | q | q | q | q <;> rw [q] <;> first | exact Nat.le_add_right _ _ | exact Nat.le_refl _
theorem pi_zipM {p pos tpos : Pos} {elts : List Expr} {kk : Nat} (hg : Gl X "zip") (hm : X.mg "zip" = none) (ha : PA X [e, e2] ta) (hs : starEach [e, e2] X.env = (false, eval e X.env) :: starEach [e2] X.env) (hpl : (backTo pos (starEach [e2] X.env)).any (·.1) = false) :
    PI X (.Tuple elts kk tpos) (.Call (.Name "zip" p) [e, e2] [] pos) (iZipM X.K ta) := by
  refine ⟨fun pins s σ H R I h => zip_made hg hm ha hs hpl I h fun s1 H1 h' k1 k2 a b xs ys its its2 z TI TO i1 i2 I1 q qx qy rv rv2 z1 z2 D hz pI pO t1 t2 p1 p2 kp fresh l1 l2 => wpAny_pyIter_zip hz ?_⟩
  have I2 : Inv X pins σ H1 { s1 with heap := h' } := I1.kept (t' := s1.toks) kp
  exact ⟨z, [z, TI, TO, i1, i2], _, _, H1, rfl, I2, turnM D, ⟨hz, pI, pO, t1, t2⟩, fun c hc => I1.fpOk (fresh c hc) (I1.hok.fresh (fresh c hc)), q⟩
/-- list(zip(e, e2)): a new list of new pairs -/
def rLz (Q : VK) (xs ys : List V) (H1 : Hp) : Prop := ∀ (D : Addr) (ps : List Addr) (H' : Hp), H1 D = none → (∀ c o, H1 c = some o → H' c = some o) → H' D = some (.lst (ps.map V.ref)) → ps.length = min xs.length ys.length →
  (∀ (j : Nat) (p : Addr) (x y : V), ps[j]? = some p → xs[j]? = some x → ys[j]? = some y → H' p = some (.tup [x, y])) → Q (.ref D) H'
def tLz (K : PySem.W.Frag) (ta : TA) : TE := fun σ H Q => two K ta (fun _ _ _ _ xs ys H1 => rLz Q xs ys H1) σ H
def tDz (K : PySem.W.Frag) (ta : TA) : TE := fun σ H Q => two K ta (fun _ _ _ _ xs ys H1 => ∃ ks : List L2.Key, xs = ks.map kV ∧ ∀ D, H1 D = none → Q (.ref D) (upd H1 D (.dK (mergeK [] (ks.zip ys))))) σ H
end
theorem acc_refs {N : Nat} {xs ys : Array Value} {h : Heap} {acc : Array Value} (p : Prs N xs ys h acc) : ∃ ps : List Addr, acc.toList = ps.map Value.ref := by
  suffices z : ∀ l : List Value, (∀ v ∈ l, ∃ q, v = Value.ref q) → ∃ ps : List Addr, l = ps.map Value.ref from z _ fun v hv => by
    obtain ⟨j, hj⟩ := List.mem_iff_getElem?.mp hv
    obtain ⟨q, _, _, e, _⟩ := p j v (by rw [← Array.getElem?_toList]; exact hj)
    exact ⟨q, e⟩
  intro l
  induction l with
  | nil => exact fun _ => ⟨[], rfl⟩
  | cons v l ih =>
    intro h
    obtain ⟨q, e⟩ := h v (by simp)
    obtain ⟨ps, e2⟩ := ih fun v hv => h v (by simp [hv])
    exact ⟨q :: ps, by rw [e, e2]; rfl⟩
theorem vals_refs : ∀ ps : List Addr, Vals (ps.map V.ref) (ps.map Value.ref)
  | [] => .nil
  | _ :: r => .cons rfl (vals_refs r)
section
variable {X : Cx} {e e2 : Expr} {ta : TA}
theorem pe_lz {p p2 pos pos2 : Pos} (hc : X.calm = true) (hgl : Gl X "list") (hml : X.mg "list" = none) (hg : Gl X "zip") (hm : X.mg "zip" = none) (ha : PA X [e, e2] ta) (hs : starEach [e, e2] X.env = (false, eval e X.env) :: starEach [e2] X.env) (hpl : (backTo pos2 (starEach [e2] X.env)).any (·.1) = false) :
    PE X (.Call (.Name "list" p) [.Call (.Name "zip" p2) [e, e2] [] pos2] [] pos) (tLz X.K ta) := by
  refine ⟨fun pins s σ H Q I h => ?_⟩
  refine wpAny_Call_Name_kw (ld_blt I hgl hml PyProof.Rows.boot_list (PyProof.Rows.callWith_type1 (args_cons (zip_made hg hm ha hs hpl I h fun s1 H1 h' k1 k2 a b xs ys its its2 z TI TO i1 i2 I1 q qx qy rv rv2 z1 z2 D hz pI pO t1 t2 q1 q2 kp fresh l1 l2 => args_nil ?_))))
  have m1 := rv.length
  have m2 := rv2.length
  refine list_zip D (I.ok.hd hc) (by rw [List.size_toArray]; exact Nat.le_trans (Nat.min_le_left ..) (by omega)) ⟨l1, l2⟩ hz pI pO t1 t2 q1 q2 fun g acc c kg hS hl hp => ?_
  obtain ⟨ps, eps⟩ := acc_refs hp
  have hl : acc.size = min its.length its2.length := by simpa using hl
  have hlen : ps.length = min xs.length ys.length := by
    have q : acc.size = ps.length := by simpa using congrArg List.length eps
    omega
  have sz1 : s1.heap.objs.size ≤ h'.objs.size := Nat.le_trans (fresh z (by simp)) (Nat.le_of_lt (Heap.lt_size hz))
  have lt : ∀ (j : Nat) (p : Addr), ps[j]? = some p → j < xs.length ∧ j < ys.length := fun j p e => by
    have q := (List.getElem?_eq_some_iff.mp e).1
    omega
  have at_ : ∀ (j : Nat) (p : Addr), ps[j]? = some p → ∃ x y u u2, xs[j]? = some x ∧ ys[j]? = some y ∧ RelV x u ∧ RelV y u2 ∧ h'.objs.size + 1 ≤ p ∧ IsPair g p u u2 := fun j p e => by
    obtain ⟨n1, n2⟩ := lt j p e
    obtain ⟨p', u, u2, ev, hle, e1, e2, pp⟩ := hp j (.ref p) (by rw [← Array.getElem?_toList, eps, List.getElem?_map, e]; rfl)
    cases ev
    have e1 : its[j]? = some u := by simpa using e1
    have e2 : its2[j]? = some u2 := by simpa using e2
    obtain ⟨v1, f1, r1⟩ := rv.get (List.getElem?_eq_getElem n1)
    obtain ⟨v2, f2, r2⟩ := rv2.get (List.getElem?_eq_getElem n2)
    rw [f1] at e1
    rw [f2] at e2
    cases e1
    cases e2
    exact ⟨_, _, _, _, List.getElem?_eq_getElem n1, List.getElem?_eq_getElem n2, r1, r2, hle, pp⟩
  have nd : ∀ {j1 j2 : Nat} {p : Addr}, ps[j1]? = some p → ps[j2]? = some p → ∀ (x y x' y' : V) (u u2 u' u2' : Value), RelV x u → RelV y u2 → RelV x' u' → RelV y' u2' → IsPair g p u u2 → IsPair g p u' u2' → u = u' ∧ u2 = u2' := fun _ _ x y x' y' u u2 u' u2' _ _ _ _ a b => by
    unfold IsPair at a b
    rw [a] at b
    cases b
    exact ⟨rfl, rfl⟩
  let H' : Hp := fun b => if b = h'.objs.size then some (.lst (ps.map V.ref)) else match ((List.range ps.length).find? fun j => ps[j]? == some b) with
    | some j => match xs[j]?, ys[j]? with
      | some x, some y => some (.tup [x, y])
      | _, _ => H1 b
    | none => H1 b
  have none_big : ∀ b, s1.heap.objs.size ≤ b → H1 b = none := fun b hb => I1.hok.fresh hb
  have hDn : H1 h'.objs.size = none := none_big _ sz1
  have look : ∀ b, H' b = some (.lst (ps.map V.ref)) ∧ b = h'.objs.size ∨ (∃ j x y u u2, ps[j]? = some b ∧ H' b = some (.tup [x, y]) ∧ xs[j]? = some x ∧ ys[j]? = some y ∧ RelV x u ∧ RelV y u2 ∧ h'.objs.size + 1 ≤ b ∧ IsPair g b u u2) ∨ (H' b = H1 b ∧ ∀ j, ps[j]? ≠ some b) := fun b => by
    by_cases hb : b = h'.objs.size
    · exact .inl ⟨if_pos hb, hb⟩
    · have e : H' b = (match ((List.range ps.length).find? fun j => ps[j]? == some b) with
        | some j => match xs[j]?, ys[j]? with
          | some x, some y => some (HO.tup [x, y])
          | _, _ => H1 b
        | none => H1 b) := if_neg hb
      cases hf : ((List.range ps.length).find? fun j => ps[j]? == some b) with
      | none =>
        rw [hf] at e
        refine .inr (.inr ⟨e, fun j hj => ?_⟩)
        have q := List.find?_eq_none.mp hf j (List.mem_range.mpr (List.getElem?_eq_some_iff.mp hj).1)
        rw [hj] at q
        simp at q
      | some j =>
        rw [hf] at e
        dsimp only at e
        have hj : ps[j]? = some b := by simpa using List.find?_some hf
        obtain ⟨x, y, u, u2, ex, ey, r1, r2, hle, pp⟩ := at_ j b hj
        rw [ex, ey] at e
        exact .inr (.inl ⟨j, x, y, u, u2, hj, e, ex, ey, r1, r2, hle, pp⟩)
  have ext : ∀ b o, H1 b = some o → H' b = some o := fun b o e => by
    have nb : ¬ s1.heap.objs.size ≤ b := fun z => by rw [none_big b z] at e; cases e
    rcases look b with ⟨_, z⟩ | ⟨_, _, _, _, _, _, _, _, _, _, _, z, _⟩ | ⟨z, _⟩
    · exact absurd (show s1.heap.objs.size ≤ b by rw [z]; exact sz1) nb
    · exact absurd (Nat.le_trans sz1 (Nat.le_of_succ_le z)) nb
    · rw [z]; exact e
  have up : ∀ c o, s1.heap.get? c = some o → g.get? c = some o := fun c o e => by
    have hc := Heap.lt_size e
    have f : ∀ d ∈ [z, TI, TO, i1, i2], c ≠ d := fun d hd => Nat.ne_of_lt (Nat.lt_of_lt_of_le hc (fresh d hd))
    exact kg c o (f z (by simp)) (f TO (by simp)) (f i1 (by simp)) (f i2 (by simp)) (kp c o e)
  have I2 : Inv X pins σ H' { s1 with heap := g } := by
    refine inv_many (t' := s1.toks) I1 up ext (fun b n z => ?_) fun b o n e => ?_
    · rcases look b with ⟨_, y⟩ | ⟨_, _, _, _, _, _, _, _, _, _, _, y, _⟩ | ⟨y, _⟩
      · rw [y]; exact sz1
      · exact Nat.le_trans sz1 (Nat.le_of_succ_le y)
      · exact absurd (y.trans n) z
    · rcases look b with ⟨y, rfl⟩ | ⟨j, x, y, u, u2, _, y', _, _, r1, r2, _, pp⟩ | ⟨y, _⟩
      · rw [y] at e
        cases e
        refine ⟨by rw [List.length_map, hlen]; omega, ps.map Value.ref, c, vals_refs ps, ?_⟩
        rw [← eps, Array.toArray_toList]
        exact hS
      · rw [y'] at e
        cases e
        exact ⟨by show 2 ≤ sizeLine; decide, [u, u2], .cons r1 (.cons r2 .nil), _, pp, rfl, _, rfl⟩
      · rw [y, n] at e
        cases e
  refine ⟨.ref h'.objs.size, H', I2, rfl, q h'.objs.size ps H' hDn ext (if_pos rfl) hlen fun j p x y hj hx hy => ?_⟩
  rcases look p with ⟨_, z⟩ | ⟨j', x', y', u, u2, hj', e, ex, ey, r1, r2, _, pp⟩ | ⟨_, z⟩
  · obtain ⟨_, _, _, _, _, _, _, _, hle, _⟩ := at_ j p hj
    rw [z] at hle
    exact absurd hle (Nat.not_succ_le_self _)
  · obtain ⟨x2, y2, v, v2, ex2, ey2, r3, r4, _, pp2⟩ := at_ j p hj
    rw [hx] at ex2
    rw [hy] at ey2
    cases ex2
    cases ey2
    obtain ⟨e1, e2⟩ := nd hj hj' _ _ _ _ _ _ _ _ r3 r4 r1 r2 pp2 pp
    subst e1 e2
    rw [e, RelV.inj r1 r3, RelV.inj r2 r4]
  · exact absurd hj (z j)
theorem boot_dict0 : bootBuiltins "dict" = some (.type "dict") := by decide +kernel
theorem pe_dz {p p2 pos pos2 : Pos} (hc : X.calm = true) (hgl : Gl X "dict") (hml : X.mg "dict" = none) (hg : Gl X "zip") (hm : X.mg "zip" = none) (ha : PA X [e, e2] ta) (hs : starEach [e, e2] X.env = (false, eval e X.env) :: starEach [e2] X.env) (hpl : (backTo pos2 (starEach [e2] X.env)).any (·.1) = false) :
    PE X (.Call (.Name "dict" p) [.Call (.Name "zip" p2) [e, e2] [] pos2] [] pos) (tDz X.K ta) := by
  refine ⟨fun pins s σ H Q I h => ?_⟩
  refine wpAny_Call_Name_kw (ld_blt I hgl hml boot_dict0 (PyProof.Rows.callWith_type1 (args_cons (zip_made hg hm ha hs hpl I h fun s1 H1 h' k1 k2 a b xs ys its its2 z TI TO i1 i2 I1 q qx qy rv rv2 z1 z2 D hz pI pO t1 t2 q1 q2 kp fresh l1 l2 => args_nil ?_))))
  obtain ⟨ks, rfl, q⟩ := q
  have m1 := rv.length
  have m2 := rv2.length
  rw [List.length_map] at m1 z1
  have hlen : (ks.zip its2).length = min its.toArray.size its2.toArray.size := by rw [List.length_zip, List.size_toArray, List.size_toArray, ← m1]
  refine call_dict_pairs (knd := mixKind X.prog X.w) (kvs := ks.zip its2) (arg_zip k1 k2 z TI TO i1 i2 a b D its.toArray its2.toArray) (I.ok.hd hc) ⟨hz, pI, pO, t1, t2, q1, q2⟩ ⟨hlen, fun i key v ⟨e1, e2⟩ => ?_⟩ (by rw [← hlen, List.length_zip]; omega) fun g tk hd kg => ?_
  · have e1 : its[i]? = some key := by simpa using e1
    have e2 : its2[i]? = some v := by simpa using e2
    have hi : i < ks.length := by rw [m1]; exact (List.getElem?_eq_some_iff.mp e1).1
    obtain ⟨u, hu, ru⟩ := rv.get (i := i) (x := kV ks[i]) (by rw [List.getElem?_map, List.getElem?_eq_getElem hi]; rfl)
    rw [hu] at e1
    cases e1
    refine ⟨ks[i], ?_, kV_is ru⟩
    rw [List.getElem?_zip_eq_some]
    exact ⟨List.getElem?_eq_getElem hi, e2⟩
  · have hmd : (h'.objs.size == sysModules) = false := beq_eq_false_iff_ne.mpr (Nat.ne_of_gt (Nat.lt_of_lt_of_le I1.big (Nat.le_trans (fresh z (by simp)) (Nat.le_of_lt (Heap.lt_size hz)))))
    have rel : KV (ks.zip ys) (ks.zip its2) := by
      clear m1 m2 z1 z2 hlen q rv qx q1
      unfold KV
      suffices w : ∀ (ks : List L2.Key) (ys : List V) (its2 : List Value), Vals ys its2 → Paired (fun (p : L2.Key × V) (q : L2.Key × Value) => p.1 = q.1 ∧ RelV p.2 q.2) (ks.zip ys) (ks.zip its2) from w ks ys its2 rv2
      intro ks
      induction ks with
      | nil => intro ys its2 _; exact .nil
      | cons k ks ih =>
        intro ys its2 r
        cases r with
        | nil => exact .nil
        | cons r rr => exact .cons ⟨rfl, r⟩ (ih _ _ rr)
    have len : (mergeK [] (ks.zip ys)).length ≤ sizeLine := by
      refine Nat.le_trans (length_mergeK _ []) ?_
      rw [List.length_nil, Nat.zero_add, List.length_zip]
      omega
    have sz1 : s1.heap.objs.size ≤ h'.objs.size := Nat.le_trans (fresh z (by simp)) (Nat.le_of_lt (Heap.lt_size hz))
    have up : ∀ c o, s1.heap.get? c = some o → g.get? c = some o := fun c o e => kg c o (fun hm => by
      have hc := Heap.lt_size e
      exact Nat.not_lt.mpr (fresh c (by simp only [List.mem_cons, List.not_mem_nil, or_false] at hm ⊢; rcases hm with e | e | e | e <;> simp [e])) hc) (kp c o e)
    exact ⟨.ref h'.objs.size, upd H1 h'.objs.size (.dK (mergeK [] (ks.zip ys))), I1.laid (t' := tk) up sz1 (show ObjOk X.prog X.w _ _ _ (.dK _) from ⟨len, hmd, merged [] (ks.zip its2), KV.merge rel .nil, hd⟩), rfl, q _ (I1.hok.fresh sz1)⟩
end
open PySem.AutoSeq1
theorem ext_tup (l : Addr) (items : Array Value) (n : Nat) (b : Addr) (od : Option Addr) (sl : Array (Option Value)) (items2 : Array Value) (n2 : Nat) (nl : ¬(!items.isEmpty && Builtin.List.listTooLong (items.size + items2.size)) = true) (z1 : items.size ≤ sizeLine) (z2 : items.size + items2.size ≤ sizeLine + 1) :
    Meets (Builtin.«list.extend» ⟨[.ref l, .ref b], []⟩) (fun _ R s => s.heap.get? l = some { cls := .type "list", dict := none, data := .seq items n, slots := #[] } ∧ s.heap.get? b = some { cls := .type "tuple", dict := od, data := .seq items2 n2, slots := sl } ∧
      R (.ok (.ret Value.none)) { s with heap := s.heap.update l (Obj.mapSeq fun x => x ++ items2), toks := s.toks }) :=
  .of_wp fun prog w A R s h => by
    obtain ⟨hp, g, d, tk, os⟩ := s; obtain ⟨hl, hb, h⟩ := h
    have f1 := idx_int; have f2 := PySem.AutoSeq1.sub_tuple_tuple; have f3 := PySem.AutoSeq1.sub_list_list; have f4 := PySem.AutoSeq1.sub_tuple_list; have f5 := PySem.AutoSeq1.sub_list_tuple
    have z3 : (items ++ items2).size ≤ sizeLine + 1 := by rw [Array.size_append]; exact z2
    wp_walk using (wpAny_updateSeq hl rfl (hz := z1) (_hz' := z3)), wpAny_loadPart' hl, wpAny_loadPart' hb
    exact ⟨_, rfl, h⟩
section
variable {X : Cx}
def rExtT (K : PySem.W.Frag) : V → List V → Hp → VK → Prop := fun x vs H Q => ∃ l b xs zs, x = .ref l ∧ vs = [V.ref b] ∧ H l = some (.lst xs) ∧ (SqT K H b zs ∨ H b = some (.lst zs)) ∧ xs.length + zs.length ≤ sizeLine ∧ Q .non (upd H l (.lst (xs ++ zs)))
theorem mt_extT : MtM X "list.extend" (rExtT X.K) := by
  intro pins s σ H x vs v us Q I rx rv h
  obtain ⟨l, b, xs, zs, rfl, rfl, hH, hB | hB, hz, q⟩ := h
  · cases rx
    obtain ⟨u, rfl, ru⟩ := rv.one
    cases ru
    obtain ⟨z, its, n, r, hl, e⟩ := I.lstM hH
    obtain ⟨its2, r2, ⟨⟨oc, od, oD, osl⟩, e2, c2, n2, d2⟩, z2⟩ := I.tuple hB
    dsimp only at c2 d2
    subst c2 d2
    have hl2 := r2.length
    have m : its.toArray.size + its2.toArray.size ≤ sizeLine := by rw [List.size_toArray, List.size_toArray]; omega
    have nl : ¬ (!its.toArray.isEmpty && Builtin.List.listTooLong (its.toArray.size + its2.toArray.size)) = true := by rw [notLongL m, Bool.and_false]; exact Bool.false_ne_true
    refine call_meets F.slot_list_extend ⟨_, e, rfl⟩ F.entry_list_extend (F.args_list_extend_2 _ _) (ext_tup l its.toArray n b od osl its2.toArray n2 nl (by rw [List.size_toArray]; omega) (by omega)) ⟨e, e2, ?_⟩
    exact ⟨.non, _, I.lset (its' := its ++ its2) hH e (by simp) (r.append r2) (by rw [List.length_append]; omega), rfl, q⟩
  · exact mt_extend pins s σ H _ _ v us Q I rx rv ⟨l, b, xs, zs, rfl, rfl, hH, hB, hz, q⟩
end
end VZ
set_option maxHeartbeats 1000000
namespace VM
open PySem L2 PySem.Spec PyProof.Rows
def mthId : Mth → String
  | .append => "list.append" | .clear => "list.clear" | .pop => "list.pop" | .extend => "list.extend"
section
variable {X : Cx} {μ : List Addr} {S : Store} {H : Hp} {Q : VK}
def rMt (K : PySem.W.Frag) (m : Mth) : V → List V → Hp → VK → Prop := fun x xs H Q => ∃ μ S d ds, Cor K μ S H ∧ Rep K μ H d x ∧ Reps K μ H ds xs ∧ Pst K μ H (mthR m d ds S) (fun z _ μ' H' => ∀ v, Rep K μ' H' z v → Q v H') W0
theorem mth_ok (m : Mth) : MtR X (mthId m) (rMt X.K m) := by
  intro pins s σ H x xs v us Q I rx rxs ⟨μ, S, d, ds, c, rd, r, h⟩
  cases rd with
  | @ref n a hn =>
    cases m with
    | append =>
      cases r with
      | nil => exact h.elim
      | @cons e es y ys re r =>
        cases r with
        | cons _ _ => exact h.elim
        | nil =>
          obtain ⟨l, vs, q, rl, h⟩ := pst_mut c hn h
          obtain ⟨hb, h⟩ := Pst.ite h
          refine mt_append pins s σ H _ _ v us Q I rx rxs ⟨a, vs, y, rfl, rfl, q, by rw [← rl.length, ← big_eq]; exact hb, ?_⟩
          obtain ⟨e1, c1, h⟩ := pst_put (u := .lst (vs ++ [y])) c hn h (fun ob u z => by first | (rw [q] at z; cases z) | (rw [ha] at z; cases z)) fun H' e z => ⟨_, z, (rl.append (.cons re .nil)).ext e⟩
          exact Pst.done c1 h .non
    | clear =>
      cases r with
      | cons _ _ => exact h.elim
      | nil =>
        obtain ⟨l, vs, q, rl, h⟩ := pst_mut c hn h
        refine mt_clear pins s σ H _ _ v us Q I rx rxs ⟨a, vs, rfl, rfl, q, ?_⟩
        obtain ⟨e1, c1, h⟩ := pst_put (u := .lst []) c hn h (fun ob u z => by first | (rw [q] at z; cases z) | (rw [ha] at z; cases z)) fun H' e z => ⟨_, z, .nil⟩
        exact Pst.done c1 h .non
    | pop =>
      cases r with
      | cons _ _ => exact h.elim
      | nil =>
        obtain ⟨l, vs, q, rl, h⟩ := pst_mut c hn h
        obtain ⟨y, hy, h⟩ := Pst.lft c (Pst.bnd h)
        obtain ⟨w, hw, rw⟩ := rl.get hy
        refine mt_pop pins s σ H _ _ v us Q I rx rxs ⟨a, vs, w, rfl, rfl, q, by rw [← rl.length]; exact hw, ?_⟩
        have dl : Reps X.K μ H l.dropLast vs.dropLast := by
          rw [List.dropLast_eq_take, List.dropLast_eq_take, rl.length]
          exact rl.take _
        obtain ⟨e1, c1, h⟩ := pst_put (u := .lst vs.dropLast) c hn h (fun ob u z => by first | (rw [q] at z; cases z) | (rw [ha] at z; cases z)) fun H' e z => ⟨_, z, dl.ext e⟩
        exact Pst.done c1 h (rw.ext e1)
    | extend =>
      cases r with
      | nil => exact h.elim
      | @cons e es y ys re r =>
        cases r with
        | cons _ _ => exact h.elim
        | nil =>
          obtain ⟨l, vs, q, rl, h⟩ := pst_mut c hn h
          have go : ∀ (b : Addr) (m : List D) (ws : List V), y = .ref b → (SqT X.K H b ws ∨ H b = some (.lst ws)) → Reps X.K μ H m ws → Pst X.K μ H ((if l.length + m.length ≤ big then bnd (put n (.lst (l ++ m))) fun _ => ret .non else bad : M D) S) (fun z _ μ' H' => ∀ v, Rep X.K μ' H' z v → Q v H') W0 →
              wpAny (model X.prog X.w) X.A (call (.builtin (mthId .extend)) (v :: us)) (fun u s => ∃ x H', L2.Inv X pins σ H' s ∧ RelV x u ∧ Q x H') X.xe s := fun b m ws ey hq rm h => by
            subst ey
            obtain ⟨hb, h⟩ := Pst.ite h
            refine VZ.mt_extT pins s σ H _ _ v us Q I rx rxs ⟨a, b, vs, ws, rfl, rfl, q, hq, by rw [← rl.length, ← rm.length, ← big_eq]; exact hb, ?_⟩
            obtain ⟨e1, c1, h⟩ := pst_put (u := .lst (vs ++ ws)) c hn h (fun ob u z => by rw [q] at z; cases z) fun H' e z => ⟨_, z, (rl.append rm).ext e⟩
            exact Pst.done c1 h .non
          cases re with
          | @tup b ws m hq rm => exact go b m ws rfl (.inl hq) rm (Pst.now c (Pst.bnd h))
          | @ref k b hk =>
            obtain ⟨m, ws, hq, rm, h⟩ := pst_mut c hk h
            exact go b m ws rfl (.inr hq) rm h
          | _ => exact h.elim
  | _ => cases m <;> cases ds <;> first | exact h.elim | (rename_i t _; cases t <;> exact h.elim)
/-- the receiver's type -/
theorem mthTy_V {α : Type} {m : Mth} {d : D} {x : V} {f : Unit → M α} {R : α → Store → List Addr → Hp → Prop} {Wx : Nat → Hp → Prop} (c : Cor X.K μ S H) (rd : Rep X.K μ H d x) (h : Pst X.K μ H (bnd (mthTy m d) f S) R Wx) : tyV X.K "list" x H ∧ Pst X.K μ H (f () S) R Wx := by
  cases rd with
  | @ref n a hn =>
    have h := Pst.bnd h
    obtain ⟨l, vs, q, rl, h⟩ := pst_mut c hn h
    exact ⟨.inl ⟨rfl, vs, SqL.of q⟩, Pst.now c h⟩
  | _ => exact h.elim
def tyNm : Nat → String
  | 0 => "int" | 1 => "bool" | 2 => "str" | 3 => "tuple" | 4 => "list" | 5 => "dict" | _ => "NoneType"
theorem kit_all : ∀ t < 7, ∀ ty < 6, kitB (tyNm t) (tyNm ty) = some (t == ty || (t == 1 && ty == 0)) := by decide +kernel
theorem tyN_lt {d : D} {t : Nat} (h : tyN S d = some t) : t < 7 := by
  cases d with
  | ref n =>
    have h : (match S[n]? with
      | some (.lst _) => some 4
      | some (.ro _) => some 4
      | some (.dk _) => some 5
      | some (.fk _) => none
      | some (.ins _ _ _) => none
      | some (.nd _) => some 5
      | some (.nf _) => none
      | none => none) = some t := h
    cases q : S[n]? with
    | none => rw [q] at h; cases h
    | some o => rw [q] at h; cases o <;> first | (cases h; done) | (cases h; decide)
  | _ => cases h <;> decide
/-- a value's type, dicts with keys of a moment and a row too -/
def TyNd (K : PySem.W.Frag) (H : Hp) (x : V) (t : Value) : Prop := TyX K H x t ∨ ∃ a xs, x = .ref a ∧ H a = some (.ext (NdP a xs)) ∧ t = .type "dict"
theorem tyX_of {d : D} {x : V} {t : Nat} (c : Cor X.K μ S H) (rd : Rep X.K μ H d x) (h : tyN S d = some t) : TyNd X.K H x (.type (tyNm t)) := by
  cases rd with
  | non => cases h; exact .inl <| .base .non
  | bl b => cases h; exact .inl <| .base (.bl b)
  | int i => cases h; exact .inl <| .base (.int i)
  | str s => cases h; exact .inl <| .base (.str _)
  | @tup a vs ds q r =>
    cases h
    rcases q with (q | ⟨o, q⟩) | ⟨o, its, n, q, qc, _⟩
    · exact .inl <| .base (.tup q)
    · exact .inl (.fTuple q)
    · exact .inl (.kTuple q qc)
  | kl _ _ => cases h
  | exc _ _ _ _ => cases h
  | fn => cases h
  | @ref n a hn =>
    obtain ⟨o, h1, h2⟩ := c.obj' hn
    have h : (match S[n]? with
      | some (.lst _) => some 4
      | some (.ro _) => some 4
      | some (.dk _) => some 5
      | some (.fk _) => none
      | some (.ins _ _ _) => none
      | some (.nd _) => some 5
      | some (.nf _) => none
      | none => none) = some t := h
    rw [h1] at h
    cases o with
    | lst l => cases h; obtain ⟨vs, q, _⟩ := h2; exact .inl <| .base (.lst q)
    | ro l => cases h; obtain ⟨vs, ob, q, _⟩ := h2; exact .inl <| .base (.frz q)
    | dk kvs => cases h; obtain ⟨ks, q, _⟩ := h2; exact .inl <| .base (.dK q)
    | fk kvs => cases h
    | ins q c fs => cases h
    | nd kvs => cases h; obtain ⟨xs, q, _⟩ := h2; exact .inr ⟨a, xs, rfl, q, rfl⟩
    | nf _ => cases h
theorem kit_ofN {pins : List (Addr × PySem.Obj)} {σ : L2.St} {s : Shared} {x : V} {u t : Value} (I : Inv X pins σ H s) (rx : RelV x u) (ty : TyNd X.K H x t) :
    ∃ P : Heap → Prop, PySem.W.KitX X.K u t P ∧ P s.heap ∧ u ≠ .builtin "__main__.__loader__#opaque" := by
  rcases ty with ty | ⟨a, xs, rfl, ha, rfl⟩
  · exact kit_of I rx ty
  · cases (show u = Value.ref a from rx)
    obtain ⟨⟨_, w0, o, es, ep, h1, h2, _⟩, _⟩ := I.hok a _ ha
    exact ⟨_, PySem.W.kitx_dict, ⟨o, h1, h2.1⟩, fun z => nomatch z⟩
def rIsiN (K : PySem.W.Frag) : List V → Hp → VK → Prop := fun xs H Q => ∃ (x c : V) (t u : Value) (b : Bool), ClsV c u ∧ TyNd K H x t ∧ PySem.W.kitOne K t u = some b ∧ xs = [x, c] ∧ Q (.bl b) H
def rIsiP (K : PySem.W.Frag) : List V → Hp → VK → Prop := fun xs H Q => ∃ (x : V) (T : Addr) (cs : List V) (t : Value) (us : List Value) (b : Bool), H T = some (.tup cs) ∧ Paired ClsV cs us ∧ TyNd K H x t ∧ PySem.W.kitAny K t us = some b ∧ xs = [x, .ref T] ∧ Q (.bl b) H
theorem call_isiN : CallR X (.builtin "isinstance") (rIsiN X.K) := by
  rintro pins s σ H xs us Q I rr ⟨x, c, t, u, b, hc, ty, hk, rfl, q⟩
  obtain ⟨v, w, rfl, r1, r2⟩ := Vals.two rr
  have ew := hc.eq r2
  subst ew
  obtain ⟨P, kx, p, ne⟩ := kit_ofN I r1 ty
  exact PySem.W.kia_one kx I.kIn p hk ne fun tk => ⟨.bl b, H, I.tok tk, rfl, q⟩
theorem call_isiP : CallR X (.builtin "isinstance") (rIsiP X.K) := by
  rintro pins s σ H xs us Q I rr ⟨x, T, cs, t, ws, b, hT, hc, ty, hk, rfl, q⟩
  obtain ⟨v, w, rfl, r1, r2⟩ := Vals.two rr
  cases (show w = Value.ref T from r2)
  obtain ⟨P, kx, p, ne⟩ := kit_ofN I r1 ty
  obtain ⟨_, its, rv, ⟨oc, od, dt, sl⟩, ho, ec, n, ed⟩ := (show ObjOk X.prog X.w H s.heap T (.tup cs) from I.hok T _ hT)
  have ew := ClsV.all hc rv
  subst ew
  simp only at ec ed
  subst ec ed
  exact PySem.W.kia_tup kx I.kIn p ho hk ne fun tk => ⟨.bl b, H, I.tok tk, rfl, q⟩
theorem kit_two {K : PySem.W.Frag} {t u v : Value} {a b : Bool} (ha : PySem.W.kitOne K t u = some a) (hb : PySem.W.kitOne K t v = some b) : PySem.W.kitAny K t [u, v] = some (a || b) := by
  refine kitAny_cons ha (fun z => ?_) fun z => by rw [z]; rfl
  subst z
  exact kitAny_cons hb (fun z => by rw [z]; rfl) fun z => by rw [z]; rfl
theorem isi_V {α : Type} {ty : Nat} {d : D} {x : V} {f : Bool → M α} {R : α → Store → List Addr → Hp → Prop} {Wx : Nat → Hp → Prop} (c : Cor X.K μ S H) (rd : Rep X.K μ H d x) (h : Pst X.K μ H (bnd (isiB ty d) f S) R Wx) :
    ∃ t b, TyNd X.K H x t ∧ PySem.W.kitOne X.K t (.type (tyNm ty)) = some b ∧ Pst X.K μ H (f b S) R Wx := by
  unfold bnd isiB at h
  cases q : tyN S d with
  | none => rw [q] at h; exact h.elim
  | some t =>
    rw [q] at h
    simp only at h
    by_cases hb : ty < 6
    · rw [if_pos hb] at h
      exact ⟨_, _, tyX_of c rd q, kit_ty (kit_all t (tyN_lt q) ty hb), h⟩
    · rw [if_neg hb] at h
      exact h.elim
end
structure FnG (P : Program) (w : World) (K : PySem.W.Frag) (mg : PySem.Str → Option Value) (base : Heap) (k : Nat) (f : Addr) (fd : FuncData) (ps : List PySem.Str) (sp : Sp) : Prop where
  len : ∀ vs H Q E, sp vs H Q E → vs.length = ps.length
  run : ∀ (A : Around) (out : List PySem.Env) (s : Shared) (H : Hp) (ar : Args) (us : List Value) (vs : List V) (Q : VK) (E : XK), A.guards = some [] → Room k A → Env0 P w K mg base A out s H → BindsTo s fd ar (ps.zip us) → Vals vs us → sp vs H Q E →
    codeAny (model P w) A (.call (.ref f) ar) (CR (L2.CX P w) out P w H s Q E) s
theorem FnG.none {P : Program} {w : World} {K : PySem.W.Frag} {mg : PySem.Str → Option Value} {base : Heap} {k : Nat} {f : Addr} {fd : FuncData} {ps : List PySem.Str} {sp : Sp} (h : ∀ vs H Q E, ¬ sp vs H Q E) : FnG P w K mg base k f fd ps sp :=
  ⟨fun _ _ _ _ z => absurd z (h _ _ _ _), fun _ _ _ _ _ _ _ _ _ _ _ _ _ _ z => absurd z (h _ _ _ _)⟩
/-- a def of the text, with whatever defaults -/
structure FunA (K : PySem.W.Frag) (x qual : PySem.Str) (st : Stmt) (f : Addr) (fd : FuncData) : Prop where
  ex : ∃ oc od dV kV doc pm an cdv ct osl, fd = PySem.W.fnOf x qual (defArgs st) (defBody st) (defScope st) dV kV doc pm an cdv ct ∧ K.lookup f = some ⟨oc, od, .func fd, osl⟩ ∧ PySem.W.codeIn K cdv qual = true
theorem funA_of {K : PySem.W.Frag} {x qual : PySem.Str} {st : Stmt} {f : Addr} {fd : FuncData} (F : Fun K x qual st f fd) : FunA K x qual st f fd := by
  obtain ⟨oc, od, kV, doc, pm, an, cdv, ct, osl, h1, h2, h3⟩ := F.ex
  exact ⟨oc, od, .none, kV, doc, pm, an, cdv, ct, osl, h1, h2, h3⟩
theorem fnG_of {P : Program} {w : World} {K : PySem.W.Frag} {mg : PySem.Str → Option Value} {base : Heap} {k : Nat} {f : Addr} {x qual : PySem.Str} {stm : Stmt} {fd : FuncData} {N ps : List PySem.Str} {sp : Sp} (F : FunA K x qual stm f fd) (Sc : FnScope N ps (defScope stm))
    (len : ∀ vs H Q E, sp vs H Q E → vs.length = ps.length)
    (body : ∀ (cdv : Value) (A : Around) (out : List PySem.Env) (s : Shared) (H : Hp) (vs : List V) (Q : VK) (E : XK), A.guards = some [] → Room k (A.deeper (envOfC qual (defScope stm) s.heap.objs.size f cdv)) → sp vs H Q E →
      ∃ t, PSs (cxOf (L2.CX P w) P w K mg base N qual (defScope stm) f cdv A out s H E) (defBody stm) t ∧ t { nx := fun _ H' => Q .non H', rt := Q } (start N vs) H) : FnG P w K mg base (k + 1) f fd ps sp := by
  obtain ⟨oc, od, dV, kV, doc, pm, an, cdv, ct, osl, rfl, lk, hcd⟩ := F.ex
  refine ⟨len, fun A out s H ar us vs Q E hgd room e0 hb rv hsp => ?_⟩
  have lens := len _ _ _ _ hsp
  have inK : K.In s.heap := e0.mod.kin.keeps fun b o e => (e0.bs b o e).1
  have noLim : s.heap.NoLimit := e0.mod.nolimit.keeps fun b o e => (e0.bs b o e).1
  have kinds : ∀ y ∈ ps.zip us, (defScope stm).names.lookup y.1 = some .local ∨ ((defScope stm).names.lookup y.1 = some .cell ∧ ((cellsFrom (s.heap.objs.size + 1) (defScope stm).names []).lookup y.1).isSome = true) := by
    rintro ⟨n, v⟩ hy
    rcases Sc.par n (List.of_mem_zip hy).1 with q | q
    · exact Or.inl q
    · exact Or.inr ⟨q, PySem.W.cellsFrom_some _ _ _ (Or.inl q)⟩
  refine codeAny_call_function room.depth (inK _ _ lk) rfl Sc.co Sc.gen rfl (PySem.W.codeRec_of inK hcd) (hb _ _ _ _ ?_)
  refine wpAny_newFunctionEnv_cells Sc.kind kinds fun env he s1 xx => ?_
  subst he
  refine ⟨noLim.keeps xx.toInCall.keep, codeAny_func ?_⟩
  obtain ⟨t, pt, qt⟩ := body cdv A out s H vs Q E hgd (room.deeper _) hsp
  have I0 : Inv (cxOf (L2.CX P w) P w K mg base N qual (defScope stm) f cdv A out s H E) [] (start N vs) H s1 := inv_start Sc room.hd e0 lens rv xx
  refine wpAny_mono (pt.run [] s1 (start N vs) H _ I0 qt) (fun fl s' z => ?_) fun e s' z => z
  have done : ∀ {σ' : L2.St} {H' : Hp} {v : V} {u : Value}, Inv (cxOf (L2.CX P w) P w K mg base N qual (defScope stm) f cdv A out s H E) [] σ' H' s' → RelV v u → Q v H' → CE out P w H s Q u s' :=
    fun {σ' H' v u} J rv q => ⟨v, H', J.os, J.bare, J.base, J.hok, rv, q⟩
  cases fl with
  | next => obtain ⟨σ', H', J, q⟩ := z; exact done (v := V.non) (u := Value.none) J rfl q
  | brk => obtain ⟨_, _, _, q⟩ := z; exact q.elim
  | cont => obtain ⟨_, _, _, q⟩ := z; exact q.elim
  | ret u => obtain ⟨v, σ', H', J, rv, q⟩ := z; exact done J rv q
section
variable {X : Cx} {k : Nat} {f : Addr} {fd : FuncData} {ps : List PySem.Str} {sp : Sp} {W : WX} {x : PySem.Str} {p pos : Pos} {e : Expr} {es : List Expr} {t : TA}
theorem run_fnG {pins : List (Addr × PySem.Obj)} {σ : L2.St} {H : Hp} {s : Shared} {Q : VK} {us : List Value} {vs : List V} (F : FnG X.prog X.w X.K X.mg X.base k f fd ps sp) (hgd : X.A.guards = some []) (hr : Room k X.A) (hb : Binds X.K fd ps []) (tk : Takes X W)
    (I : Inv X pins σ H s) (r : Vals vs us) (h : sp vs H Q (WE W σ)) : wpAny (model X.prog X.w) X.A (call (.ref f) us) (EP X pins σ Q) X.xe s := by
  have lens : us.length = ps.length := by rw [← r.length]; exact F.len _ _ _ _ h
  have bb := hb s us I.kIn (by rw [List.append_nil]; exact lens)
  rw [List.append_nil] at bb
  refine wpAny_call (codeAny_mono (F.run X.A X.stack s H ⟨us, []⟩ us vs Q (WE W σ) hgd hr I.env0 bb r h) fun res s' z => ?_)
  cases res with
  | error e => exact passAt tk σ pins H s e s' I z
  | ok fl =>
    cases fl with
    | ret u => exact I.after z
    | next => exact z.elim
    | brk => exact z.elim
    | cont => exact z.elim
theorem pe_callG (F : FnG X.prog X.w X.K X.mg X.base k f fd ps sp) (hgd : X.A.guards = some []) (hr : Room k X.A) (hg : Gl X x) (hm : X.mg x = some (.ref f)) (hk : PySem.W.keepIn X.K (.ref f) = true) (hb : Binds X.K fd ps []) (tk : Takes X W)
    (ha : PA X (e :: es) t) (hdb : (x == ("__debug__" : PySem.Str)) = false) (he : starEach (e :: es) X.env = (false, eval e X.env) :: starEach es X.env) (hpl : (backTo pos (starEach es X.env)).any (·.1) = false) :
    PE X (.Call (.Name x p) (e :: es) [] pos) (tCallS sp (WE W) t) := by
  refine ⟨fun pins s σ H Q I h => wpAny_Call_Name_kw (ld_glob I hg hm ?_ hdb)⟩
  refine PySem.W.callWith_K (h₀ := X.base) I.ok.mod.kin hk (thn (ha.run pos pins s σ H _ I h) fun us s1 ⟨vs, H1, I1, r, q⟩ => ?_) he hpl
  exact ⟨I1.kIn, run_fnG F hgd hr hb tk I1 r q⟩
theorem pe_callG0 (F : FnG X.prog X.w X.K X.mg X.base k f fd ps sp) (hgd : X.A.guards = some []) (hr : Room k X.A) (hg : Gl X x) (hm : X.mg x = some (.ref f)) (hk : PySem.W.keepIn X.K (.ref f) = true) (hb : Binds X.K fd ps []) (tk : Takes X W)
    (hdb : (x == ("__debug__" : PySem.Str)) = false) : PE X (.Call (.Name x p) [] [] pos) (tCallS sp (WE W) tNil) :=
  ⟨fun pins s σ H Q I h => wpAny_Call_Name_kw (ld_glob I hg hm (PySem.W.callWith_K0 I.kIn hk (run_fnG (us := []) F hgd hr hb tk I .nil h)) hdb)⟩
/-- a call with the last arguments left to their defaults -/
theorem run_fnGD {pins : List (Addr × PySem.Obj)} {σ : L2.St} {H : Hp} {s : Shared} {Q : VK} {us ds : List Value} {vs dvs : List V} (F : FnG X.prog X.w X.K X.mg X.base k f fd ps sp) (hgd : X.A.guards = some []) (hr : Room k X.A) (hb : Binds X.K fd ps ds) (hd : Vals dvs ds) (tk : Takes X W)
    (I : Inv X pins σ H s) (r : Vals vs us) (h : sp (vs ++ dvs) H Q (WE W σ)) : wpAny (model X.prog X.w) X.A (call (.ref f) us) (EP X pins σ Q) X.xe s := by
  have rr : Vals (vs ++ dvs) (us ++ ds) := r.append hd
  have lens : (us ++ ds).length = ps.length := by rw [← rr.length]; exact F.len _ _ _ _ h
  have bb := hb s us I.kIn lens
  refine wpAny_call (codeAny_mono (F.run X.A X.stack s H ⟨us, []⟩ (us ++ ds) (vs ++ dvs) Q (WE W σ) hgd hr I.env0 bb rr h) fun res s' z => ?_)
  cases res with
  | error e => exact passAt tk σ pins H s e s' I z
  | ok fl =>
    cases fl with
    | ret u => exact I.after z
    | next => exact z.elim
    | brk => exact z.elim
    | cont => exact z.elim
def tCallD (sp : Sp) (dvs : List V) (E : L2.St → XK) (t : TA) : TE := fun σ H Q => t σ H fun vs H1 => sp (vs ++ dvs) H1 Q (E σ)
theorem pe_callGD {ds : List Value} {dvs : List V} (F : FnG X.prog X.w X.K X.mg X.base k f fd ps sp) (hgd : X.A.guards = some []) (hr : Room k X.A) (hg : Gl X x) (hm : X.mg x = some (.ref f)) (hk : PySem.W.keepIn X.K (.ref f) = true) (hb : Binds X.K fd ps ds) (hd : Vals dvs ds) (tk : Takes X W)
    (ha : PA X (e :: es) t) (hdb : (x == ("__debug__" : PySem.Str)) = false) (he : starEach (e :: es) X.env = (false, eval e X.env) :: starEach es X.env) (hpl : (backTo pos (starEach es X.env)).any (·.1) = false) :
    PE X (.Call (.Name x p) (e :: es) [] pos) (tCallD sp dvs (WE W) t) := by
  refine ⟨fun pins s σ H Q I h => wpAny_Call_Name_kw (ld_glob I hg hm ?_ hdb)⟩
  refine PySem.W.callWith_K (h₀ := X.base) I.ok.mod.kin hk (thn (ha.run pos pins s σ H _ I h) fun us s1 ⟨vs, H1, I1, r, q⟩ => ?_) he hpl
  exact ⟨I1.kIn, run_fnGD F hgd hr hb hd tk I1 r q⟩
/-- a call of a local name that holds a def -/
def tCallG (i : Nat) (S : Addr → Sp → Prop) (E : L2.St → XK) (t : TA) : TE := fun σ H Q => ∃ f sp, σ[i]? = some (some (.ref f)) ∧ S f sp ∧ t σ H fun vs H1 => sp vs H1 Q (E σ)
theorem pe_cllG {i : Nat} {S : Addr → Sp → Prop} (A : ∀ f sp, S f sp → ∃ fd ps, PySem.W.keepIn X.K (.ref f) = true ∧ Binds X.K fd ps [] ∧ FnG X.prog X.w X.K X.mg X.base k f fd ps sp) (hgd : X.A.guards = some []) (hr : Room k X.A) (hN : X.N[i]? = some x) (hv : Vis X.env.scope x) (tk : Takes X W)
    (ha : PA X (e :: es) t) (hdb : (x == ("__debug__" : PySem.Str)) = false) (hdc : (x == ("__classdict__" : PySem.Str)) = false) (he : starEach (e :: es) X.env = (false, eval e X.env) :: starEach es X.env) (hpl : (backTo pos (starEach es X.env)).any (·.1) = false) :
    PE X (.Call (.Name x p) (e :: es) [] pos) (tCallG i S (WE W) t) := by
  refine ⟨fun pins s σ H Q I h => ?_⟩
  obtain ⟨f, sp, hi, hS, ht⟩ := h
  obtain ⟨fd, ps, hk, hb, F⟩ := A f sp hS
  refine wpAny_Call_Name_kw (thn ((pe_var (pos := p) hN hv hdb hdc).run pins s σ H (fun v H1 => v = .ref f ∧ H1 = H) I ⟨_, hi, rfl, rfl⟩) fun u s1 ⟨v, H1, I1, r, ev, eH⟩ => ?_)
  subst ev eH
  cases r
  refine PySem.W.callWith_K (h₀ := X.base) I1.ok.mod.kin hk (thn (ha.run pos pins s1 σ _ _ I1 ht) fun us s2 ⟨vs, H2, I2, r, q⟩ => ?_) he hpl
  exact ⟨I2.kIn, run_fnG F hgd hr hb tk I2 r q⟩
end
end VM
namespace VM
open PySem L2 PySem.Spec PyProof.Rows
structure Cc where
  N : List PySem.Str
  fn : List PySem.Str
  gn : List PySem.Str
  cn : List PySem.Str
def nmOk (x : PySem.Str) : Bool := !(x == ("__debug__" : PySem.Str)) && !(x == ("__classdict__" : PySem.Str))
def visB (sc : Scope) (x : PySem.Str) : Bool := match sc.names.lookup x with
  | some .local => true | some .cell => true | some .free => true | _ => false
def locB (sc : Scope) (x : PySem.Str) : Bool := match sc.names.lookup x with
  | some .local => true | some .cell => true | _ => false
def lclB (sc : Scope) (x : PySem.Str) : Bool := match sc.names.lookup x with
  | some .local => true | _ => false
def glB (sc : Scope) (x : PySem.Str) : Bool := match sc.names.lookup x with
  | some .globalImplicit => true | _ => false
def starB : Expr → Bool
  | .Starred _ _ => true | _ => false
def sliceB : Expr → Bool
  | .Slice _ _ _ _ => true | _ => false
def compB : Expr → Bool
  | .ListComp _ _ _ _ => true | .SetComp _ _ _ _ => true | .DictComp _ _ _ _ _ => true | _ => false
def setB : Expr → Bool
  | .Set _ _ _ => true | _ => false
def tupB : Expr → Bool
  | .Tuple _ _ _ => true | _ => false
def call0B : Expr → Bool
  | .Call (.Name _ _) [] [] _ => true | _ => false
/-- tests that are asked otherwise than by their value -/
def notLc : Expr → Bool
  | .ListComp _ _ _ _ => false
  | _ => true
def oddB : Expr → Bool
  | .UnaryOp .Not _ _ => true | .BoolOp _ _ _ => true | .IfExp _ _ _ _ => true | .Compare _ _ _ _ => true | _ => false
def ifeB : Expr → Bool
  | .IfExp _ _ _ _ => true | _ => false
def boolB : Expr → Bool
  | .BoolOp _ _ _ => true | _ => false
def bopE : BOp → Operator → Bool
  | .add, .Add => true | .sub, .Sub => true | .mul, .Mult => true | .fdiv, .FloorDiv => true | .mod, .Mod => true | .pow, .Pow => true | _, _ => false
def copE : COp → CmpOp → Bool
  | .eq, .Eq => true | .ne, .NotEq => true | .lt, .Lt => true | .le, .LtE => true | .gt, .Gt => true | .ge, .GtE => true | .isin, .In => true | .notin, .NotIn => true | .is, .Is => true | .isnot, .IsNot => true | .eqt, .Eq => true | _, _ => false
theorem bopE_eq {o : BOp} {op : Operator} (h : bopE o op = true) : op = bopR o := by cases o <;> cases op <;> first | rfl | cases h
theorem copE_eq {o : COp} {op : CmpOp} (h : copE o op = true) : op = copR o := by cases o <;> cases op <;> first | rfl | cases h
def bifNm : Bif → PySem.Str
  | .len => "len" | .abs => "abs" | .int => "int" | .str => "str" | .repr => "repr" | .tuple => "tuple" | .list => "list" | .all => "all" | .any => "any" | .dict => "dict"
def mthNm : Mth → PySem.Str
  | .append => "append" | .clear => "clear" | .pop => "pop" | .extend => "extend"
def tyStr (t : Nat) : PySem.Str := PySem.Str.ofString (tyNm t)
mutual
def tgs : Tg → List Nat
  | .name i => [i]
  | .tup l => tgsA l
def tgsA : List Tg → List Nat
  | [] => []
  | t :: r => tgs t ++ tgsA r
end
mutual
def chG (c : Cc) (sc : Scope) : Tg → Expr → Bool
  | .name i, e => match e with
    | .Name x _ => decide (c.N[i]? = some x) && locB sc x
    | _ => false
  | .tup l, e => match e with
    | .Tuple es _ _ => chGs c sc l es
    | _ => false
def chGs (c : Cc) (sc : Scope) : List Tg → List Expr → Bool
  | [], [] => true
  | t :: ts, e :: es => !starB e && chG c sc t e && chGs c sc ts es
  | _, _ => false
end
def blk (sc scope : Scope) : Scope := relS scope sc
def ownOf (c : Cc) (own : List Nat) : List (PySem.Str × Nat) := own.filterMap fun i => (c.N[i]?).map fun x => (x, i)
/-- a comprehension's block -/
def chO (c : Cc) (sc scope : Scope) (own : List Nat) : Bool := decide ((ownOf c own).map (·.2) = own) && blkC c.N sc scope (ownOf c own)
mutual
def chE (c : Cc) (sc : Scope) : Exp → Expr → Bool
  | .var i, e => match e with
    | .Name x _ => decide (c.N[i]? = some x) && visB sc x && nmOk x
    | _ => false
  | .lit d, e => match e with
    | .Constant (.int j) _ _ => match d with
      | .int i => decide (i = j)
      | _ => false
    | .Constant (.str x) _ _ => match d with
      | .str s => decide (x = st s)
      | _ => false
    | .Constant (.bool a) _ _ => match d with
      | .bl b => a == b
      | _ => false
    | .Constant .none _ _ => match d with
      | .non => true
      | _ => false
    | _ => false
  | .glob g, e => match e with
    | .Name x _ => decide (c.gn[g]? = some x) && glB sc x && nmOk x
    | _ => false
  | .bin o a b, e => match e with
    | .BinOp l op r _ => bopE o op && chE c sc a l && chE c sc b r
    | _ => false
  | .neg a, e => match e with
    | .UnaryOp .USub l _ => chE c sc a l
    | _ => false
  | .nt a, e => match e with
    | .UnaryOp .Not l _ => !ifeB l && chE c sc a l
    | _ => false
  | .cmp o a b, e => match e with
    | .Compare l [op] [r] _ => copE o op && !setB r && chE c sc a l && chE c sc b r
    | _ => false
  | .cmp2 o p a b d, e => match e with
    | .Compare l [op, op'] [r, r'] _ => copE o op && copE p op' && !setB r' && chE c sc a l && chE c sc b r && chE c sc d r'
    | _ => false
  | .and a b, e => match e with
    | .BoolOp .And (x :: y :: r) pos => !ifeB x && chE c sc a x && (match r with
      | [] => !ifeB y && chE c sc b y
      | z :: r' => chE c sc b (.BoolOp .And (y :: z :: r') pos))
    | _ => false
  | .or a b, e => match e with
    | .BoolOp .Or (x :: y :: r) pos => !ifeB x && chE c sc a x && (match r with
      | [] => !ifeB y && chE c sc b y
      | z :: r' => chE c sc b (.BoolOp .Or (y :: z :: r') pos))
    | _ => false
  | .ife a b d, e => match e with
    | .IfExp x y z _ => !ifeB x && chE c sc a x && chE c sc b y && chE c sc d z
    | _ => false
  | .tup es, e => match e with
    | .Tuple l _ _ => chs c sc es l
    | _ => false
  | .lst es, e => match e with
    | .List l _ => chs c sc es l
    | _ => false
  | .dct es, e => match e with
    | .Dict ks vs _ => chD c sc es ks vs && !ks.isEmpty && decide (ks.length ≤ 15) && decide (ks.length = vs.length) && ks.all (·.isSome)
    | _ => false
  | .dct0, e => match e with
    | .Dict [] [] _ => true
    | _ => false
  | .idx a b, e => match e with
    | .Subscript l r _ => !sliceB r && chE c sc a l && chE c sc b r
    | _ => false
  | .sl a lo hi, e => match e with
    | .Subscript l (.Slice x y none _) _ => chE c sc a l && chP c sc lo x && chP c sc hi y
    | _ => false
  | .call f es, e => match e with
    | .Call (.Name x _) l [] _ => decide (c.fn[f]? = some x) && glB sc x && nmOk x && chs c sc es l
    | _ => false
  | .bif b es, e => match e with
    | .Call (.Name x _) (y :: l) [] _ => decide (x = bifNm b) && glB sc x && chs c sc es (y :: l)
    | _ => false
  | .mth m o es, e => match e with
    | .Call (.Attribute l x ap) r [] pos => decide (x = mthNm m) && (ap.endLine == pos.line) && !call0B l && chE c sc o l && chs c sc es r && decide (r.length < 20)
    | _ => false
  | .isi a ty, e => match e with
    | .Call (.Name x _) [l, .Name y _] [] _ => decide (x = ("isinstance" : PySem.Str)) && glB sc x && decide (y = tyStr ty) && glB sc y && decide (ty < 6) && !starB l && chE c sc a l
    | _ => false
  | .isx a j, e => match e with
    | .Call (.Name x _) [l, .Name y _] [] _ => decide (x = ("isinstance" : PySem.Str)) && glB sc x && glB sc y && nmOk y && ((decide (c.cn[j]? = some y) && decide (j < cVE)) || (decide (j = cVE) && decide (y = ("ValueError" : PySem.Str)))) && !starB l && chE c sc a l
    | _ => false
  | .spl a b, e => match e with
    | .Call (.Attribute l x ap) [r] [] pos => decide (x = ("split" : PySem.Str)) && (ap.endLine == pos.line) && !call0B l && !starB r && chE c sc a l && chE c sc b r
    | _ => false
  | .srt a, e => match e with
    | .Call (.Name x _) [.Call (.Name y _) [l] [] _] [] _ => decide (x = ("sorted" : PySem.Str)) && glB sc x && decide (y = ("set" : PySem.Str)) && glB sc y && !starB l && chE c sc a l
    | _ => false
  | .srs a, e => match e with
    | .Call (.Name x _) [.Call (.Name y _) [l] [] _] [] _ => decide (x = ("sorted" : PySem.Str)) && glB sc x && decide (y = ("set" : PySem.Str)) && glB sc y && !starB l && chE c sc a l
    | _ => false
  | .lset a, e => match e with
    | .Call (.Name x _) [.Call (.Name y _) [l] [] _] [] _ => decide (x = ("len" : PySem.Str)) && glB sc x && decide (y = ("set" : PySem.Str)) && glB sc y && !starB l && chE c sc a l
    | _ => false
  | .rev a, e => match e with
    | .Subscript l (.Slice none none (some (.UnaryOp .USub (.Constant (.int j) _ _) _)) _) _ => decide (j = 1) && chE c sc a l
    | _ => false
  | .rvl a, e => match e with
    | .Subscript l (.Slice none none (some (.UnaryOp .USub (.Constant (.int j) _ _) _)) _) _ => decide (j = 1) && chE c sc a l
    | _ => false
  | .mx a b, e => match e with
    | .Call (.Name x _) [l, r] [] _ => decide (x = ("max" : PySem.Str)) && glB sc x && !starB l && !starB r && chE c sc a l && chE c sc b r
    | _ => false
  | .mn a b, e => match e with
    | .Call (.Name x _) [l, r] [] _ => decide (x = ("min" : PySem.Str)) && glB sc x && !starB l && !starB r && chE c sc a l && chE c sc b r
    | _ => false
  | .kget d a, e => match e with
    | .Call (.Attribute (.Name y _) x ap) [r] [] pos => decide (x = ("get" : PySem.Str)) && decide (y = st d) && glB sc y && nmOk y && (ap.endLine == pos.line) && !starB r && chE c sc a r
    | _ => false
  | .kidx d a, e => match e with
    | .Subscript (.Name y _) r _ => decide (y = st d) && glB sc y && nmOk y && !sliceB r && chE c sc a r
    | _ => false
  | .lzip a b, e => match e with
    | .Call (.Name x _) [.Call (.Name y _) [l, r] [] _] [] _ => decide (x = ("list" : PySem.Str)) && glB sc x && decide (y = ("zip" : PySem.Str)) && glB sc y && !starB l && !starB r && chE c sc a l && chE c sc b r
    | _ => false
  | .dzip a b, e => match e with
    | .Call (.Name x _) [.Call (.Name y _) [l, r] [] _] [] _ => decide (x = ("dict" : PySem.Str)) && glB sc x && decide (y = ("zip" : PySem.Str)) && glB sc y && !starB l && !starB r && chE c sc a l && chE c sc b r
    | _ => false
  | .ixm a b, e => match e with
    | .Call (.Attribute l x ap) [r] [] pos => decide (x = ("index" : PySem.Str)) && (ap.endLine == pos.line) && !call0B l && !starB r && chE c sc a l && chE c sc b r
    | _ => false
  | .swi a b d, e => match e with
    | .Call (.Attribute l x ap) [r, r2] [] pos => decide (x = ("startswith" : PySem.Str)) && (ap.endLine == pos.line) && !call0B l && !starB r && !starB r2 && chE c sc a l && chE c sc b r && chE c sc d r2
    | _ => false
  | .jn a b, e => match e with
    | .Call (.Attribute l x ap) [r] [] pos => decide (x = ("join" : PySem.Str)) && (ap.endLine == pos.line) && !call0B l && !starB r && chE c sc a l && chE c sc b r
    | _ => false
  | .fnv f, e => match e with
    | .Name x _ => decide (c.fn[f]? = some x) && glB sc x && nmOk x
    | _ => false
  | .cll i es, e => match e with
    | .Call (.Name x _) (y :: l) [] _ => decide (c.N[i]? = some x) && visB sc x && nmOk x && chs c sc es (y :: l)
    | _ => false
  | .cld f es, e => match e with
    | .Call (.Name x _) (y :: l) [] _ => decide (c.fn[f]? = some x) && glB sc x && nmOk x && chs c sc es (y :: l)
    | _ => false
  | .lss fl es, e => match e with
    | .List l _ => chsS c sc es fl l
    | _ => false
  | .fld a x, e => match e with
    | .Attribute l y _ => decide (y = st x) && !call0B l && chE c sc a l
    | _ => false
  | .mk _ x es, e => match e with
    | .Call (.Name y _) l [] _ => decide (y = st x) && glB sc y && nmOk y && chs c sc es l
    | _ => false
  | .cm o x es, e => match e with
    | .Call (.Attribute l y ap) r [] pos => decide (y = st x) && (ap.endLine == pos.line) && !call0B l && chE c sc o l && chs c sc es r && decide (r.length < 20)
    | _ => false
  | .dc own tg src ifs k v, e => match e with
    | .DictComp l r [⟨t, it, cs, 0⟩] scope _ => chO c sc scope own && chSrc c sc src t it && (tgs tg).all (fun i => own.contains i) && chG c scope tg t && chI c (blk sc scope) ifs cs && chE c (blk sc scope) k l && chE c (blk sc scope) v r
    | _ => false
  | .lc own tg src ifs elt, e => match e with
    | .ListComp l [⟨t, it, cs, 0⟩] scope _ => chO c sc scope own && chSrc c sc src t it && (tgs tg).all (fun i => own.contains i) && chG c scope tg t && chI c (blk sc scope) ifs cs && chE c (blk sc scope) elt l
    | _ => false
  | .lc2 own own1 tg src ifs tg1 src1 ifs1 elt, e => match e with
    | .ListComp l [⟨t, it, cs, 0⟩, ⟨t1, it1, cs1, 0⟩] scope _ => chO c sc scope own && chSrc c sc src t it && (tgs tg).all (fun i => own.contains i) && chG c scope tg t && chI c (blk sc scope) ifs cs &&
        own1.all (fun i => own.contains i) && chSrc c (blk sc scope) src1 t1 it1 && (tgs tg1).all (fun i => own1.contains i) && chG c scope tg1 t1 && chI c (blk sc scope) ifs1 cs1 && chE c (blk sc scope) elt l
    | _ => false
  | .lenset own tg src elt, e => match e with
    | .Call (.Name x _) [.SetComp l [⟨t, it, [], 0⟩] scope _] [] _ => decide (x = ("len" : PySem.Str)) && glB sc x && chO c sc scope own && chSrc c sc src t it && (tgs tg).all (fun i => own.contains i) && chG c scope tg t && chE c (blk sc scope) elt l
    | _ => false
  | .dcn own tg src ifs k v, e => match e with
    | .DictComp l r [⟨t, it, cs, 0⟩] scope _ => chO c sc scope own && chSrc c sc src t it && (tgs tg).all (fun i => own.contains i) && chG c scope tg t && chI c (blk sc scope) ifs cs && chE c (blk sc scope) k l && chE c (blk sc scope) v r
    | _ => false
  | .nget a k x, e => match e with
    | .Call (.Attribute l y ap) [r, r2] [] pos => decide (y = ("get" : PySem.Str)) && (ap.endLine == pos.line) && !call0B l && !starB r && !starB r2 && chE c sc a l && chE c sc k r && chE c sc x r2
    | _ => false
  | .srn a, e => match e with
    | .Call (.Name x _) [.Call (.Attribute l y ap) [] [] pos] [] _ => decide (x = ("sorted" : PySem.Str)) && glB sc x && decide (y = ("items" : PySem.Str)) && (ap.endLine == pos.line) && !call0B l && chE c sc a l
    | _ => false
  | .isp a i j, e => match e with
    | .Call (.Name x _) [l, .Tuple [.Name y _, .Name z _] _ _] [] _ => decide (x = ("isinstance" : PySem.Str)) && glB sc x && decide (y = tyStr i) && glB sc y && decide (z = tyStr j) && glB sc z && decide (i < 6) && decide (j < 6) && !starB l && chE c sc a l
    | _ => false
  | .cnt a b, e => match e with
    | .Call (.Attribute l x ap) [r] [] pos => decide (x = ("count" : PySem.Str)) && (ap.endLine == pos.line) && !call0B l && !starB r && chE c sc a l && chE c sc b r
    | _ => false
  | .dnp a, e => match e with
    | .Call (.Name x _) [l] [] _ => decide (x = ("dict" : PySem.Str)) && glB sc x && !starB l && chE c sc a l
    | _ => false
  | .sm a, e => match e with
    | .Call (.Name x _) [l] [] _ => decide (x = ("sum" : PySem.Str)) && glB sc x && !starB l && chE c sc a l
    | _ => false
  | .lkE _ a, e => !oddB e && !boolB e && notLc e && chE c sc a e
  | .srtc own tg src ifs elt, e => match e with
    | .Call (.Name x _) [.SetComp l [⟨t, it, cs, 0⟩] scope _] [] _ => decide (x = ("sorted" : PySem.Str)) && glB sc x && chO c sc scope own && chSrc c sc src t it && (tgs tg).all (fun i => own.contains i) && chG c scope tg t && chI c (blk sc scope) ifs cs && chE c (blk sc scope) elt l
    | _ => false
def chs (c : Cc) (sc : Scope) : Exps → List Expr → Bool
  | .nil, [] => true
  | .cons a r, e :: es => !starB e && chE c sc a e && chs c sc r es
  | _, _ => false
def chsS (c : Cc) (sc : Scope) : Exps → List Bool → List Expr → Bool
  | .nil, _, [] => true
  | .cons a r, fl, e :: es => (match e with
    | .Starred e' _ => (fl.headD false) && chE c sc a e'
    | _ => !(fl.headD false) && !starB e && chE c sc a e) && chsS c sc r fl.tail es
  | _, _, _ => false
/-- a dict's written pairs, key and value by turns -/
def chD (c : Cc) (sc : Scope) : Exps → List (Option Expr) → List Expr → Bool
  | .nil, [], [] => true
  | .cons a r, some k :: ks, vs => chE c sc a k && chV c sc r ks vs
  | _, _, _ => false
def chV (c : Cc) (sc : Scope) : Exps → List (Option Expr) → List Expr → Bool
  | .cons a r, ks, v :: vs => chE c sc a v && chD c sc r ks vs
  | _, _, _ => false
def chP (c : Cc) (sc : Scope) : Part → Option Expr → Bool
  | .no, none => true
  | .at_ a, some e => chE c sc a e
  | _, _ => false
def chI (c : Cc) (sc : Scope) : Exps → List Expr → Bool
  | .nil, [] => true
  | .cons a .nil, [e] => !ifeB e && chE c sc a e
  | _, _ => false
def chSrc (c : Cc) (sc : Scope) : Src → Expr → Expr → Bool
  | .seq a, _, e => !setB e && chE c sc a e
  | .rng1 a, _, e => match e with
    | .Call (.Name x _) [y] [] _ => decide (x = ("range" : PySem.Str)) && glB sc x && !starB y && chE c sc a y
    | _ => false
  | .rng2 a b, _, e => match e with
    | .Call (.Name x _) [y, z] [] _ => decide (x = ("range" : PySem.Str)) && glB sc x && !starB y && !starB z && chE c sc a y && chE c sc b z
    | _ => false
  | .zip a b, t, e => match e with
    | .Call (.Name x _) [y, z] [] _ => decide (x = ("zip" : PySem.Str)) && glB sc x && tupB t && !starB y && !starB z && chE c sc a y && chE c sc b z
    | _ => false
  | .revl a, _, e => match e with
    | .Call (.Name x _) [y] [] _ => decide (x = ("reversed" : PySem.Str)) && glB sc x && !starB y && chE c sc a y
    | _ => false
  | .itm d, t, e => match e with
    | .Call (.Attribute (.Name y _) x ap) [] [] pos => decide (x = ("items" : PySem.Str)) && decide (y = st d) && glB sc y && nmOk y && (ap.endLine == pos.line) && tupB t
    | _ => false
  | .ndi i, t, e => match e with
    | .Call (.Attribute (.Name y _) x ap) [] [] pos => decide (x = ("items" : PySem.Str)) && (ap.endLine == pos.line) && tupB t && decide (c.N[i]? = some y) && visB sc y && nmOk y
    | _ => false
end
/-- a comprehension that is stored: the name a cell (an ordinary store), or on one line a local that is not the block's -/
def chC (c : Cc) (sc : Scope) (tg : Tg) (t e : Expr) : Bool := match t, e with
  | .Name y py, .ListComp _ _ scope pos => !lclB sc y || ((py.line == pos.line) && !(scope.names.any fun (n, k) => n == y && (k == .local || k == .cell)))
  | _, _ => false
/-- the names of a pair of stored locals -/
def parB (c : Cc) (sc : Scope) (i : Nat) : Expr → Bool
  | .Name x _ => decide (c.N[i]? = some x) && lclB sc x
  | _ => false
/-- no store of a local ahead of anything that may raise -/
def noStore : Stm → Bool
  | .expr _ => true
  | _ => false
mutual
def tailOk : Stms → Bool
  | .nil => true
  | .cons s .nil => lastOk s
  | .cons s r => noStore s && tailOk r
def lastOk : Stm → Bool
  | .expr _ => true
  | .asg _ _ => true
  | .ret _ => true
  | .ife _ a b => tailOk a && tailOk b
  | _ => false
end
mutual
def chS (c : Cc) (sc : Scope) : Stm → Stmt → Bool
  | .expr a, s => match s with
    | .Expr e _ => !compB e && chE c sc a e
    | _ => false
  | .asg tg a, s => match s with
    | .Assign [t] e _ => chE c sc a e && chG c sc tg t && !(tupB t && tupB e) && (!compB e || chC c sc tg t e)
    | _ => false
  | .par i j a b, s => match s with
    | .Assign [.Tuple [t, u] _ _] (.Tuple [y, z] k p) _ => parB c sc i t && parB c sc j u && decide (i ≠ j) && !starB y && !starB z && (u.pos.line == t.pos.line) && ![y, z].all (foldedForSure 8) && ![y, z].all (constantsAlone 8) && chE c sc a y && chE c sc b z
    | _ => false
  | .par3 i j l a b d, s => match s with
    | .Assign [.Tuple [t, u, v] _ _] (.Tuple [x, y, z] k p) _ => parB c sc i t && parB c sc j u && parB c sc l v && decide (i ≠ j) && decide (i ≠ l) && decide (j ≠ l) && !starB x && !starB y && !starB z && (u.pos.line == t.pos.line) && (v.pos.line == t.pos.line) && ![x, y, z].all (foldedForSure 8) && ![x, y, z].all (constantsAlone 8) && chE c sc a x && chE c sc b y && chE c sc d z
    | _ => false
  | .sub o i v, s => match s with
    | .Assign [.Subscript x y _] e _ => !sliceB y && !compB e && chE c sc o x && chE c sc i y && chE c sc v e
    | _ => false
  | .aug i o a, s => match s with
    | .AugAssign (.Name x _) op e _ => decide (c.N[i]? = some x) && locB sc x && bopE o op && chE c sc a e
    | _ => false
  | .ret a, s => match s with
    | .Return (some e) _ => chE c sc a e
    | _ => false
  | .retN, s => match s with
    | .Return none _ => true
    | _ => false
  | .ife a b d, s => match s with
    | .If e l r _ => !ifeB e && chE c sc a e && chSs c sc b l && chSs c sc d r
    | _ => false
  | .loop tg src b, s => match s with
    | .For t it l [] _ => chSrc c sc src t it && chG c sc tg t && chSs c sc b l
    | _ => false
  | .loopk tg i b, s => match s with
    | .For t it l [] _ => chE c sc (.var i) it && chG c sc tg t && chSs c sc b l
    | _ => false
  | .whil a b, s => match s with
    | .While e l [] _ => !ifeB e && chE c sc a e && chSs c sc b l
    | _ => false
  | .brk, s => match s with
    | .Break _ => true
    | _ => false
  | .cnt, s => match s with
    | .Continue _ => true
    | _ => false
  | .pass, s => match s with
    | .Pass _ => true
    | _ => false
  | .raise d, s => match s with
    | .Raise (some (.Call (.Name x _) [.Constant (.str _) _ _] [] _)) none _ => decide (c.cn[d]? = some x) && glB sc x && nmOk x
    | _ => false
  | .try_ b q i j, s => match s with
    | .Try body [.ExceptHandler (some (.Name x _)) (some n) [.Assign [.Name y _] (.Name m _) _] _] [] [] _ => decide (q < cVE) && decide (c.cn[q]? = some x) && glB sc x && nmOk x && decide (c.N[j]? = some n) && lclB sc n && nmOk n && decide (m = n) && decide (c.N[i]? = some y) && lclB sc y && decide (i ≠ j) && tailOk b && chSs c sc b body
    | _ => false
  | .tryN b q i, s => match s with
    | .Try body [.ExceptHandler (some (.Name x _)) none [.Assign [.Name y _] (.Constant .none _ _) _] _] [] [] _ => decide (q < cVE) && decide (c.cn[q]? = some x) && glB sc x && nmOk x && decide (c.N[i]? = some y) && lclB sc y && tailOk b && chSs c sc b body
    | _ => false
  | .setf o x v, s => match s with
    | .Assign [.Attribute l y _] e _ => decide (y = st x) && chE c sc o l && chE c sc v e
    | _ => false
def chSs (c : Cc) (sc : Scope) : Stms → List Stmt → Bool
  | .nil, [] => true
  | .cons a r, s :: l => chS c sc a s && chSs c sc r l
  | _, _ => false
end
end VM
namespace VM
open PySem L2 PySem.Spec PyProof.Rows
/-- slots and values -/
structure EnvR (K : PySem.W.Frag) (μ : List Addr) (H : Hp) (ρ : VM.Env) (σ : L2.St) : Prop where
  len : ρ.length = σ.length
  at_ : ∀ (i : Nat) (d : D), ρ[i]? = some (some d) → ∃ v, σ[i]? = some (some v) ∧ Rep K μ H d v
section
variable {K : PySem.W.Frag} {μ μ' : List Addr} {S : Store} {H H' : Hp} {ρ : VM.Env} {σ : L2.St}
theorem EnvR.ext (e : EnvR K μ H ρ σ) (x : Ext K μ H μ' H') : EnvR K μ' H' ρ σ := ⟨e.len, fun i d h => let ⟨v, h1, h2⟩ := e.at_ i d h; ⟨v, h1, h2.ext x⟩⟩
theorem EnvR.mon (e : EnvR K μ H ρ σ) (x : Mon (K := K) μ H μ' H') : EnvR K μ' H' ρ σ := ⟨e.len, fun i d h => let ⟨v, h1, h2⟩ := e.at_ i d h; ⟨v, h1, h2.mon x⟩⟩
theorem EnvR.set (e : EnvR K μ H ρ σ) {d : D} {v : V} (r : Rep K μ H d v) (i : Nat) : EnvR K μ H (ρ.set i (some d)) (σ.set i (some v)) := by
  refine ⟨by simp [e.len], fun j x h => ?_⟩
  by_cases hj : i = j
  · subst hj
    have hl := (List.getElem?_eq_some_iff.mp h).1
    rw [List.length_set] at hl
    rw [List.getElem?_set_self hl] at h
    cases h
    exact ⟨v, by rw [List.getElem?_set_self (by rw [← e.len]; exact hl)], r⟩
  · rw [List.getElem?_set_ne hj] at h
    rw [List.getElem?_set_ne hj]
    exact e.at_ j x h
theorem EnvR.unset (e : EnvR K μ H ρ σ) (i : Nat) : EnvR K μ H (ρ.set i none) (σ.set i none) := by
  refine ⟨by simp [e.len], fun j x h => ?_⟩
  by_cases hj : i = j
  · subst hj
    have hl := (List.getElem?_eq_some_iff.mp h).1
    rw [List.length_set] at hl
    rw [List.getElem?_set_self hl] at h
    cases h
  · rw [List.getElem?_set_ne hj] at h
    rw [List.getElem?_set_ne hj]
    exact e.at_ j x h
theorem EnvR.wip (e : EnvR K μ H ρ σ) : ∀ vs : List Nat, EnvR K μ H (VM.wip ρ vs) (wipe σ vs)
  | [] => e
  | v :: vs => (EnvR.wip e vs).unset v
theorem EnvR.var (e : EnvR K μ H ρ σ) {i : Nat} {d : D} (h : getV ρ i = some d) : ∃ v, σ[i]? = some (some v) ∧ Rep K μ H d v := by
  unfold getV at h
  split at h
  · rename_i x hx
    cases h
    exact e.at_ i _ hx
  · cases h
end
/-- the text's names, the program's numbers -/
structure Tab where
  cA : Nat → Addr
  iA : Nat → Addr := fun _ => 0
  fA : Nat → Addr := fun _ => 0
section
variable (K : PySem.W.Frag) (T : Tab) (W : WX)
def wx (σ : L2.St) : Nat → Hp → Prop := fun c H => W (.ref (T.cA c)) none σ H
def tE (C : Ctl) (e : Exp) : TE := fun σ H Q => ∃ μ S ρ, Cor K μ S H ∧ EnvR K μ H ρ σ ∧ Pst K μ H (evE C e ρ S) (fun d _ μ' H' => ∀ v, Rep K μ' H' d v → Q v H') (wx T W σ)
def tT (C : Ctl) (e : Exp) : TT := fun σ H Q => ∃ μ S ρ, Cor K μ S H ∧ EnvR K μ H ρ σ ∧ Pst K μ H (bnd (evE C e ρ) truth S) (fun b _ _ H' => Q b H') (wx T W σ)
def tA (C : Ctl) (es : Exps) : TA := fun σ H Q => ∃ μ S ρ, Cor K μ S H ∧ EnvR K μ H ρ σ ∧ Pst K μ H (evs C es ρ S) (fun ds _ μ' H' => ∀ vs, Reps K μ' H' ds vs → Q vs H') (wx T W σ)
def tP (C : Ctl) (p : Part) : TO := fun σ H Q => ∃ μ S ρ, Cor K μ S H ∧ EnvR K μ H ρ σ ∧ Pst K μ H (evP C p ρ S) (fun o _ _ H' => Q o H') (wx T W σ)
def tI (C : Ctl) (es : Exps) : TT := fun σ H Q => ∃ μ S ρ, Cor K μ S H ∧ EnvR K μ H ρ σ ∧ Pst K μ H (evIf C es ρ S) (fun b _ _ H' => Q b H') (wx T W σ)
/-- a walk of ours, a walk of the machine -/
def SeqIt (q : Seq) (J : It) (μ : List Addr) (H : Hp) : Prop := ∀ μ' S' H' i, Cor K μ' S' H' → Mon (K := K) μ H μ' H' →
  (∀ d, q.item S' i = some (some d) → J.go i H' ∧ ∀ x H2, J.yld i H' x H2 → Ext K μ' H' μ' H2 ∧ Cor K μ' S' H2 ∧ Rep K μ' H2 d x) ∧ (q.item S' i = some none → J.stop i H')
def tSr (C : Ctl) (s : Src) : TI := fun σ H R => ∃ μ S ρ, Cor K μ S H ∧ EnvR K μ H ρ σ ∧ Pst K μ H (evSrc C s ρ S) (fun q _ μ' H' => ∀ J, SeqIt K q J μ' H' → R J H') (wx T W σ)
/-- a target -/
def tG (tg : Tg) : TG := fun v σ H Q => ∃ μ ρ d ρ', EnvR K μ H ρ σ ∧ Rep K μ H d v ∧ bind1 tg d ρ = some ρ' ∧ ∀ σ', EnvR K μ H ρ' σ' → (∀ j, j ∉ tgs tg → σ'[j]? = σ[j]?) → σ'.length = σ.length → Q σ' H
def tGs (tg : List Tg) : TGs := fun vs σ H Q => ∃ μ ρ ds ρ', EnvR K μ H ρ σ ∧ Reps K μ H ds vs ∧ bindA tg ds ρ = some ρ' ∧ ∀ σ', EnvR K μ H ρ' σ' → (∀ j, j ∉ tgsA tg → σ'[j]? = σ[j]?) → σ'.length = σ.length → Q σ' H
end
theorem PE.imp {X : Cx} {e : Expr} {t t' : TE} (h : PE X e t) (f : ∀ σ H Q, t' σ H Q → t σ H Q) : PE X e t' := ⟨fun pins s σ H Q I q => h.run pins s σ H Q I (f σ H Q q)⟩
theorem PT.imp {X : Cx} {e : Expr} {t t' : TT} (h : PT X e t) (f : ∀ σ H Q, t' σ H Q → t σ H Q) : PT X e t' := ⟨fun pins s σ H Q I q => h.run pins s σ H Q I (f σ H Q q)⟩
theorem PW.imp {X : Cx} {e : Expr} {t t' : TT} (h : PW X e t) (f : ∀ σ H Q, t' σ H Q → t σ H Q) : PW X e t' := ⟨fun wh pins s σ H Q I q => h.run wh pins s σ H Q I (f σ H Q q)⟩
theorem PA.imp {X : Cx} {es : List Expr} {t t' : TA} (h : PA X es t) (f : ∀ σ H Q, t' σ H Q → t σ H Q) : PA X es t' := ⟨fun p pins s σ H Q I q => h.run p pins s σ H Q I (f σ H Q q)⟩
theorem PO.imp {X : Cx} {e : Option Expr} {t t' : TO} (h : PO X e t) (f : ∀ σ H Q, t' σ H Q → t σ H Q) : PO X e t' := ⟨fun pins s σ H Q I q => h.run pins s σ H Q I (f σ H Q q)⟩
theorem PI.imp {X : Cx} {tg e : Expr} {t t' : TI} (h : PI X tg e t) (f : ∀ σ H Q, t' σ H Q → t σ H Q) : PI X tg e t' := ⟨fun pins s σ H Q I q => h.run pins s σ H Q I (f σ H Q q)⟩
theorem PG.imp {X : Cx} {tg : Expr} {t t' : TG} (h : PG X tg t) (f : ∀ v σ H Q, t' v σ H Q → t v σ H Q) : PG X tg t' := ⟨fun pins s σ H v u Q I r q => h.run pins s σ H v u Q I r (f v σ H Q q)⟩
theorem PGs.imp {X : Cx} {tg : List Expr} {t t' : TGs} (h : PGs X tg t) (f : ∀ v σ H Q, t' v σ H Q → t v σ H Q) : PGs X tg t' := ⟨fun pins s σ H v u Q I r q => h.run pins s σ H v u Q I r (f v σ H Q q)⟩
theorem PS.imp {X : Cx} {st : Stmt} {t t' : TS} (h : PS X st t) (f : ∀ D σ H, t' D σ H → t D σ H) : PS X st t' := ⟨fun pins s σ H D I q => h.run pins s σ H D I (f D σ H q)⟩
/-- a def's promise by the interpreter -/
def spOf (T : Tab) (K : PySem.W.Frag) (P : Prg) (k i : Nat) : Sp := fun vs H Q E => ∃ μ S ds, Cor K μ S H ∧ Reps K μ H ds vs ∧
  Pst K μ H (callN P k i ds S) (fun d _ μ' H' => ∀ v, Rep K μ' H' d v → Q v H') (fun c H' => E (.ref (T.cA c)) none H')
def ctl (P : Prg) (k : Nat) : Ctl := { call := callN P k, glob := fun g => (P.globs[g]?).join, cA := P.cA, sub := P.sub, kd := fun x => P.kds.lookup x, fA := P.fA, dfs := fun i => P.dfs.lookup i, cl := fun q => P.cls.lookup q, iA := P.iA, mkc := match k with
  | 0 => none
  | m + 1 => some fun i vs => callN P m i vs }
def blts : List PySem.Str := ["len", "abs", "int", "str", "repr", "tuple", "list", "all", "any", "range", "zip", "isinstance", "bool", "dict", "ValueError", "set", "sorted", "reversed", "max", "min", "sum"]
/-- a class by its number: an own one, or ValueError -/
def clsV (T : Tab) (j : Nat) : Value := if j = cVE then .type "ValueError" else .ref (T.cA j)
/-- what is known of the classes of what is raised -/
def ExcsK (T : Tab) (P : Prg) (K : PySem.W.Frag) : Prop := ∀ (n j : Nat) (b : Bool), P.sub n j = some b → P.cA n = T.cA n ∧ L2.ExcC K (T.cA n) ∧ PySem.W.kitOne K (.ref (T.cA n)) (clsV T j) = some b ∧ (j ≠ cVE → PySem.W.exmOne K (.ref (T.cA n)) (.ref (T.cA j)) = some b)
/-- a dict of the top, by its name, known for ever -/
def KdAt (w : World) (K : PySem.W.Frag) (mg : PySem.Str → Option Value) (x : List Nat) (kvs : List (Key × D)) : Prop :=
  ∃ (a : Addr) (ks : List (L2.Key × V)) (vs : List (L2.Key × Value)) (ep : Nat), mg (st x) = some (.ref a) ∧ (a == sysModules) = false ∧ KV ks vs ∧ (∀ (Pg : Program) (h : Heap), K.In h → PySem.Heap.DictAt (mixKind Pg w) h a vs ep) ∧ ∀ μ H, KRep K μ H kvs ks
/-- what is known of a method -/
def MthOk (X : Cx) (k : Nat) (m : PySem.Str) (C g : Addr) (sp : Sp) : Prop := ∃ fd ps, Cls X.K C ∧ Meth X.K C m g ∧ Binds X.K fd ps [] ∧ FnG X.prog X.w X.K X.mg X.base k g fd ps sp
/-- what is known of an own class that is made -/
structure ClsG (T : Tab) (P : Prg) (k : Nat) (X : Cx) (q : Nat) (ce : ClsE) : Prop where
  iA : P.iA q = T.iA q
  mg : X.mg (st ce.nm) = some (.ref (T.iA q))
  c : Cls X.K (T.iA q)
  fl : ∀ f, ce.fl.contains f = true → NoAttr X.K (T.iA q) (st f)
  ms : ∀ m i, ce.ms.lookup m = some i → ∃ g, MthOk X k (st m) (T.iA q) g (spOf T X.K P k i)
  mak : ∃ f fd ps, Mk X.K (T.iA q) f ∧ Binds X.K fd ps [] ∧ ∀ j, k = j + 1 → FnG X.prog X.w X.K X.mg X.base j f fd ps (spOf T X.K P j ce.init)
structure Good (T : Tab) (P : Prg) (k : Nat) (c : Cc) (sc : Scope) (X : Cx) (W : WX) : Prop where
  hN : X.N = c.N
  nd : X.N.Nodup
  sc : X.env.scope = sc
  calm : X.calm = true
  room : Room k X.A
  gd : X.A.guards = some []
  tk : Takes X W
  fns : ∀ (i : Nat) (x : PySem.Str), c.fn[i]? = some x → ∃ f fd ps, X.mg x = some (.ref f) ∧ PySem.W.keepIn X.K (.ref f) = true ∧ Binds X.K fd ps [] ∧ FnG X.prog X.w X.K X.mg X.base k f fd ps (spOf T X.K P k i)
  blt : ∀ x ∈ blts, X.mg x = none
  globs : ∀ (i : Nat) (x : PySem.Str), c.gn[i]? = some x → ∃ u v d, X.mg x = some u ∧ RelV v u ∧ (P.globs[i]?).join = some d ∧ ∀ μ H, Rep X.K μ H d v
  clss : ∀ (i : Nat) (x : PySem.Str), c.cn[i]? = some x → X.mg x = some (.ref (T.cA i)) ∧ PySem.W.keepIn X.K (.ref (T.cA i)) = true ∧ Raises X (.ref (T.cA i)) ∧ PySem.W.excIn X.K (T.cA i) [.type "ValueError", .type "Exception", .type "BaseException", .type "object"] "ValueError.__new__" = true
  excs : ExcsK T P X.K
  kds : ∀ (x : List Nat) (kvs : List (Key × D)), P.kds.lookup x = some kvs → KdAt X.w X.K X.mg x kvs
  fas : ∀ (i : Nat) (a : Addr), P.fA i = some a → ∃ x fd ps, c.fn[i]? = some x ∧ X.mg x = some (.ref a) ∧ PySem.W.keepIn X.K (.ref a) = true ∧ Binds X.K fd ps [] ∧ FnG X.prog X.w X.K X.mg X.base k a fd ps (spOf T X.K P k i)
  dfs : ∀ (i : Nat) (ds : List D), P.dfs.lookup i = some ds → ∃ x f fd ps us vs, c.fn[i]? = some x ∧ X.mg x = some (.ref f) ∧ PySem.W.keepIn X.K (.ref f) = true ∧ Binds X.K fd ps us ∧ Vals vs us ∧ (∀ μ H, Reps X.K μ H ds vs) ∧ FnG X.prog X.w X.K X.mg X.base k f fd ps (spOf T X.K P k i)
  cls : ∀ (q : Nat) (ce : ClsE), P.cls.lookup q = some ce → ClsG T P k X q ce
theorem takesF {X : Cx} (h : X.xe = fun _ _ => False) : Takes X (fun _ _ _ _ => False) := fun u s' x => by
  obtain ⟨_, _, _, _, _, _, _, _, _, _, _, _, _, _, _, _, z⟩ := x
  exact z.elim
theorem blk_scope {scope : Scope} {cl : List (PySem.Str × Addr)} {C : Addr} {env : PySem.Env} : (compEnvC scope cl C env).scope = blk env.scope scope := by
  first | rfl | (unfold compEnvC relabel blk relS; rfl)
theorem Good.block {T : Tab} {P : Prg} {k : Nat} {c : Cc} {sc scope : Scope} {X : Cx} {W : WX} (g : Good T P k c sc X W) (s : Shared) (H : Hp) (C : Addr) (cl : List (PySem.Str × Addr)) (fp : List Addr) :
    Good T P k c (blk sc scope) (X.blk s H scope (compEnvC scope cl C X.env) fp) (fun _ _ _ _ => False) := by
  refine ⟨g.hN, g.nd, ?_, g.calm, g.room, g.gd, takesF rfl, g.fns, g.blt, g.globs, g.clss, g.excs, g.kds, g.fas, g.dfs, fun q ce h => let z := g.cls q ce h; ⟨z.iA, z.mg, z.c, z.fl, z.ms, z.mak⟩⟩
  rw [← g.sc]
  exact blk_scope
/-- names that may be stored -/
def StOk (stc : Scope) (X : Cx) : Prop := ∀ x, locB stc x = true → Loc X.env.scope x ∧ (X.fn x = true ∨ X.env.scope.names.lookup x = some .local)
theorem locB_or {sc : Scope} {x : PySem.Str} (h : locB sc x = true) : Loc sc x := by
  unfold locB at h
  split at h
  · rename_i q; exact .inl q
  · rename_i q; exact .inr q
  · cases h
theorem visB_or {sc : Scope} {x : PySem.Str} (h : visB sc x = true) : Vis sc x := by
  unfold visB at h
  split at h
  · rename_i q; exact .inl q
  · rename_i q; exact .inr (.inl q)
  · rename_i q; exact .inr (.inr q)
  · cases h
theorem glB_of {sc : Scope} {x : PySem.Str} {X : Cx} (e : X.env.scope = sc) (h : glB sc x = true) : Gl X x := by
  unfold glB at h
  unfold Gl Env.kindOf
  rw [e]
  split at h
  · rename_i q; exact q
  · cases h
theorem stOk_block {scope : Scope} {X : Cx} (s : Shared) (H : Hp) (C : Addr) (cl : List (PySem.Str × Addr)) (fp : List Addr) : StOk scope (X.blk s H scope (compEnvC scope cl C X.env) fp) := fun x hx => by
  have e : (X.blk s H scope (compEnvC scope cl C X.env) fp).env.scope = relS scope X.env.scope := blk_scope
  rw [e]
  rcases locB_or hx with q | q
  · have z : (relS scope X.env.scope).names.lookup x = some .local := lookup_relS_keep (by decide) q
    exact ⟨.inl z, .inr z⟩
  · have z : (relS scope X.env.scope).names.lookup x = some .cell := lookup_relS_keep (by decide) q
    refine ⟨.inr z, .inl ?_⟩
    show (scope.names.lookup x == some NameKind.cell) = true
    rw [q]
    rfl
theorem starB_as {e : Expr} {es : List Expr} {env : PySem.Env} (h : starB e = false) : assignEach (e :: es) env = (false, assign e env) :: assignEach es env := by cases e <;> first | rfl | cases h
theorem asg_len {env : PySem.Env} : ∀ es : List Expr, (assignEach es env).length = es.length
  | [] => rfl
  | e :: es => by cases e <;> simp [assignEach, asg_len es]
theorem asg_nostar {env : PySem.Env} : ∀ es : List Expr, es.all (fun e => !starB e) = true → (assignEach es env).findIdx? (·.1) = none
  | [], _ => rfl
  | e :: es, h => by
    rw [List.all_cons, Bool.and_eq_true, Bool.not_eq_true'] at h
    rw [starB_as h.1, List.findIdx?_cons, asg_nostar es h.2]
    rfl
mutual
theorem chG_ok {c : Cc} {stc : Scope} {X : Cx} (hN : X.N = c.N) (nd : X.N.Nodup) (hc : X.calm = true) (so : StOk stc X) : ∀ (tg : Tg) (e : Expr), chG c stc tg e = true → PG X e (tG X.K tg)
  | .name i, e, h => by
    cases e with
    | Name x pos =>
      have h : (decide (c.N[i]? = some x) && locB stc x) = true := h
      rw [Bool.and_eq_true, decide_eq_true_eq] at h
      obtain ⟨h1, h2⟩ := so x h.2
      refine PG.imp (pg_name (i := i) nd (by rw [hN]; exact h.1) h1 h2) ?_
      rintro v σ H Q ⟨μ, ρ, d, ρ', er, rd, hb, k⟩
      cases hb
      refine k _ (er.set rd i) (fun j hj => ?_) (by simp)
      have hj : j ∉ [i] := hj
      rw [List.getElem?_set_ne (fun z => hj (by simp [z]))]
    | _ => cases h
  | .tup l, e, h => by
    cases e with
    | Tuple es k pos =>
      have h : chGs c stc l es = true := h
      obtain ⟨h1, h2, h3⟩ := chGs_ok hN nd hc so l es h
      refine PG.imp (pg_tup hc h1 (n := es.length) (asg_len es) (asg_nostar es h2)) ?_
      rintro v σ H Q ⟨μ, ρ, d, ρ', er, rd, hb, k⟩
      cases d with
      | tup ds =>
        cases rd with
        | @tup a vs _ q r =>
          have hb : bindA l ds ρ = some ρ' := hb
          refine ⟨a, vs, rfl, q, ?_, μ, ρ, ds, ρ', er, r, hb, k⟩
          rw [← r.length, ← h3]
          exact (bindA_len hb).symm
      | _ => cases hb
    | _ => cases h
theorem chGs_ok {c : Cc} {stc : Scope} {X : Cx} (hN : X.N = c.N) (nd : X.N.Nodup) (hc : X.calm = true) (so : StOk stc X) : ∀ (ts : List Tg) (es : List Expr), chGs c stc ts es = true → PGs X es (tGs X.K ts) ∧ es.all (fun e => !starB e) = true ∧ ts.length = es.length
  | [], [], _ => by
    refine ⟨PGs.imp pgs_nil ?_, rfl, rfl⟩
    rintro vs σ H Q ⟨μ, ρ, ds, ρ', er, rd, hb, k⟩
    cases ds with
    | nil =>
      cases rd
      cases hb
      exact ⟨rfl, k _ er (fun _ _ => rfl) rfl⟩
    | cons _ _ => cases hb
  | t :: ts, e :: es, h => by
    have h : (!starB e && chG c stc t e && chGs c stc ts es) = true := h
    rw [Bool.and_eq_true, Bool.and_eq_true, Bool.not_eq_true'] at h
    obtain ⟨⟨h0, h1⟩, h2⟩ := h
    have g1 := chG_ok hN nd hc so t e h1
    obtain ⟨g2, g3, g4⟩ := chGs_ok hN nd hc so ts es h2
    refine ⟨PGs.imp (pgs_cons g1 g2 (by rw [starB_as h0]; rfl)) ?_, by rw [List.all_cons, h0, g3]; rfl, by simp [g4]⟩
    rintro vs σ H Q ⟨μ, ρ, ds, ρ', er, rd, hb, k⟩
    cases ds with
    | nil => cases hb
    | cons d ds =>
      cases rd with
      | @cons _ _ v vs r rs =>
        have hb : (bind1 t d ρ).bind (bindA ts ds) = some ρ' := hb
        cases q : bind1 t d ρ with
        | none => rw [q] at hb; cases hb
        | some ρ1 =>
          rw [q] at hb
          refine ⟨v, vs, rfl, μ, ρ, d, ρ1, er, r, q, fun σ1 er1 f1 l1 => ⟨μ, ρ1, ds, ρ', er1, rs, hb, fun σ2 er2 f2 l2 => k σ2 er2 (fun j hj => ?_) (by rw [l2, l1])⟩⟩
          have hj : j ∉ tgs t ++ tgsA ts := hj
          rw [List.mem_append, not_or] at hj
          rw [f2 j hj.2, f1 j hj.1]
  | [], _ :: _, h => by cases h
  | _ :: _, [], h => by cases h
theorem bindA_len : ∀ {ts : List Tg} {ds : List D} {ρ ρ' : VM.Env}, bindA ts ds ρ = some ρ' → ts.length = ds.length
  | [], [], _, _, _ => rfl
  | t :: ts, d :: ds, ρ, ρ', h => by
    have h : (bind1 t d ρ).bind (bindA ts ds) = some ρ' := h
    cases q : bind1 t d ρ with
    | none => rw [q] at h; cases h
    | some ρ1 =>
      rw [q] at h
      have := bindA_len (ts := ts) (ds := ds) h
      simp [this]
  | [], _ :: _, _, _, h => by cases h
  | _ :: _, [], _, _, h => by cases h
end
theorem wipe_eq {σ σ' : L2.St} {vs : List Nat} (h : ∀ j, j ∉ vs → σ'[j]? = σ[j]?) (hl : σ'.length = σ.length) : wipe σ' vs = wipe σ vs := by
  have at_in : ∀ (τ : L2.St) (vs : List Nat) (j : Nat), j ∈ vs → j < τ.length → (wipe τ vs)[j]? = some none := by
    intro τ vs j hj hlt
    induction vs with
    | nil => cases hj
    | cons v vs ih =>
      show ((wipe τ vs).set v none)[j]? = some none
      by_cases e : v = j
      · subst e
        rw [List.getElem?_set_self (by rw [wipe_length]; exact hlt)]
      · rw [List.getElem?_set_ne e]
        rcases List.mem_cons.mp hj with z | z
        · exact absurd z.symm e
        · exact ih z
  refine List.ext_getElem? fun j => ?_
  by_cases hj : j ∈ vs
  · by_cases hlt : j < σ.length
    · rw [at_in σ' vs j hj (by rw [hl]; exact hlt), at_in σ vs j hj hlt]
    · rw [List.getElem?_eq_none (by rw [wipe_length, hl]; omega), List.getElem?_eq_none (by rw [wipe_length]; omega)]
  · rw [wipe_out hj, wipe_out hj]
    exact h j hj
theorem wipe_wipe {σ : L2.St} {vs : List Nat} : wipe (wipe σ vs) vs = wipe σ vs := wipe_eq (fun j hj => wipe_out hj) (wipe_length _ _)
section
variable {X : Cx}
theorem krep_get {K : PySem.W.Frag} {μ : List Addr} {H : Hp} : ∀ {kvs : List (Key × VM.D)} {ks : List (L2.Key × V)} {i : Nat} {kv : Key × VM.D}, KRep K μ H kvs ks → kvs[i]? = some kv → ∃ w, ks[i]? = some w ∧ w.1 = kS kv.1 ∧ Rep K μ H kv.2 w.2
  | _, _, _, _, .nil, h => by simp at h
  | _, _, 0, _, .cons h r, e => by simp at e; subst e; exact ⟨_, rfl, h.1, h.2⟩
  | _, _, i + 1, kv, .cons _ r, e => by
    obtain ⟨v, h1, h2⟩ := krep_get (i := i) (kv := kv) r (by simpa using e)
    exact ⟨v, by simpa using h1, h2⟩
theorem seqIt_list {K : PySem.W.Frag} {μ : List Addr} {H : Hp} {n : Nat} {a : Addr} (hn : μ[n]? = some a) : SeqIt K (.at_ n) (Itl K a) μ H := by
  intro μ' S' H' i c e
  have ha := e.at_ _ _ hn
  obtain ⟨o, h1, h2⟩ := c.obj' ha
  have main : ∀ (l : List D) (vs : List V), SqL K H' a vs → Reps K μ' H' l vs → (Seq.at_ n).item S' i = some l[i]? →
      (∀ d, (Seq.at_ n).item S' i = some (some d) → (Itl K a).go i H' ∧ ∀ x H2, (Itl K a).yld i H' x H2 → Ext K μ' H' μ' H2 ∧ Cor K μ' S' H2 ∧ Rep K μ' H2 d x) ∧ ((Seq.at_ n).item S' i = some none → (Itl K a).stop i H') := by
    intro l vs q r hi
    constructor
    · intro d hd
      rw [hi] at hd
      obtain ⟨v, hv, rv⟩ := r.get (Option.some.inj hd)
      refine ⟨⟨vs, v, q, hv⟩, ?_⟩
      rintro x H2 ⟨rfl, y⟩
      have := y vs q
      rw [hv] at this
      cases this
      exact ⟨.refl, c, rv⟩
    · intro hd
      rw [hi] at hd
      refine ⟨vs, q, ?_⟩
      have := List.getElem?_eq_none_iff.mp (Option.some.inj hd)
      rw [← r.length]
      exact this
  cases o with
  | lst l =>
    obtain ⟨vs, q, r⟩ := h2
    exact main l vs (SqL.of q) r (by show (match S'[n]? with | some (.lst l) => some l[i]? | some (.ro l) => some l[i]? | _ => none) = _; rw [h1])
  | ro l =>
    obtain ⟨vs, ob, q, r⟩ := h2
    exact main l vs (.inl (.inr ⟨ob, q⟩)) r (by show (match S'[n]? with | some (.lst l) => some l[i]? | some (.ro l) => some l[i]? | _ => none) = _; rw [h1])
  | dk kvs =>
    have z : (Seq.at_ n).item S' i = none := by show (match S'[n]? with | some (.lst l) => some l[i]? | some (.ro l) => some l[i]? | _ => none) = _; rw [h1]
    exact ⟨fun d hd => (by rw [z] at hd; cases hd), fun hd => (by rw [z] at hd; cases hd)⟩
  | fk kvs =>
    have z : (Seq.at_ n).item S' i = none := by show (match S'[n]? with | some (.lst l) => some l[i]? | some (.ro l) => some l[i]? | _ => none) = _; rw [h1]
    exact ⟨fun d hd => (by rw [z] at hd; cases hd), fun hd => (by rw [z] at hd; cases hd)⟩
  | ins q c fs =>
    have z : (Seq.at_ n).item S' i = none := by show (match S'[n]? with | some (.lst l) => some l[i]? | some (.ro l) => some l[i]? | _ => none) = _; rw [h1]
    exact ⟨fun d hd => (by rw [z] at hd; cases hd), fun hd => (by rw [z] at hd; cases hd)⟩
  | nd _ =>
    have z : (Seq.at_ n).item S' i = none := by show (match S'[n]? with | some (.lst l) => some l[i]? | some (.ro l) => some l[i]? | _ => none) = _; rw [h1]
    exact ⟨fun d hd => (by rw [z] at hd; cases hd), fun hd => (by rw [z] at hd; cases hd)⟩
  | nf _ =>
    have z : (Seq.at_ n).item S' i = none := by show (match S'[n]? with | some (.lst l) => some l[i]? | some (.ro l) => some l[i]? | _ => none) = _; rw [h1]
    exact ⟨fun d hd => (by rw [z] at hd; cases hd), fun hd => (by rw [z] at hd; cases hd)⟩
/-- the keys of a locked dict -/
theorem seqIt_keys {K : PySem.W.Frag} {μ : List Addr} {H : Hp} {a : Addr} {od : PySem.Obj} {kvs : List (Key × VM.D)} {ks : List (L2.Key × V)} (q : H a = some (.frz od (.dK ks))) (r : KRep K μ H kvs ks) : SeqIt K (.fix (kvs.map fun kv => kD kv.1)) (Itk a od ks) μ H := by
  intro μ' S' H' i c e
  have q' := e.exc _ _ _ q
  have r' := r.mon e
  constructor
  · intro d hd
    have hd : (kvs.map fun kv => kD kv.1)[i]? = some d := Option.some.inj hd
    rw [List.getElem?_map] at hd
    cases hk : kvs[i]? with
    | none => rw [hk] at hd; cases hd
    | some kv =>
      rw [hk] at hd
      cases hd
      obtain ⟨w, hw, h1, h2⟩ := krep_get r' hk
      refine ⟨⟨q', (List.getElem?_eq_some_iff.mp hw).1⟩, ?_⟩
      rintro x H2 ⟨rfl, k, v, y, rfl⟩
      rw [hw] at y
      cases y
      refine ⟨.refl, c, ?_⟩
      dsimp only at h1
      rw [h1]
      obtain ⟨kk, kd⟩ := kv
      cases kk with
      | inl i => exact .int i
      | inr s => exact .str s
  · intro hd
    have hd : (kvs.map fun kv => kD kv.1)[i]? = none := Option.some.inj hd
    refine ⟨q', ?_⟩
    have := List.getElem?_eq_none_iff.mp hd
    rw [List.length_map] at this
    rw [← KRep.length r']
    exact this
theorem seqIt_tup {K : PySem.W.Frag} {μ : List Addr} {H : Hp} {a : Addr} {l : List D} {vs : List V} (q : SqT K H a vs) (r : Reps K μ H l vs) : SeqIt K (.fix l) (Itt K a) μ H := by
  intro μ' S' H' i c e
  have q' := e.tup _ _ q
  have r' := r.mon e
  constructor
  · intro d hd
    obtain ⟨v, hv, rv⟩ := r'.get (Option.some.inj hd)
    refine ⟨⟨vs, v, q', hv⟩, ?_⟩
    rintro x H2 ⟨rfl, y⟩
    have := y vs q'
    rw [hv] at this
    cases this
    exact ⟨.refl, c, rv⟩
  · intro hd
    refine ⟨vs, q', ?_⟩
    have := List.getElem?_eq_none_iff.mp (Option.some.inj hd)
    rw [← r'.length]
    exact this
theorem seqIt_kl {K : PySem.W.Frag} {μ : List Addr} {H : Hp} {a : Addr} {l : List D} {vs : List V} (q : ∀ H', SqL K H' a vs) (r : Reps K μ H l vs) : SeqIt K (.fix l) (Itl K a) μ H := by
  intro μ' S' H' i c e
  have r' := r.mon e
  constructor
  · intro d hd
    obtain ⟨v, hv, rv⟩ := r'.get (Option.some.inj hd)
    refine ⟨⟨vs, v, q H', hv⟩, ?_⟩
    rintro x H2 ⟨rfl, y⟩
    have := y vs (q _)
    rw [hv] at this
    cases this
    exact ⟨.refl, c, rv⟩
  · intro hd
    refine ⟨vs, q H', ?_⟩
    have := List.getElem?_eq_none_iff.mp (Option.some.inj hd)
    rw [← r'.length]
    exact this
theorem seqIt_str {K : PySem.W.Frag} {μ : List Addr} {H : Hp} {z : List Nat} : SeqIt K (.fix (z.map fun c => .str [c])) (Its (st z)) μ H := by
  intro μ' S' H' i c e
  have sz : (st z).cps.size = z.length := by simp [st]
  constructor
  · intro d hd
    have hd : (z.map fun c => D.str [c])[i]? = some d := Option.some.inj hd
    rw [List.getElem?_map] at hd
    cases q : z[i]? with
    | none => rw [q] at hd; cases hd
    | some ch =>
      rw [q] at hd
      cases hd
      have hlt := (List.getElem?_eq_some_iff.mp q).1
      refine ⟨by show i < (st z).cps.size; rw [sz]; exact hlt, ?_⟩
      rintro x H2 ⟨rfl, c', hc', rfl⟩
      have : (st z).cps[i]? = some ch := by simp [st, q]
      rw [this] at hc'
      cases hc'
      exact ⟨.refl, c, .str [ch]⟩
  · intro hd
    have hd : (z.map fun c => D.str [c])[i]? = none := Option.some.inj hd
    have := List.getElem?_eq_none_iff.mp hd
    rw [List.length_map] at this
    show (st z).cps.size ≤ i
    rw [sz]
    exact this
theorem seqIt_rng {K : PySem.W.Frag} {μ : List Addr} {H : Hp} {lo : Int} {n : Nat} : SeqIt K (.rng lo n) (Itr lo n) μ H := by
  intro μ' S' H' i c e
  constructor
  · intro d hd
    have hd : (if i < n then some (D.int (lo + i)) else none) = some d := Option.some.inj hd
    by_cases hlt : i < n
    · rw [if_pos hlt] at hd
      cases hd
      refine ⟨hlt, ?_⟩
      rintro x H2 ⟨rfl, rfl⟩
      exact ⟨.refl, c, .int _⟩
    · rw [if_neg hlt] at hd
      cases hd
  · intro hd
    have hd : (if i < n then some (D.int (lo + i)) else none) = none := Option.some.inj hd
    by_cases hlt : i < n
    · rw [if_pos hlt] at hd
      cases hd
    · show n ≤ i
      omega
/-- anything that is walked by its value -/
theorem pi_val {tg l : Expr} {tl : TE} (hl : PE X l tl) : PI X tg l (fun σ H R => tl σ H fun x H1 => (∃ a, x = .ref a ∧ (∃ xs, SqL X.K H1 a xs) ∧ R (Itl X.K a) H1) ∨ (∃ a, x = .ref a ∧ (∃ xs, SqT X.K H1 a xs) ∧ R (Itt X.K a) H1) ∨ ∃ z, x = .str z ∧ R (Its z) H1) := by
  refine ⟨fun pins s σ H R I h => thn (hl.run pins s σ H _ I h) fun v s1 ⟨x, H1, I1, r1, q1⟩ => ?_⟩
  rcases q1 with ⟨a, rfl, ⟨xs, hq⟩, q⟩ | ⟨a, rfl, ⟨xs, hq⟩, q⟩ | ⟨z, rfl, q⟩
  · cases r1
    obtain ⟨its, rv, p, hz⟩ := I1.list hq
    exact wpAny_pyIter_list p.isList (pi_one (tk := s1.toks) I1 _ (turn_list a _) ⟨_, Heap.get?_push_size _ rfl, rfl, rfl⟩ q)
  · cases r1
    obtain ⟨its, rv, p, hz⟩ := I1.tuple hq
    exact wpAny_pyIter_tuple (show s1.heap.IsTuple a its.toArray from p) (pi_one (tk := s1.toks) I1 _ (turn_tuple a _) ⟨_, Heap.get?_push_size _ rfl, rfl, rfl⟩ q)
  · obtain ⟨t, rfl⟩ := r1
    cases ha : z.cps.all (· < 128)
    · exact wpAny_pyIter_wide ha (pi_one (tk := s1.toks) I1 _ (turn_str _ z t "str_iterator" (.inr rfl)) ⟨_, Heap.get?_push_size _ rfl, rfl, rfl⟩ q)
    · exact wpAny_pyIter_ascii ha (pi_one (tk := s1.toks) I1 _ (turn_str _ z t "str_ascii_iterator" (.inl rfl)) ⟨_, Heap.get?_push_size _ rfl, rfl, rfl⟩ q)
end
end VM
set_option maxHeartbeats 2000000
namespace VM
open PySem L2 PySem.Spec PyProof.Rows
def NoX {α : Type} (m : M α) : Prop := ∀ S c S', m S ≠ .exc c S'
theorem nox_ret {α : Type} (a : α) : NoX (ret a) := fun _ _ _ h => by cases h
theorem nox_bad {α : Type} : NoX (bad : M α) := fun _ _ _ h => by cases h
theorem nox_bnd {α β : Type} {m : M α} {f : α → M β} (h : NoX m) (g : ∀ a, NoX (f a)) : NoX (bnd m f) := fun S c S' e => by
  unfold bnd at e
  cases q : m S with
  | ok a S1 => rw [q] at e; exact g a S1 c S' e
  | exc d S1 => exact h S d S1 q
  | bad => rw [q] at e; cases e
theorem nox_lft {α : Type} (o : Option α) : NoX (lft o) := by cases o <;> first | exact nox_bad | exact nox_ret _
theorem nox_new (o : Obj) : NoX (new o) := fun _ _ _ h => by cases h
theorem nox_put (n : Nat) (o : Obj) : NoX (put n o) := fun _ _ _ h => by cases h
theorem nox_rd (n : Nat) : NoX (rd n) := fun S c S' h => by
  unfold rd at h
  split at h <;> cases h
theorem nox_lstOf (n : Nat) : NoX (lstOf n) := fun S c S' h => by
  unfold lstOf at h
  split at h <;> cases h
theorem nox_mutOf (n : Nat) : NoX (mutOf n) := fun S c S' h => by
  unfold mutOf at h
  split at h <;> cases h
theorem nox_two (x y : D) : NoX (two x y) := fun S c S' h => by
  unfold two at h
  repeat' (first | (cases h; done) | split at h)
theorem nox_opB (o : BOp) (x y : D) : NoX (opB o x y) := by
  unfold opB
  split <;> first
    | exact nox_ret _
    | exact nox_bad
    | (split <;> first | exact nox_ret _ | exact nox_bad)
    | (split <;> first | exact nox_bad | (split <;> first | exact nox_ret _ | exact nox_bad))
    | (refine nox_bnd (nox_mutOf _) fun l => nox_bnd (nox_mutOf _) fun m => ?_
       split <;> first | exact nox_new _ | exact nox_bad)
theorem nox_opIn (x y : D) : NoX (opIn x y) := by
  cases y with
  | str s => cases x <;> first | exact nox_lft _ | exact nox_bad
  | tup l =>
    intro S c S' h
    unfold opIn at h
    dsimp only at h
    repeat' (first | (cases h; done) | split at h)
  | ref n =>
    intro S c S' h
    unfold opIn at h
    dsimp only at h
    repeat' (first | (cases h; done) | split at h)
  | _ => exact nox_bad
theorem nox_opC (o : COp) (x y : D) : NoX (opC o x y) := by
  unfold opC
  split
  · exact nox_bnd (nox_two _ _) fun _ => nox_ret _
  · exact nox_bnd (nox_two _ _) fun _ => nox_ret _
  · split <;> first | exact nox_ret _ | exact nox_bad
  · split <;> first | exact nox_ret _ | exact nox_bad
  · split <;> first | exact nox_ret _ | exact nox_bad
  · split <;> first | exact nox_ret _ | exact nox_bad
  · exact nox_bnd (nox_opIn _ _) fun _ => nox_ret _
  · exact nox_bnd (nox_opIn _ _) fun _ => nox_ret _
  · split <;> first | exact nox_ret _ | exact nox_bad
  · exact nox_bnd (nox_lft _) fun _ => nox_ret _
  · exact nox_bnd (nox_lft _) fun _ => nox_ret _
theorem nox_opIx (x y : D) : NoX (opIx x y) := by
  unfold opIx
  split
  · split <;> first | exact nox_lft _ | exact nox_bad
  · split <;> first | exact nox_lft _ | exact nox_bad
  · split
    · split <;> first | exact nox_lft _ | exact nox_bad
    · exact nox_bad
  · refine nox_bnd (nox_rd _) fun o => ?_
    split
    · split <;> first | exact nox_lft _ | exact nox_bad
    · split <;> first | exact nox_lft _ | exact nox_bad
    · exact nox_lft _
    · exact nox_lft _
    · exact nox_bad
    · exact nox_lft _
    · exact nox_bad
  · exact nox_bad
theorem nox_opSl (x : D) (lo hi : Option Int) : NoX (opSl x lo hi) := by
  unfold opSl
  split
  · exact nox_ret _
  · split <;> first | exact nox_ret _ | exact nox_bad
  · exact nox_bnd (nox_lstOf _) fun _ => nox_new _
  · exact nox_bad
theorem nox_opSet (o i v : D) : NoX (opSet o i v) := by
  unfold opSet
  split
  · refine nox_bnd (nox_rd _) fun o => ?_
    split
    · split
      · exact nox_bnd (nox_lft _) fun _ => nox_put _ _
      · exact nox_bad
    · split
      · refine nox_bnd (nox_lft _) fun _ => ?_
        split <;> first | exact nox_put _ _ | exact nox_bad
      · refine nox_bnd (nox_lft _) fun _ => ?_
        split <;> first | exact nox_put _ _ | exact nox_bad
    · exact nox_bad
    · exact nox_bad
    · exact nox_bad
    · refine nox_bnd (nox_lft _) fun _ => nox_bnd (nox_lft _) fun _ => ?_
      split <;> first | exact nox_put _ _ | exact nox_bad
    · exact nox_bad
  · exact nox_bad
theorem nox_ite {α : Type} {p : Prop} [Decidable p] {m : M α} (h : NoX m) : NoX (if p then m else bad) := by
  by_cases q : p
  · rw [if_pos q]; exact h
  · rw [if_neg q]; exact nox_bad
theorem nox_bif (b : Bif) (vs : List D) : NoX (bifR b vs) := by
  match vs with
  | [] => cases b <;> exact nox_bad
  | d :: _ :: _ => cases b <;> cases d <;> exact nox_bad
  | [d] =>
    cases b with
    | len =>
      cases d with
      | str s => exact nox_ite (nox_ret _)
      | tup l => exact nox_ret _
      | kl l => exact nox_ret _
      | ref n => exact nox_bnd (nox_rd n) fun o => by cases o <;> first | exact nox_ret _ | exact nox_bad
      | _ => exact nox_bad
    | abs => cases d <;> first | exact nox_ret _ | exact nox_bad
    | int => cases d <;> first | exact nox_ret _ | exact nox_bad | exact nox_ite (nox_bnd (nox_lft _) fun _ => nox_ret _)
    | str => cases d <;> first | exact nox_ite (nox_ret _) | exact nox_ret _ | exact nox_bad
    | repr =>
      intro S c S' h
      have h : (match deepR S dpt d with
        | some p => if showB p then Out.ok (D.str p.shown.cps.toList) S else .bad
        | none => .bad) = .exc c S' := h
      cases q : deepR S dpt d with
      | none => rw [q] at h; cases h
      | some p =>
        rw [q] at h
        dsimp only at h
        by_cases hb : showB p = true
        · rw [if_pos hb] at h; cases h
        · rw [if_neg hb] at h; cases h
    | tuple =>
      cases d with
      | tup l => exact nox_ret _
      | ref n => exact nox_bnd (nox_lstOf n) fun _ => nox_ret _
      | _ => exact nox_bad
    | list =>
      cases d with
      | tup l => exact nox_new _
      | ref n => exact nox_bnd (nox_lstOf n) fun _ => nox_new _
      | _ => exact nox_bad
    | all =>
      cases d with
      | ref n => exact nox_bnd (nox_lstOf n) fun _ => nox_bnd (nox_lft _) fun _ => nox_ret _
      | _ => exact nox_bad
    | any =>
      cases d with
      | ref n => exact nox_bnd (nox_lstOf n) fun _ => nox_bnd (nox_lft _) fun _ => nox_ret _
      | _ => exact nox_bad
    | dict =>
      cases d with
      | ref n => exact nox_bnd (nox_lstOf n) fun _ => nox_bnd (nox_lft _) fun _ => nox_new _
      | _ => exact nox_bad
theorem nox_seqM (y : D) : NoX (seqM y) := by
  cases y <;> first | exact nox_ret _ | exact nox_mutOf _ | exact nox_bad
theorem nox_mth (m : Mth) (x : D) (vs : List D) : NoX (mthR m x vs) := by
  cases x with
  | ref n =>
    cases m with
    | append =>
      match vs with
      | [] => exact nox_bad
      | [y] =>
        refine nox_bnd (nox_mutOf n) fun l => ?_
        by_cases h : l.length < big
        · rw [if_pos h]
          exact nox_bnd (nox_put _ _) fun _ => nox_ret _
        · rw [if_neg h]
          exact nox_bad
      | _ :: _ :: _ => exact nox_bad
    | clear =>
      match vs with
      | [] => exact nox_bnd (nox_mutOf n) fun l => nox_bnd (nox_put _ _) fun _ => nox_ret _
      | _ :: _ => exact nox_bad
    | pop =>
      match vs with
      | [] => exact nox_bnd (nox_mutOf n) fun l => nox_bnd (nox_lft _) fun _ => nox_bnd (nox_put _ _) fun _ => nox_ret _
      | _ :: _ => exact nox_bad
    | extend =>
      match vs with
      | [] => exact nox_bad
      | [y] => exact nox_bnd (nox_mutOf n) fun l => nox_bnd (nox_seqM y) fun m => nox_ite (nox_bnd (nox_put _ _) fun _ => nox_ret _)
      | _ :: _ :: _ => exact nox_bad
  | _ => cases m <;> exact nox_bad
section
variable {K : PySem.W.Frag} {μ : List Addr} {H : Hp} {S : Store} {α : Type} {R : α → Store → List Addr → Hp → Prop} {Wx Wx' : Nat → Hp → Prop}
theorem Pst.nox {m : M α} (n : NoX m) (h : Pst K μ H (m S) R Wx) : Pst K μ H (m S) R Wx' := by
  cases q : m S with
  | ok a S' => rw [q] at h; exact h
  | exc c S' => exact absurd q (n S c S')
  | bad => rw [q] at h; exact h.elim
theorem bnd_ret {m : M α} : bnd m ret = m := by
  funext S
  unfold bnd
  cases m S <;> rfl
/-- the same, its end and its raise kept -/
theorem Pst.then {β : Type} {m : M α} {f : α → M β} {R : β → Store → List Addr → Hp → Prop} {R' : α → Store → List Addr → Hp → Prop} (h : Pst K μ H (VM.bnd m f S) R Wx)
    (g : ∀ a S' μ' H', Cor K μ' S' H' → Ext K μ H μ' H' → Pst K μ' H' (f a S') R Wx → R' a S' μ' H') : Pst K μ H (m S) R' Wx := (Pst.bnd h).imp g fun _ _ z => z
end
section
variable {X : Cx}
theorem starB_se {e : Expr} {es : List Expr} {env : PySem.Env} (h : starB e = false) : starEach (e :: es) env = (false, eval e env) :: starEach es env := by cases e <;> first | rfl | cases h
theorem plainIx {b : Expr} (h : sliceB b = false) : PlainIx b := by cases b <;> first | (exact fun _ _ => rfl) | cases h
theorem marks_set {op : CmpOp} {b : Expr} (h : setB b = false) : behindInMarks op b = false := by cases b <;> first | rfl | cases h
theorem notsuper {o : Expr} {a : PySem.Str} {env : PySem.Env} (h : call0B o = false) : attributeBase o a env (eval o env) = eval o env := by
  cases o with
  | Call f as ks p =>
    cases f with
    | Name x q =>
      cases as with
      | nil =>
        cases ks with
        | nil => cases h
        | cons _ _ => rfl
      | cons _ _ => rfl
    | _ => rfl
  | _ => rfl
theorem stars_none {env : PySem.Env} {pos : Pos} : ∀ {es : List Expr}, es.all (fun e => !starB e) = true → (backTo pos (starEach es env)).any (·.1) = false
  | [], _ => rfl
  | e :: es, h => by
    rw [List.all_cons, Bool.and_eq_true, Bool.not_eq_true'] at h
    rw [starB_se h.1]
    show (false || (backTo pos (starEach es env)).any (·.1)) = false
    rw [stars_none h.2]
    rfl
theorem stars_all {env : PySem.Env} {pos : Pos} : ∀ {es : List Expr}, es.all (fun e => !starB e) = true → (backTo pos (starEach es env)).all (fun x => !x.1) = true
  | [], _ => rfl
  | e :: es, h => by
    rw [List.all_cons, Bool.and_eq_true, Bool.not_eq_true'] at h
    rw [starB_se h.1]
    show (!false && (backTo pos (starEach es env)).all (fun x => !x.1)) = true
    rw [stars_all h.2]
    rfl
theorem oddB_true {e : Expr} (h : oddB e = false) (env : PySem.Env) : ∀ whole, isTrue e env whole = (do let v ← whole; standAt e.pos; holding [v] (truthy v)) := by
  cases e with
  | UnaryOp op a p => cases op <;> first | (exact fun _ => rfl) | cases h
  | _ => first | (exact fun _ => rfl) | cases h
theorem pt_of {T : Tab} {W : WX} {C : Ctl} {e : Expr} {e' : Exp} (he : oddB e = false) (p : PE X e (tE X.K T W C e')) : PT X e (tT X.K T W C e') := by
  refine PT.imp (pt_truth p (oddB_true he _)) ?_
  rintro σ H Q ⟨μ, S, ρ, c, er, h⟩
  refine ⟨μ, S, ρ, c, er, Pst.then h fun d S' μ' H' c' e' h' v r => ?_⟩
  rw [← bnd_ret (m := truth d)] at h'
  obtain ⟨k, hk, h'⟩ := truth_V c' r h'
  exact ⟨k, hk, Pst.now c' h'⟩
end
end VM
namespace VM
open PySem L2 PySem.Spec PyProof.Rows
def WF : WX := fun _ _ _ _ => False
theorem ok_bnd {α β : Type} {m : M α} {f : α → M β} {S S' : Store} {b : β} (h : bnd m f S = .ok b S') : ∃ a S1, m S = .ok a S1 ∧ f a S1 = .ok b S' := by
  unfold bnd at h
  cases q : m S with
  | ok a S1 => rw [q] at h; exact ⟨a, S1, rfl, h⟩
  | exc c S1 => rw [q] at h; cases h
  | bad => rw [q] at h; cases h
theorem ok_lft {α : Type} {o : Option α} {S S' : Store} {a : α} (h : lft o S = .ok a S') : o = some a ∧ S' = S := by
  cases o with
  | none => cases h
  | some b => cases h; exact ⟨rfl, rfl⟩
theorem ok_ite {α : Type} {b : Prop} [Decidable b] {m : M α} {S S' : Store} {a : α} (h : (if b then m else bad) S = .ok a S') : b ∧ m S = .ok a S' := by
  by_cases q : b
  · rw [if_pos q] at h; exact ⟨q, h⟩
  · rw [if_neg q] at h; cases h
section
variable {K : PySem.W.Frag} {μ : List Addr} {H : Hp} {S : Store} {α β γ : Type} {R : γ → Store → List Addr → Hp → Prop} {Wx : Nat → Hp → Prop}
theorem pst_noExc {m : M α} {k : α → M γ} (h : Pst K μ H (bnd (noExc m) k S) R Wx) : ∃ a S', m S = .ok a S' ∧ Pst K μ H (k a S') R Wx := by
  unfold bnd noExc at h
  cases q : m S with
  | ok a S' => rw [q] at h; exact ⟨a, S', rfl, h⟩
  | exc c S' => rw [q] at h; exact h.elim
  | bad => rw [q] at h; exact h.elim
theorem Pst.of_ok {a : γ} {S' : Store} {m : M γ} (e : m S = .ok a S') (h : ∀ μ' H', Cor K μ' S' H' → Ext K μ H μ' H' → R a S' μ' H') : Pst K μ H (m S) R Wx := by
  rw [e]
  exact h
end
/-- the store's own walk, one step -/
theorem cmpI_ok {β : Type} {q : Seq} {step : D → β → M β} {f i : Nat} {acc l : β} {S S' : Store} (h : cmpI q step f i acc S = .ok l S') :
    ∃ f', f = f' + 1 ∧ ((q.item S i = some none ∧ l = acc ∧ S' = S) ∨ ∃ d acc' S1, q.item S i = some (some d) ∧ step d acc S = .ok acc' S1 ∧ cmpI q step f' (i + 1) acc' S1 = .ok l S') := by
  cases f with
  | zero => cases h
  | succ f' =>
    refine ⟨f', rfl, ?_⟩
    have h : (match q.item S i with
      | none => Out.bad
      | some none => Out.ok acc S
      | some (some d) => bnd (step d acc) (fun acc' => cmpI q step f' (i + 1) acc') S) = Out.ok l S' := h
    cases hi : q.item S i with
    | none => rw [hi] at h; cases h
    | some o =>
      cases o with
      | none => rw [hi] at h; cases h; exact .inl ⟨rfl, rfl, rfl⟩
      | some d =>
        rw [hi] at h
        obtain ⟨acc', S1, h1, h2⟩ := ok_bnd h
        exact .inr ⟨d, acc', S1, rfl, h1, h2⟩
section
variable {K : PySem.W.Frag} {T : Tab} {W : WX} {C : Ctl}
/-- the invariant of a comprehension's walk over a new list at D, seen from where it began (μ1, H1) -/
structure CW (K : PySem.W.Frag) (q : Seq) (step : D → List D → M (List D)) (l : List D) (Sl : Store) (μ1 : List Addr) (H1 : Hp) (Dl : Addr) (i f : Nat) (H' : Hp) : Prop where
  ex : ∃ μ' S' acc vs, Cor K μ' S' H' ∧ Ext K μ1 H1 μ' H' ∧ Dl ∉ μ' ∧ H' Dl = some (.lst vs) ∧ Reps K μ' H' acc vs ∧ cmpI q step f i acc S' = .ok l Sl
theorem read_lc {own : List Nat} {tg : Tg} {src : Src} {ifs : Exps} {elt : Exp} {σ : L2.St} {H : Hp} {Q : VK} (hsub : ∀ i ∈ tgs tg, i ∈ own) (h : tE K T W C (.lc own tg src ifs elt) σ H Q) :
    tLc (tSr K T W C src) (tG K tg) (tI K T WF C ifs) (tE K T WF C elt) own σ H Q := by
  obtain ⟨μ, S, ρ, c, er, h⟩ := h
  refine ⟨μ, S, ρ, c, er, Pst.then h fun q S1 μ1 H1 c1 e1 h1 J hJ Dl hD => ?_⟩
  obtain ⟨l, Sl, hl, h1⟩ := pst_noExc (m := cmpI q _ (q.size S1 + 1) 0 []) h1
  have hmD : Dl ∉ μ1 := c1.out hD
  refine ⟨fun i m H' => CW K q _ l Sl μ1 H1 Dl i m H', ⟨q.size S1 + 1, ⟨μ1, S1, [], [], (c1.side hD).2, (c1.side hD).1, hmD, upd_same, .nil, hl⟩⟩, ?_⟩
  rintro i m H' ⟨μ', S', acc, vs, c', e', hm', hH', r', hc⟩
  obtain ⟨f', rfl, ⟨hi, rfl, rfl⟩ | ⟨d, acc', S2, hi, hst, hc'⟩⟩ := cmpI_ok hc
  · refine .inl ⟨(hJ μ' _ H' i c' e'.mon).2 hi, ?_⟩
    have c2 := c'.adopt (o := .lst l) hm' fun μ2 mo => ⟨vs, hH', r'.mon mo⟩
    exact h1 _ _ c2 (e'.adopt hD) _ c'.adopt_ref
  · obtain ⟨go, yl⟩ := (hJ μ' _ H' i c' e'.mon).1 d hi
    refine .inr ⟨go, fun H2 => CW K q _ l Sl μ1 H1 Dl (i + 1) f' H2, fun H2 w => ⟨f', Nat.lt_succ_self _, w⟩, fun x H2 y => ?_⟩
    obtain ⟨e2, c2, rd⟩ := yl x H2 y
    obtain ⟨ρ', S3, hb, hst⟩ := ok_bnd hst
    obtain ⟨hb, e3⟩ := ok_lft hb
    rw [e3] at hst
    obtain ⟨k, S4, hk, hst⟩ := ok_bnd hst
    have er2 : EnvR K μ' H2 (wip ρ own) (wipe σ own) := (((er.ext e1).ext e').ext e2).wip own
    refine ⟨μ', wip ρ own, d, ρ', er2, rd, hb, fun σ2 er3 fr hlen => ⟨?_, ?_⟩⟩
    · exact (wipe_eq (fun j hj => fr j fun z => hj (hsub j z)) hlen).trans wipe_wipe
    · refine ⟨μ', S', ρ', c2, er3, Pst.of_ok hk fun μ4 H4 c4 e4 => ?_⟩
      have hD4 : H4 Dl = some (.lst vs) := e4.fr _ _ hm' (e2.fr _ _ hm' hH')
      have hm4 : Dl ∉ μ4 := e4.out (e2.fr _ _ hm' hH') hm'
      have e14 : Ext K μ1 H1 μ4 H4 := (e'.trans e2).trans e4
      cases k with
      | false =>
        cases hst
        show CW K q _ l Sl μ1 H1 Dl (i + 1) f' H4
        exact ⟨μ4, _, _, vs, c4, e14, hm4, hD4, (r'.ext e2).ext e4, hc'⟩
      | true =>
        obtain ⟨y, S5, hy, hst⟩ := ok_bnd hst
        obtain ⟨hz, hst⟩ := ok_ite hst
        cases hst
        refine ⟨μ4, S4, ρ', c4, er3.ext e4, Pst.of_ok hy fun μ5 H5 c5 e5 v rv => ?_⟩
        have hD5 : H5 Dl = some (.lst vs) := e5.fr _ _ hm4 hD4
        have hm5 : Dl ∉ μ5 := e5.out hD4 hm4
        have r5 : Reps K μ5 H5 acc vs := ((r'.ext e2).ext e4).ext e5
        refine ⟨vs, hD5, by rw [← r5.length, ← big_eq]; exact hz, ?_⟩
        obtain ⟨c6, mo⟩ := c5.over (u := .lst (vs ++ [v])) hm5 (fun o u z => by rw [hD5] at z; cases z) fun xs z => by
          rcases z with z | ⟨o, z⟩
          · rw [hD5] at z; cases z
          · rw [hD5] at z; cases z
        exact ⟨μ5, _, _, vs ++ [v], c6, (e14.trans e5).over hD, hm5, upd_same, (r5.append (.cons rv .nil)).mon mo, hc'⟩
/-- of a second clause's walk: what its source leans on is known from (μ5, H5) -/
structure CW2 (K : PySem.W.Frag) (q : Seq) (step : D → List D → M (List D)) (l : List D) (Sl : Store) (μ1 : List Addr) (H1 : Hp) (μ5 : List Addr) (H5 : Hp) (Dl : Addr) (i f : Nat) (H' : Hp) : Prop where
  ex : ∃ μ' S' acc vs, Cor K μ' S' H' ∧ Ext K μ1 H1 μ' H' ∧ Mon (K := K) μ5 H5 μ' H' ∧ Dl ∉ μ' ∧ H' Dl = some (.lst vs) ∧ Reps K μ' H' acc vs ∧ cmpI q step f i acc S' = .ok l Sl
theorem read_lc2 {own own1 : List Nat} {tg tg1 : Tg} {src src1 : Src} {ifs ifs1 : Exps} {elt : Exp} {σ : L2.St} {H : Hp} {Q : VK} (hsub : ∀ i ∈ tgs tg, i ∈ own) (hsub1 : ∀ i ∈ tgs tg1, i ∈ own1)
    (h : tE K T W C (.lc2 own own1 tg src ifs tg1 src1 ifs1 elt) σ H Q) :
    tLc2 (tSr K T W C src) (tG K tg) (tI K T WF C ifs) (tSr K T WF C src1) (tG K tg1) (tI K T WF C ifs1) (tE K T WF C elt) own own1 σ H Q := by
  obtain ⟨μ, S, ρ, c, er, h⟩ := h
  refine ⟨μ, S, ρ, c, er, Pst.then h fun q S1 μ1 H1 c1 e1 h1 J hJ Dl hD => ?_⟩
  obtain ⟨l, Sl, hl, h1⟩ := pst_noExc (m := cmpI q _ (q.size S1 + 1) 0 []) h1
  have hmD : Dl ∉ μ1 := c1.out hD
  refine ⟨fun i m H' => CW K q _ l Sl μ1 H1 Dl i m H', ⟨q.size S1 + 1, ⟨μ1, S1, [], [], (c1.side hD).2, (c1.side hD).1, hmD, upd_same, .nil, hl⟩⟩, ?_⟩
  rintro i m H' ⟨μ', S', acc, vs, c', e', hm', hH', r', hc⟩
  obtain ⟨f', rfl, ⟨hi, rfl, rfl⟩ | ⟨d, acc', S2, hi, hst, hc'⟩⟩ := cmpI_ok hc
  · refine .inl ⟨(hJ μ' _ H' i c' e'.mon).2 hi, ?_⟩
    have c2 := c'.adopt (o := .lst l) hm' fun μ2 mo => ⟨vs, hH', r'.mon mo⟩
    exact h1 _ _ c2 (e'.adopt hD) _ c'.adopt_ref
  · obtain ⟨go, yl⟩ := (hJ μ' _ H' i c' e'.mon).1 d hi
    refine .inr ⟨go, fun H2 => CW K q _ l Sl μ1 H1 Dl (i + 1) f' H2, fun H2 w => ⟨f', Nat.lt_succ_self _, w⟩, fun x H2 y => ?_⟩
    obtain ⟨e2, c2, rd⟩ := yl x H2 y
    obtain ⟨ρ', S3, hb, hst⟩ := ok_bnd hst
    obtain ⟨hb, e3⟩ := ok_lft hb
    rw [e3] at hst
    obtain ⟨k, S4, hk, hst⟩ := ok_bnd hst
    have er2 : EnvR K μ' H2 (wip ρ own) (wipe σ own) := (((er.ext e1).ext e').ext e2).wip own
    refine ⟨μ', wip ρ own, d, ρ', er2, rd, hb, fun σ2 er3 fr hlen => ⟨?_, ?_⟩⟩
    · exact (wipe_eq (fun j hj => fr j fun z => hj (hsub j z)) hlen).trans wipe_wipe
    · refine ⟨μ', S', ρ', c2, er3, Pst.of_ok hk fun μ4 H4 c4 e4 => ?_⟩
      have hD4 : H4 Dl = some (.lst vs) := e4.fr _ _ hm' (e2.fr _ _ hm' hH')
      have hm4 : Dl ∉ μ4 := e4.out (e2.fr _ _ hm' hH') hm'
      have e14 : Ext K μ1 H1 μ4 H4 := (e'.trans e2).trans e4
      cases k with
      | false =>
        cases hst
        show CW K q _ l Sl μ1 H1 Dl (i + 1) f' H4
        exact ⟨μ4, _, _, vs, c4, e14, hm4, hD4, (r'.ext e2).ext e4, hc'⟩
      | true =>
        -- the second walk
        obtain ⟨q1, S5, hq1, hst⟩ := ok_bnd hst
        obtain ⟨n1, S5', hn1, hst⟩ := ok_bnd hst
        cases hn1
        refine ⟨μ4, S4, ρ', c4, er3.ext e4, Pst.of_ok hq1 fun μ5 H5 c5 e5 J1 hJ1 => ?_⟩
        have hD5 : H5 Dl = some (.lst vs) := e5.fr _ _ hm4 hD4
        have hm5 : Dl ∉ μ5 := e5.out hD4 hm4
        have e15 := e14.trans e5
        have er5 : EnvR K μ5 H5 ρ' σ2 := (er3.ext e4).ext e5
        refine ⟨fun j m1 H6 => CW2 K q1 _ acc' S2 μ1 H1 μ5 H5 Dl j m1 H6, ⟨_, ⟨μ5, S5, acc, vs, c5, e15, .refl, hm5, hD5, ((r'.ext e2).ext e4).ext e5, hst⟩⟩, ?_⟩
        rintro j m1 H6 ⟨μ6, S6, acc6, vs6, c6, e16, mo6, hm6, hD6, r6, hc6⟩
        obtain ⟨f1, rfl, ⟨hj, rfl, rfl⟩ | ⟨d1, acc7, S7, hj, hst1, hc7⟩⟩ := cmpI_ok hc6
        · exact .inl ⟨(hJ1 μ6 _ H6 j c6 mo6).2 hj, ⟨μ6, _, _, vs6, c6, e16, hm6, hD6, r6, hc'⟩⟩
        · obtain ⟨go1, yl1⟩ := (hJ1 μ6 _ H6 j c6 mo6).1 d1 hj
          refine .inr ⟨go1, fun H7 => CW2 K q1 _ acc' S2 μ1 H1 μ5 H5 Dl (j + 1) f1 H7, fun H7 w => ⟨f1, Nat.lt_succ_self _, w⟩, fun x1 H7 y1 => ?_⟩
          obtain ⟨e7, c7, rd1⟩ := yl1 x1 H7 y1
          obtain ⟨ρ1, S8, hb1, hst1⟩ := ok_bnd hst1
          obtain ⟨hb1, e8⟩ := ok_lft hb1
          rw [e8] at hst1
          obtain ⟨k1, S9, hk1, hst1⟩ := ok_bnd hst1
          have er7 : EnvR K μ6 H7 (wip ρ' own1) (wipe σ2 own1) := ((er5.mon mo6).ext e7).wip own1
          refine ⟨μ6, wip ρ' own1, d1, ρ1, er7, rd1, hb1, fun σ3 er8 fr1 hlen1 => ⟨?_, ?_⟩⟩
          · exact (wipe_eq (fun j hj => fr1 j fun z => hj (hsub1 j z)) hlen1).trans wipe_wipe
          · refine ⟨μ6, S6, ρ1, c7, er8, Pst.of_ok hk1 fun μ9 H9 c9 e9 => ?_⟩
            have hD7 : H7 Dl = some (.lst vs6) := e7.fr _ _ hm6 hD6
            have hD9 : H9 Dl = some (.lst vs6) := e9.fr _ _ hm6 hD7
            have hm9 : Dl ∉ μ9 := e9.out hD7 hm6
            have e19 : Ext K μ1 H1 μ9 H9 := (e16.trans e7).trans e9
            have mo9 : Mon (K := K) μ5 H5 μ9 H9 := (mo6.trans e7.mon).trans e9.mon
            cases k1 with
            | false =>
              cases hst1
              exact ⟨μ9, _, _, vs6, c9, e19, mo9, hm9, hD9, (r6.ext e7).ext e9, hc7⟩
            | true =>
              obtain ⟨y, S10, hy, hst1⟩ := ok_bnd hst1
              obtain ⟨hz, hst1⟩ := ok_ite hst1
              cases hst1
              refine ⟨μ9, S9, ρ1, c9, er8.ext e9, Pst.of_ok hy fun μ10 H10 c10 e10 v rv => ?_⟩
              have hD10 : H10 Dl = some (.lst vs6) := e10.fr _ _ hm9 hD9
              have hm10 : Dl ∉ μ10 := e10.out hD9 hm9
              have r10 : Reps K μ10 H10 acc6 vs6 := ((r6.ext e7).ext e9).ext e10
              refine ⟨vs6, hD10, by rw [← r10.length, ← big_eq]; exact hz, ?_⟩
              obtain ⟨c11, mo⟩ := c10.over (u := .lst (vs6 ++ [v])) hm10 (fun o u z => by rw [hD10] at z; cases z) fun xs z => by
                rcases z with z | ⟨o, z⟩
                · rw [hD10] at z; cases z
                · rw [hD10] at z; cases z
              exact ⟨μ10, _, _, vs6 ++ [v], c11, (e19.trans e10).over hD, (mo9.trans e10.mon).trans mo, hm10, upd_same, (r10.append (.cons rv .nil)).mon mo, hc7⟩
end
end VM
set_option maxHeartbeats 4000000
namespace VM
open PySem L2 PySem.Spec PyProof.Rows
theorem pr_perm {α β : Type} {R : α → β → Prop} {l l' : List α} (p : l'.Perm l) : ∀ {ks : List β}, Paired R l ks → ∃ ks', ks'.Perm ks ∧ Paired R l' ks' := by
  induction p with
  | nil => intro ks h; exact ⟨ks, .refl _, h⟩
  | cons x _ ih =>
    intro ks h
    cases h with
    | cons h t =>
      obtain ⟨ks', p', h'⟩ := ih t
      exact ⟨_ :: ks', p'.cons _, .cons h h'⟩
  | swap x y l =>
    intro ks h
    cases h with
    | cons h1 t => cases t with
      | cons h2 t => exact ⟨_, .swap _ _ _, .cons h2 (.cons h1 t)⟩
  | trans _ _ ih1 ih2 =>
    intro ks h
    obtain ⟨k1, p1, h1⟩ := ih2 h
    obtain ⟨k2, p2, h2⟩ := ih1 h1
    exact ⟨k2, p2.trans p1, h2⟩
theorem pr_mem {α β : Type} {R : α → β → Prop} {l : List α} {ks : List β} (h : Paired R l ks) : (∀ a ∈ l, ∃ b ∈ ks, R a b) ∧ ∀ b ∈ ks, ∃ a ∈ l, R a b := by
  induction h with
  | nil => exact ⟨fun a h => (by cases h), fun a h => (by cases h)⟩
  | cons r _ ih =>
    refine ⟨fun a ha => ?_, fun b hb => ?_⟩
    · rcases List.mem_cons.mp ha with rfl | ha
      · exact ⟨_, .head _, r⟩
      · obtain ⟨b, h1, h2⟩ := ih.1 a ha
        exact ⟨b, .tail _ h1, h2⟩
    · rcases List.mem_cons.mp hb with rfl | hb
      · exact ⟨_, .head _, r⟩
      · obtain ⟨a, h1, h2⟩ := ih.2 b hb
        exact ⟨a, .tail _ h1, h2⟩
/-- an entry of a set's table, and its key -/
structure Ent (P : Program) (w : World) (e : Int × Value) (k : L2.Key) : Prop where
  is : (mixKind P w).is k e.2 = true
  hs : e.1 = (mixKind P w).hash k
  sc : e.2.scannable = true
/-- the entries of a table of these keys, that may be walked -/
structure Gd (P : Program) (w : World) (ks : List L2.Key) (es : Array (Int × Value)) (t : SetTable) : Prop where
  en : Paired (Ent P w) es.toList ks
  nd : ks.Nodup
  sz : es.size < scanBound
  ft : t.fits es.size = true
  ri : Ris t.place.toList
  ld : w.params.followText "set-order" = true ∨ t.led = true
def Told (P : Program) (w : World) (h : Heap) (c : Addr) (ks : List L2.Key) : Prop := ∃ ob es ep t, h.get? c = some ob ∧ ob.ExactSet ∧ ob.data = .set es ep t ∧ Gd P w ks es t
section
variable {P : Program} {w : World} {ks : List L2.Key} {es : Array (Int × Value)} {t : SetTable}
theorem Gd.elems (G : Gd P w ks es t) : ElemsOf (mixKind P w) es.toList := fun e he => by
  obtain ⟨k, _, r⟩ := (pr_mem G.en).1 e he
  exact ⟨⟨k, r.is, r.hs⟩, r.sc⟩
theorem Gd.len (G : Gd P w ks es t) : es.size = ks.length := by rw [← Array.length_toList]; exact G.en.length
theorem Gd.has (G : Gd P w ks es t) (k : L2.Key) : k ∈ ks ↔ ∃ e ∈ es.toList, (mixKind P w).is k e.2 = true := by
  constructor
  · intro h
    obtain ⟨e, he, r⟩ := (pr_mem G.en).2 k h
    exact ⟨e, he, r.is⟩
  · rintro ⟨e, he, q⟩
    obtain ⟨k', hk', r⟩ := (pr_mem G.en).1 e he
    rw [(mixKind P w).inj _ _ _ q r.is]
    exact hk'
theorem Told.mv {h h' : Heap} {c : Addr} (T : Told P w h c ks) (f : ∀ o, h.get? c = some o → h'.get? c = some o) : Told P w h' c ks := by
  obtain ⟨ob, es, ep, t, ho, r⟩ := T
  exact ⟨ob, es, ep, t, f _ ho, r⟩
theorem Told.old {h : Heap} {c : Addr} {F : L2.Key → Bool} (T : Told P w h c ks) (hF : ∀ k, F k = true ↔ k ∈ ks) : h.SetOf (mixKind P w) c F ks.length := by
  obtain ⟨ob, es, ep, t, ho, hx, hd, G⟩ := T
  exact ⟨ob, es, ep, t, ho, hx, hd, G.elems, fun k => (hF k).trans (G.has k), G.sz, G.ft, G.len⟩
variable {A : Around} {E : Value → Shared → Prop} {s : Shared} {c : Addr}
/-- stored, and laid anew where it is too full -/
theorem gd_tail {sayIt : Bool → Sem Unit} (hsay : ∀ (b : Bool) (z : Shared) (Q' : Unit → Shared → Prop), Q' () z → wpAny (model P w) A (sayIt b) Q' E z) {ob : PySem.Obj} {old : Array (Int × Value)} {ep : Nat} {t0 : SetTable} (ho : s.heap.get? c = some ob) (hx : ob.ExactSet) (hd : ob.data = .set old ep t0)
    (G : Gd P w ks es t) {dummy : Bool} {R : Option Bool → Shared → Prop} (hR : ∀ h' ks', ks'.Perm ks → Heap.SameBut c s.heap h' → Told P w h' c ks' → R (some true) { s with heap := h' }) :
    wpAny (model P w) A (storeSet c es t >>= fun _ => if (!dummy && t.tooFull) = true then sayIt (relayAll t es (SetTable.grown es.size)).2.2 >>= fun _ => storeSet c (relayAll t es (SetTable.grown es.size)).1 (relayAll t es (SetTable.grown es.size)).2.1 >>= fun _ => pure (some true) else pure (some true)) R E s := by
  refine wpAny_bind (wpAny_storeSet_of ho hd ?_ (fits_of_scanBound G.sz))
  have at1 := store_at (es' := es) (t' := t) ho hd
  have but1 := Heap.SameBut.update s.heap c (Obj.putSet es t)
  split
  · have pm := relayAll_perm t es (SetTable.grown es.size)
    have ft := relayAll_fits t es (SetTable.grown es.size)
    have ri := relayAll_ris t es (SetTable.grown es.size)
    have ld := relayAll_led t es (SetTable.grown es.size)
    generalize relayAll t es (SetTable.grown es.size) = Z at pm ft ri ld ⊢
    obtain ⟨xs, u, gave⟩ := Z
    dsimp only at pm ft ri ld ⊢
    have sz : xs.size = es.size := by rw [← Array.length_toList, pm.length_eq, Array.length_toList]
    have sb : xs.size < scanBound := by rw [sz]; exact G.sz
    refine wpAny_bind (hsay _ _ _ ?_)
    refine wpAny_bind (wpAny_storeSet_of at1 rfl ?_ (fits_of_scanBound sb))
    have at2 := store_at (es' := xs) (t' := u) at1 rfl
    obtain ⟨ks', pk, en⟩ := pr_perm pm G.en
    exact wpAny_pure (hR _ ks' pk (but1.trans (Heap.SameBut.update _ c _)) ⟨_, xs, _, u, at2, hx, rfl, en, pk.nodup_iff.mpr G.nd, sb, ft, ri, G.ld.imp id fun z => by rw [ld]; exact z⟩)
  · exact wpAny_pure (hR _ ks (.refl _) but1 ⟨_, es, _, t, at1, hx, rfl, G⟩)
open Classical in
theorem gd_add {k : L2.Key} {x : Value} {Q : Bool → Shared → Prop} (hk : (mixKind P w).is k x = true) (hsc : x.scannable = true) (T : Told P w s.heap c ks) (room : ks.length + 1 < scanBound)
    (hQ : ∀ (b : Bool) h' ks', Heap.SameBut c s.heap h' → Told P w h' c ks' → ks'.Perm (if k ∈ ks then ks else k :: ks) → Q b { s with heap := h' }) : wpAny (model P w) A (setAddHashed c x ((mixKind P w).hash k)) Q E s := by
  obtain ⟨ob, es, ep, t, ho, hx, hd, G⟩ := T
  unfold setAddHashed; unfold setAddHashedIn
  refine wpAny_holding (wpAny_bind (wpAny_setState_of ho hd G.ft ?_))
  dsimp only
  rw [byScan_of hsc G.sz G.elems]
  simp only [↓reduceIte]
  unfold setAddByScan
  refine wpAny_bind (wpAny_bind (wpAny_rule (wpAny_bind (wpAny_setScan_of hk ho hd G.ft G.elems ?_))))
  cases hit : List.findIdx? (fun e => (mixKind P w).is k e.2) es.toList with
  | some j =>
    obtain ⟨hj, pj, _⟩ := List.findIdx?_eq_some_iff_getElem.mp hit
    have inn : k ∈ ks := (G.has k).mpr ⟨_, List.getElem_mem hj, pj⟩
    exact wpAny_pure (wpAny_pure (hQ _ s.heap ks (Heap.SameBut.refl c s.heap) ⟨ob, es, ep, t, ho, hx, hd, G⟩ (by rw [if_pos inn])))
  | none =>
    have out : k ∉ ks := fun z => by
      obtain ⟨e, he, q⟩ := (G.has k).mp z
      have := List.findIdx?_eq_none_iff.mp hit e he
      rw [q] at this
      cases this
    dsimp only
    have pm := layNew_perm t es ((mixKind P w).hash k) x
    have ft := layNew_fits t es ((mixKind P w).hash k) x
    have ri := layNew_ris t es ((mixKind P w).hash k) x G.ri
    have ld := layNew_led t es ((mixKind P w).hash k) x
    generalize layNew t es ((mixKind P w).hash k) x = Z at pm ft ri ld ⊢
    obtain ⟨xs, u, dummy, gave⟩ := Z
    dsimp only at pm ft ri ld ⊢
    rw [Array.toList_push] at pm
    obtain ⟨ks', pk, en⟩ := pr_perm pm (G.en.snoc (b := k) (⟨hk, rfl, hsc⟩ : Ent P w ((mixKind P w).hash k, x) k))
    have pk2 : ks'.Perm (k :: ks) := pk.trans (List.perm_append_singleton _ _)
    have sb : xs.size < scanBound := by
      rw [← Array.length_toList, en.length, pk2.length_eq, List.length_cons]
      exact room
    have G1 : Gd P w ks' xs u := ⟨en, pk2.nodup_iff.mpr (List.nodup_cons.mpr ⟨out, G.nd⟩), sb, ft, ri, G.ld.imp id fun z => by rw [ld]; exact z⟩
    have fin : ∀ h' k2, k2.Perm ks' → Heap.SameBut c s.heap h' → Told P w h' c k2 → Q true { s with heap := h' } := fun h' k2 p2 sb T2 => hQ true h' k2 sb T2 (by rw [if_neg out]; exact p2.trans pk2)
    have say : ∀ (b : Bool) {z : Shared} {Q' : Unit → Shared → Prop}, Q' () z → wpAny (model P w) A (match b with | true => rule "set.scan.the-table-gave-way" | false => pure ()) Q' E z := fun b z Q' q => by
      cases b <;> first | exact wpAny_pure q | exact wpAny_rule q
    refine wpAny_bind (say _ ?_)
    split
    · refine wpAny_bind ?_
      rw [show hashByValue 8 x = pure (plainKind x) from hashByValue_scannable 8 hsc]
      refine wpAny_pure (gd_tail (dummy := dummy) ?_ ho hx hd (ks := ks') ?_ fun h' k2 p2 sb T2 => ?_)
      · intro b z Q' q; cases b <;> first | exact wpAny_pure q | exact wpAny_rule q
      · split
        · exact G1
        · exact ⟨G1.en, G1.nd, G1.sz, SetTable.fits_plain_off G1.ft, G1.ri, G1.ld⟩
      · dsimp only; exact wpAny_pure (fin h' k2 p2 sb T2)
    · refine wpAny_bind (wpAny_pure ?_)
      simp only [↓reduceIte]
      refine gd_tail (dummy := dummy) ?_ ho hx hd G1 fun h' k2 p2 sb T2 => ?_
      · intro b z Q' q; cases b <;> first | exact wpAny_pure q | exact wpAny_rule q
      · dsimp only; exact wpAny_pure (fin h' k2 p2 sb T2)
theorem addG_call {k : L2.Key} {x : Value} {Q : Value → Shared → Prop} (hk : (mixKind P w).is k x = true) (hsc : x.scannable = true) (T : Told P w s.heap c ks) (room : ks.length + 1 < scanBound)
    (hQ : ∀ h' ks', Heap.SameBut c s.heap h' → Told P w h' c ks' → (∀ j, j ∈ ks' ↔ j ∈ ks ∨ j = k) → (k ∈ ks → ks'.length = ks.length) → (k ∉ ks → ks'.length = ks.length + 1) → Q .none { s with heap := h', toks := s.toks + 1 }) : wpAny (model P w) A (call (.builtin "set.add") [.ref c, x]) Q E s := by
  have ty : s.TypeIs (.ref c) "set" := by
    obtain ⟨ob, _, _, _, ho, hx, _⟩ := T
    exact ⟨ob, ho, hx.1⟩
  refine wpAny_call_entry PySem.F.slot_set_add ty PySem.F.entry_set_add ?_ (PySem.F.args_set_add_2 (.ref c) x)
  unfold Builtin.«set.add»; unfold Builtin.Frozenset.oneOther; simp only [bind_assoc, List.isEmpty_nil]
  unfold Builtin.Frozenset.addrOf; unfold setAdd
  refine wpAny_bind (wpAny_pure ?_); try dsimp only
  refine wpAny_bind (wpAny_pure ?_); try dsimp only
  refine wpAny_bind (wpAny_holding (wpAny_bind ((mixKind P w).pyHash hk ?_)))
  refine gd_add (s := { s with toks := s.toks + 1 }) hk hsc T room fun b h' ks' sb T2 pk => ?_
  refine (show wpAny _ _ (PySem.ret Value.none) _ _ _ from wpAny_pure ⟨_, rfl, hQ h' ks' sb T2 (fun j => ?_) (fun z => ?_) fun z => ?_⟩)
  · rw [pk.mem_iff]
    split
    · rename_i z
      exact ⟨.inl, fun y => y.elim id fun e => by rw [e]; exact z⟩
    · rw [List.mem_cons]
      exact Or.comm
  · rw [pk.length_eq, if_pos z]
  · rw [pk.length_eq, if_neg z]
    rfl
/-- sorted(found), of fewer than 64 texts -/
theorem sort_texts {zs : List Str} {Q : Value → Shared → Prop} (T : Told P w s.heap c (zs.map Sum.inr)) (calm : A.handled = none) (few : zs.length < 64)
    (hQ : ∀ (z : Shared) (ad : Addr) (out : List Value) (ct : Nat) (ys : List Str), (∀ b o, s.heap.get? b = some o → z.heap.get? b = some o) → z.gens = s.gens → z.os = s.os → s.heap.objs.size ≤ ad → z.heap.get? ad = some (seqObj "list" out.toArray ct) → StrsAre out ys → ys.Perm zs → sortedS ys = true → Q (.ref ad) z) :
    wpAny (model P w) A (call (.builtin "sorted") [.ref c]) Q E s := by
  obtain ⟨ob, es, ep, t, ho, hx, hd, G⟩ := T
  refine Calls.call_function_entry PyProof.Rows.kind_sorted PyProof.Rows.plain_sorted PyProof.Rows.entry_sorted (PyProof.Rows.args_sorted1 (.ref c)) ?_
  unfold Builtin.«sorted»; refine wpAny_bind (m := checkCount "sorted" 1 1 _) (wpAny_pure ?_)
  refine wpAny_bind (collect_set (A := A.in1) calm ⟨ob, ho, hx.1, hd⟩ G.ft G.sz G.ri G.ld fun z vs kp big gs os pm => ?_)
  have en : Paired (fun (v : Value) (y : Str) => ∃ tk, v = .str y tk) (es.toList.map (·.2)) zs := by
    have key : ∀ (l : List (Int × Value)) (zs : List Str), Paired (Ent P w) l (zs.map Sum.inr) → Paired (fun (v : Value) (y : Str) => ∃ tk, v = Value.str y tk) (l.map (·.2)) zs := by
      intro l
      induction l with
      | nil => intro zs h; cases zs with
        | nil => exact .nil
        | cons _ _ => cases h
      | cons e l ih => intro zs h; cases zs with
        | nil => cases h
        | cons y zs => cases h with
          | cons r h => exact .cons (Value.isStrOf_shape (x := y) (v := e.2) r.is) (ih zs h)
    exact key _ _ G.en
  obtain ⟨us, pu, eu⟩ := pr_perm pm en
  have hS : StrsAre vs us := by
    have key : ∀ (l : List Value) (us : List Str), Paired (fun (v : Value) (y : Str) => ∃ tk, v = Value.str y tk) l us → StrsAre l us := by
      intro l us h
      induction h with
      | nil => exact .nil
      | cons r _ ih => obtain ⟨tk, rfl⟩ := r; exact .cons _ _ ih
    exact key _ _ eu
  have hl : vs.length = us.length := eu.length
  have ul : us.length < 64 := by rw [pu.length_eq]; exact few
  refine wpAny_bind (wpAny_newList ?_ (by rw [hl, sizeLine_eq]; omega))
  have hoL : (z.heap.push (seqObj "list" vs.toArray 0)).get? z.heap.objs.size = some (seqObj "list" vs.toArray 0) := Heap.get?_push_size _ rfl
  refine wpAny_bind (wpAny_holding (wpAny_call_entry PyProof.Rows.slot_list_sort ⟨_, hoL, rfl⟩ PyProof.Rows.entry_list_sort
    (list_sort_treeK strKind_oneLt (s := { z with heap := z.heap.push (seqObj "list" vs.toArray 0) }) hoL hS.keysOf (fun a b rest e => keyKind_strs (by rw [← e]; exact hS)) (by rw [hl]; exact ul) fun ar hp hs => ⟨_, rfl, ?_⟩) (PyProof.Rows.args_list_sort _)))
  obtain ⟨ys, g1, g2, g3⟩ := sorted_out_str hS hp hs
  obtain ⟨ct, he⟩ := PyProof.Rows.sortedHeap_at (vs := vs) (out := (arrOf ar).map (·.2)) hoL
  refine wpAny_pure ⟨_, rfl, hQ _ z.heap.objs.size ((arrOf ar).map (·.2)).toList ct ys (fun b o e => ?_) gs os big (by rw [Array.toArray_toList]; exact he) g1 (g2.trans pu) g3⟩
  have q := kp b o e
  have hb := Heap.lt_size q
  show (PyProof.Rows.sortedHeap (z.heap.push (seqObj "list" vs.toArray 0)) z.heap.objs.size vs _).get? b = some o
  rw [PyProof.Rows.sortedHeap_old (Nat.ne_of_lt hb) (by rw [size_push']; exact Nat.lt_succ_of_lt hb)]
  exact Heap.get?_push_of_some _ q
end
def SetG (P : Program) (w : World) (c : Addr) (F : L2.Key → Bool) (n : Nat) : HO := .ext fun h => ∃ ks, Told P w h c ks ∧ (∀ k, F k = true ↔ k ∈ ks) ∧ ks.length = n
section
variable {P : Program} {w : World} {H : Hp} {h : Heap} {c : Addr} {F : L2.Key → Bool} {n : Nat} {ks : List L2.Key}
theorem setG_new (T : Told P w h c ks) (hF : ∀ k, F k = true ↔ k ∈ ks) (hn : ks.length = n) : ObjOk P w H h c (SetG P w c F n) := by
  have ⟨o, _, _, _, ho, _⟩ := T
  exact ⟨⟨ks, T, hF, hn⟩, ⟨o, ho⟩, fun h1 h2 ⟨ks, T, r⟩ k => ⟨ks, T.mv k, r⟩⟩
theorem told_new (P : Program) (h : Heap) : Told P w (h.push { cls := .type "set", dict := none, data := .set #[] 0 (.fresh 0 0 (!w.params.followText "set-order")) }) h.objs.size [] :=
  ⟨_, #[], 0, _, Heap.get?_push_size _ rfl, ⟨rfl, rfl, rfl⟩, rfl, .nil, .nil, by decide, rfl, .nil, by
    show _ ∨ (!w.params.followText "set-order") = true
    cases w.params.followText "set-order"
    · exact .inr rfl
    · exact .inl rfl⟩
variable {X : Cx}
theorem setG_get {pins : List (Addr × PySem.Obj)} {σ : L2.St} {s : Shared} (I : Inv X pins σ H s) (hc : H c = some (SetG X.prog X.w c F n)) : ∃ ks, Told X.prog X.w s.heap c ks ∧ (∀ k, F k = true ↔ k ∈ ks) ∧ ks.length = n := (I.hok c _ hc).1
/-- sorted(found): fewer than 64 texts, those of zs -/
def rSortG (P : Program) (w : World) : List V → Hp → VK → Prop := fun xs H Q => ∃ (c : Addr) (F : L2.Key → Bool) (n : Nat) (zs : List Str), xs = [V.ref c] ∧ H c = some (SetG P w c F n) ∧ n < 64 ∧ (∀ k, F k = true ↔ ∃ z ∈ zs, k = .inr z) ∧
  ∀ (ys : List Str) (p : Addr), ys.Nodup → (∀ z, z ∈ ys ↔ z ∈ zs) → sortedS ys = true → H p = none → Q (.ref p) (upd H p (.lst (ys.map V.str)))
theorem cr_sortG (calm : X.calm = true) : CallR X (.builtin "sorted") (rSortG X.prog X.w) := by
  rintro pins s σ H xs us Q I r ⟨c, F, n, zs, rfl, hc, hn, hF, q⟩
  obtain ⟨ks, T, hk, hl⟩ := setG_get I hc
  have tx : ∃ us : List Str, ks = us.map Sum.inr := by
    have key : ∀ l : List L2.Key, (∀ k ∈ l, ∃ z : Str, k = .inr z) → ∃ us : List Str, l = us.map Sum.inr := by
      intro l
      induction l with
      | nil => exact fun _ => ⟨[], rfl⟩
      | cons k l ih =>
        intro h
        obtain ⟨z, rfl⟩ := h k (.head _)
        obtain ⟨us, rfl⟩ := ih fun k hk => h k (.tail _ hk)
        exact ⟨z :: us, rfl⟩
    exact key ks fun k hk2 => let ⟨z, _, e⟩ := (hF k).mp ((hk k).mpr hk2); ⟨z, e⟩
  obtain ⟨vs, rfl⟩ := tx
  rw [List.length_map] at hl
  have nd : vs.Nodup := by
    have ⟨_, _, _, _, _, _, _, G⟩ := T
    have := G.nd
    exact List.Pairwise.of_map Sum.inr (fun a b hne e => hne (congrArg Sum.inr e)) this
  have mem : ∀ z, z ∈ vs ↔ z ∈ zs := fun z => by
    have a := hk (.inr z)
    have b := hF (.inr z)
    constructor
    · intro h
      obtain ⟨y, hy, e⟩ := b.mp (a.mpr (List.mem_map.mpr ⟨z, h, rfl⟩))
      cases e
      exact hy
    · intro h
      obtain ⟨y, hy, e⟩ := List.mem_map.mp (a.mp (b.mpr ⟨z, h, rfl⟩))
      cases e
      exact hy
  rw [Vals.ref1 r]
  refine sort_texts T (I.ok.hd calm) (by omega) fun z p out ct ys kp gs os big hp hS pm so => ?_
  have free : H p = none := I.hok.fresh big
  have lim : (ys.map V.str).length ≤ sizeLine := by rw [List.length_map, pm.length_eq, sizeLine_eq]; omega
  have J : Inv X pins σ (upd H p (.lst (ys.map V.str))) { s with heap := z.heap, gens := z.gens, drawn := z.drawn, toks := z.toks } :=
    I.call (ch := []) (Un.laid kp big free) (I.hok.laid kp big ⟨lim, out, ct, vals_of_strs hS, hp⟩) (by rw [gs]; exact I.bare) (fun _ y => nomatch y)
  have e : z = { s with heap := z.heap, gens := z.gens, drawn := z.drawn, toks := z.toks } := by
    cases z
    cases s
    cases os
    rfl
  rw [e]
  exact ⟨.ref p, _, J, rfl, q ys p (pm.nodup_iff.mpr nd) (fun y => pm.mem_iff.trans (mem y)) so free⟩
end
end VM
set_option maxHeartbeats 2000000
namespace VM
open PySem L2 PySem.Spec PyProof.Rows
section
variable {X : Cx}
/-- a set of keys at Dl grows; what fails a test is left out -/
def tSk (P : Program) (w : World) (wi : TI) (g : TG) (tt : TT) (te : TE) (vs : List Nat) : TE := fun σ H Q => wi σ H fun J H1 => ∀ Dl, H1 Dl = none → ∃ V : Nat → Nat → Hp → Prop, (∃ m, V 0 m (upd H1 Dl (SetG P w Dl (fun _ => false) 0))) ∧ ∀ i m H, V i m H →
  (J.stop i H ∧ Q (.ref Dl) H) ∨ (J.go i H ∧ ∃ Z : Hp → Prop, (∀ H', Z H' → ∃ m', m' < m ∧ V (i + 1) m' H') ∧ ∀ x H', J.yld i H x H' → g x (wipe σ vs) H' fun σ2 H2 => wipe σ2 vs = wipe σ vs ∧
    tt σ2 H2 fun ok H3 => if ok = true then te σ2 H3 fun y H4 => ∃ (k : L2.Key) (F : L2.Key → Bool) (n : Nat), y = kV k ∧ H4 Dl = some (SetG P w Dl F n) ∧ n + 1 < scanBound ∧ Z (upd H4 Dl (SetG P w Dl (fun j => F j || decide (j = k)) (if F k = true then n else n + 1))) else Z H3)
theorem addK_ok {pins : List (Addr × PySem.Obj)} {σ : L2.St} {H : Hp} {s : Shared} {E : Value → Shared → Prop} {Dl : Addr} {F : L2.Key → Bool} {n : Nat} {k : L2.Key} {u : Value} {Q : Value → Shared → Prop} (I : Inv X pins σ H s) (hD : H Dl = some (SetG X.prog X.w Dl F n)) (ru : RelV (kV k) u)
    (room : n + 1 < scanBound) (h : ∀ s', Inv X pins σ (upd H Dl (SetG X.prog X.w Dl (fun j => F j || decide (j = k)) (if F k = true then n else n + 1))) s' → Q .none s') : wpAny (model X.prog X.w) X.A (call (.builtin "set.add") [.ref Dl, u]) Q E s := by
  obtain ⟨ks, T, hF, hn⟩ := setG_get I hD
  refine addG_call (kV_is ru) (key_scan ru) T (by omega) fun h' ks' sb T2 mem l1 l2 => h _ ?_
  have there : ∃ z, h'.get? Dl = some z := by
    obtain ⟨o, _, _, _, ho, _⟩ := id T2
    exact ⟨o, ho⟩
  refine I.write (e := Dl) (t' := s.toks + 1) (by rw [hD]; trivial) (Or.inl rfl) (fun b z hb hz => (sb.2 b hb).trans hz) there (setG_new T2 (fun j => ?_) ?_)
  · rw [Bool.or_eq_true, decide_eq_true_eq, hF j, mem j]
  · by_cases q : k ∈ ks
    · rw [if_pos ((hF k).mpr q), l1 q, hn]
    · rw [if_neg (fun z => q ((hF k).mp z)), l2 q, hn]
theorem sk_core {pins : List (Addr × PySem.Obj)} {s : Shared} {σ : L2.St} {H : Hp} {Q : VK} {elt t it : Expr} {ifs : List Expr} {scope : Scope} {own : List (PySem.Str × Nat)} {pos pos' : Pos} {wi : TI} {g : TG} {tt : TT} {te : TE} {Qf : Value → Shared → Prop}
    (calm : X.calm = true) (nd : X.N.Nodup) (I : Inv X pins σ H s) (hi : PI X t it wi) (ok : BlkOk X.N X.env.scope scope own)
    (hg : ∀ (s : Shared) (H : Hp) (C : Addr) (cl : List (PySem.Str × Addr)) (fp : List Addr), PG (X.blk s H scope (compEnvC scope cl C X.env) fp) t g)
    (htt : ∀ (s : Shared) (H : Hp) (C : Addr) (cl : List (PySem.Str × Addr)) (fp : List Addr), PTs (X.blk s H scope (compEnvC scope cl C X.env) fp) ifs tt)
    (he : ∀ (s : Shared) (H : Hp) (C : Addr) (cl : List (PySem.Str × Addr)) (fp : List Addr), PE (X.blk s H scope (compEnvC scope cl C X.env) fp) elt te) (hs : ∀ x, foldedSetIterable it X.env x = pure x)
    (h : tSk X.prog X.w wi g tt te (own.map (·.2)) σ H Q)
    (out : ∀ Dl C s' m H', Inv X pins σ H' s' → Q (.ref Dl) H' → s'.heap.Ns C m → FpOk X pins H' C → compPost (model X.prog X.w) X.A X.xe none Qf (.ref Dl) C (.ok .next) s') :
    wpAny (model X.prog X.w) X.A (comprehension (.SetComp elt [⟨t, it, ifs, 0⟩] scope pos) scope X.env pos' (newSet (.type "set")) false (eval it X.env) none) Qf X.xe s := by
  have frees : ∀ y ∈ scope.names, y.2 = .free → ∃ c, X.env.cells.lookup y.1 = some c := by
    intro y hy e
    rcases ok.free y hy e with k | k
    · exact I.ok.has _ (Or.inl k)
    · exact I.ok.has _ (Or.inr k)
  refine wpAny_comprehension_free (use := none) rfl hs (closure_ok frees) ok.kind (fun y hy e => by rw [ok.uniq y hy, e])
    (thn (hi.run pins s σ H _ I h) fun xv s1 hx => thn hx fun itv s2 ⟨ia, fp, tn, J, H2, e0, I2, Tn, st2, f2, q⟩ => ?_)
  subst e0
  refine PpSet.newSet_ok (newEnv_comp ?_)
  generalize hDl : s2.heap.objs.size = Dl
  have freeD : H2 Dl = none := I2.hok.fresh (Nat.le_of_eq hDl)
  obtain ⟨V, ⟨m0, v0⟩, turn⟩ := q Dl freeD
  generalize es3 : ({ s2 with heap := s2.heap.push { cls := .type "set", dict := none, data := .set #[] 0 (.fresh 0 0 (!X.w.params.followText "set-order")) } } : Shared) = s3
  have I3 : Inv X pins σ (upd H2 Dl (SetG X.prog X.w Dl (fun _ => false) 0)) s3 := by
    rw [← es3]
    refine I2.laid (t' := s2.toks) (fun b o e => Heap.get?_push_of_some _ e) (Nat.le_of_eq hDl) ?_
    rw [← hDl]
    exact setG_new (told_new X.prog _) (fun k => by simp) rfl
  have h3 : s3.heap = s2.heap.push { cls := .type "set", dict := none, data := .set #[] 0 (.fresh 0 0 (!X.w.params.followText "set-order")) } := by rw [← es3]
  have below : ∀ b ∈ fp, b < s2.heap.objs.size := fun b hb => let ⟨o, e, _⟩ := Tn.obj _ _ st2 b hb; Heap.lt_size e
  have f3 : ∀ b ∈ fp, FpOk X pins (upd H2 Dl (SetG X.prog X.w Dl (fun _ => false) 0)) b ∧ b < s3.heap.objs.size := by
    intro b hb
    have lt := below b hb
    refine ⟨⟨?_, (f2 b hb).2⟩, by rw [h3, Heap.size_push]; exact Nat.lt_succ_of_lt lt⟩
    rw [upd_ne (by rw [← hDl]; exact Nat.ne_of_lt lt)]
    exact (f2 b hb).1
  have st3 : tn 0 s3.heap := Tn.keep _ _ _ st2 fun b _ o e => by rw [h3]; exact Heap.get?_push_of_some _ e
  have I4 := block_start I3 ok nd f3
  have pg := hg s3 (upd H2 Dl (SetG X.prog X.w Dl (fun _ => false) 0)) s3.heap.objs.size (cellsFrom (s3.heap.objs.size + 1) scope.names (cloFrom X.env.cells scope.names [])) fp
  have ptt := htt s3 (upd H2 Dl (SetG X.prog X.w Dl (fun _ => false) 0)) s3.heap.objs.size (cellsFrom (s3.heap.objs.size + 1) scope.names (cloFrom X.env.cells scope.names [])) fp
  have pe := he s3 (upd H2 Dl (SetG X.prog X.w Dl (fun _ => false) 0)) s3.heap.objs.size (cellsFrom (s3.heap.objs.size + 1) scope.names (cloFrom X.env.cells scope.names [])) fp
  show codeAny _ _ (.compStart (.SetComp elt [⟨t, it, ifs, 0⟩] scope pos) 0 (.ref ia) (.ref Dl) (compEnvC scope (cellsFrom (s3.heap.objs.size + 1) scope.names (cloFrom X.env.cells scope.names [])) s3.heap.objs.size X.env)) (compPost (model X.prog X.w) X.A X.xe none Qf (.ref Dl) s3.heap.objs.size) { s3 with heap := pushCells (s3.heap.push { cls := .type "dict", data := .dict #[] }) scope.names }
  have frfp : ∀ b ∈ fp, (upd H2 Dl (SetG X.prog X.w Dl (fun _ => false) 0)) b = none := fun b hb => (f3 b hb).1.1
  generalize ece : compEnvC scope (cellsFrom (s3.heap.objs.size + 1) scope.names (cloFrom X.env.cells scope.names [])) s3.heap.objs.size X.env = ce at I4 pg ptt pe ⊢
  have eL : ce.locals = s3.heap.objs.size := by subst ece; rfl
  generalize eH3 : upd H2 Dl (SetG X.prog X.w Dl (fun _ => false) 0) = H3 at I3 I4 pg ptt pe v0 frfp f3
  generalize es4 : ({ s3 with heap := pushCells (s3.heap.push { cls := .type "dict", data := .dict #[] }) scope.names } : Shared) = s4 at I4 ⊢
  have st4 : tn 0 s4.heap := Tn.keep _ _ _ st3 fun b _ o e => by rw [← es4]; exact pushCells_keeps _ _ _ _ (Heap.get?_push_of_some _ e)
  have stat : ∀ {σ' : L2.St} {H' : Hp} {s' : Shared}, Inv (X.blk s3 H3 scope ce fp) [] σ' H' s' → (∀ b ∈ fp, H' b = none) → ∀ b ∈ fp, FpOk (X.blk s3 H3 scope ce fp) [] H' b := by
    intro σ' H' s' I' hn b hb
    exact ⟨hn b hb, (I'.ok.exf b hb).1, I'.ok.exfs b hb, Or.inl hb, fun x c e => (I'.ok.exf b hb).2 x c e, fun p hp => absurd (show p ∈ ([] : List (Addr × PySem.Obj)) ++ [] from hp) (by simp)⟩
  have loop : codeAny (model X.prog X.w) X.A (.compLoop (.SetComp elt [⟨t, it, ifs, 0⟩] scope pos) 0 (.ref ia) (.ref Dl) ce) (compPost (model X.prog X.w) X.A X.xe none Qf (.ref Dl) s3.heap.objs.size) s4 := by
    refine PpSet.compLoopS_any (fun n s' => ∃ i H', Inv (X.blk s3 H3 scope ce fp) [] (wipe σ (own.map (·.2))) H' s' ∧ tn i s'.heap ∧ (∀ b ∈ fp, H' b = none) ∧ V i n H') ?_ m0 ⟨0, H3, I4, st4, frfp, v0⟩
    rintro n s5 ⟨i, H5, I5, st5, n5, w5⟩
    rcases turn i n H5 w5 with ⟨stop, qq⟩ | ⟨go, Z, hZ, step⟩
    · refine thnF (Tn.done (X.blk s3 H3 scope ce fp) rfl rfl rfl calm i [] s5 _ H5 (fun _ _ => False) I5 (stat I5 n5) st5 stop) fun r s6 ⟨hr, I6⟩ => ?_
      subst hr
      have I7 : Inv X pins σ H5 s6 := I3.call' (ch := fp) I6.os I6.base I6.hok I6.bare fun b hb => ⟨(f3 b hb).1.2.2.2.1, (f3 b hb).1.2.1, (f3 b hb).1.2.2.2.2.1, (f3 b hb).1.2.2.2.2.2⟩
      have nC : H5 s3.heap.objs.size = none := by
        have z : H5 ce.locals = none := I6.free
        rw [eL] at z
        exact z
      obtain ⟨m, hn, _⟩ := I6.loc
      have hn : s6.heap.Ns ce.locals m := hn
      rw [eL] at hn
      exact out Dl s3.heap.objs.size s6 m H5 I7 qq hn (I3.fpOk (Nat.le_refl _) nC)
    · refine thnF (Tn.item (X.blk s3 H3 scope ce fp) rfl rfl rfl calm i [] s5 _ H5 (fun _ _ => False) I5 (stat I5 n5) st5 go) fun r s6 ⟨u, hr, h6⟩ => ?_
      subst hr
      refine thnF h6 fun _ s7 ⟨x, H7, I7, r7, y7, st7, n7⟩ => ?_
      have I7' := I7.pinned (stat I7 n7) (Tn.obj _ _ st7)
      refine thnF (pg.run _ s7 _ H7 x u _ I7' r7 (step x H7 y7)) fun _ s8 ⟨σ8, H8, I8, hw8, q8⟩ => ?_
      refine thnF (ptt.run _ s8 σ8 H8 _ I8 q8) fun good s9 ⟨H9, I9, q9⟩ => ?_
      have fin : ∀ {s' : Shared} {H' : Hp}, Inv (X.blk s3 H3 scope ce fp) ([] ++ pinsAt fp s7.heap) σ8 H' s' → Z H' → ∃ m, m < n ∧ ∃ i H', Inv (X.blk s3 H3 scope ce fp) [] (wipe σ (own.map (·.2))) H' s' ∧ tn i s'.heap ∧ (∀ b ∈ fp, H' b = none) ∧ V i m H' := by
        intro s' H' I' z
        obtain ⟨m', hm, w'⟩ := hZ H' z
        have kept : ∀ b ∈ fp, ∀ o, s7.heap.get? b = some o → s'.heap.get? b = some o ∧ H' b = none := fun b hb o e =>
          let z := I'.pin (b, o) (List.mem_append_right _ (List.mem_append_right _ (mem_pinsAt hb e)))
          ⟨z.1, z.2.1⟩
        have el : (wipe σ (own.map (·.2))).length = σ8.length := by rw [← hw8, wipe_length]
        refine ⟨m', hm, i + 1, H', (I'.unpinned (pins := [])).weak el (fun j v e => ?_), Tn.keep _ _ _ st7 fun b hb o e => (kept b hb o e).1, fun b hb => ?_, w'⟩
        · rw [← hw8] at e
          exact (wipe_some e).1
        · obtain ⟨o, e, _⟩ := Tn.obj _ _ st7 b hb
          exact (kept b hb o e).2
      cases good with
      | false => exact fin I9 (show Z H9 from q9)
      | true =>
        refine (show wpAny _ _ _ _ _ _ from thnF (pe.run _ s9 σ8 H9 _ I9 q9) fun z s10 ⟨yv, H10, I10, r10, k, F, n0, ey, hD10, hz10, nx⟩ => ?_)
        subst ey
        exact addK_ok (X := X.blk s3 H3 scope ce fp) I10 hD10 r10 hz10 fun s11 I11 => fin I11 nx
  exact PpSet.codeAny_compStart_set loop (Tn.self X.A 0 _ _ _ st4 loop)
theorem pe_sk {elt t it : Expr} {ifs : List Expr} {scope : Scope} {own : List (PySem.Str × Nat)} {pos : Pos} {wi : TI} {g : TG} {tt : TT} {te : TE} (calm : X.calm = true) (nd : X.N.Nodup) (hi : PI X t it wi) (ok : BlkOk X.N X.env.scope scope own)
    (hg : ∀ (s : Shared) (H : Hp) (C : Addr) (cl : List (PySem.Str × Addr)) (fp : List Addr), PG (X.blk s H scope (compEnvC scope cl C X.env) fp) t g)
    (htt : ∀ (s : Shared) (H : Hp) (C : Addr) (cl : List (PySem.Str × Addr)) (fp : List Addr), PTs (X.blk s H scope (compEnvC scope cl C X.env) fp) ifs tt)
    (he : ∀ (s : Shared) (H : Hp) (C : Addr) (cl : List (PySem.Str × Addr)) (fp : List Addr), PE (X.blk s H scope (compEnvC scope cl C X.env) fp) elt te) (hs : ∀ x, foldedSetIterable it X.env x = pure x) :
    PE X (.SetComp elt [⟨t, it, ifs, 0⟩] scope pos) (tSk X.prog X.w wi g tt te (own.map (·.2))) := by
  refine ⟨fun pins s σ H Q I h => ?_⟩
  rw [PpSet.eval_SetComp]
  refine sk_core calm nd I hi ok hg htt he hs h fun Dl C s' m H' I' q hn f => ⟨m, hn, fun h'' sb => ?_⟩
  obtain ⟨f0, f1, f2, f3, f4, f5⟩ := f
  exact ⟨.ref Dl, H', I'.turned (t' := s'.toks) (fun b o hb e => (sb.2 b hb).trans e) f0 f1 f3 f4 f5, rfl, q⟩
/-- len of a set of keys -/
def rLk (P : Program) (w : World) : List V → Hp → VK → Prop := fun xs H Q => ∃ a F n, xs = [V.ref a] ∧ H a = some (SetG P w a F n) ∧ n < 4096 ∧ Q (.int n) H
theorem cr_lk : CallR X (.builtin "len") (rLk X.prog X.w) := by
  rintro pins s σ H xs us Q I r ⟨a, F, n, rfl, ha, hlt, q⟩
  rw [Vals.ref1 r]
  obtain ⟨ks, ⟨o, es, ep, t, ho, hex, hd, G⟩, _, hn⟩ := setG_get I ha
  have e8 : es.size = n := G.len.trans hn
  exact call_len_set ho hex hd G.ft (by rw [e8]; omega) ⟨.int n, H, I.tok _, ⟨_, by rw [e8]⟩, q⟩
end
theorem hasK_iff {s : List Key} {k : Key} : hasK s k = true ↔ k ∈ s := by
  unfold hasK
  rw [List.any_eq_true]
  exact ⟨fun ⟨x, h1, h2⟩ => by rw [← of_decide_eq_true h2]; exact h1, fun h => ⟨k, h, decide_eq_true rfl⟩⟩
open Classical in
theorem seenK_snoc (ks : List Key) (k : Key) : seenK (ks ++ [k]) = if k ∈ seenK ks then seenK ks else seenK ks ++ [k] := by
  unfold seenK
  rw [List.foldl_append]
  show (if hasK _ k = true then _ else _) = _
  by_cases q : k ∈ List.foldl (fun (s : List Key) (k : Key) => if hasK s k = true then s else s ++ [k]) [] ks
  · rw [if_pos q, if_pos (hasK_iff.mpr q)]
  · rw [if_neg q, if_neg (fun z => q (hasK_iff.mp z))]
theorem mem_seenK {ks : List Key} {k : Key} : k ∈ seenK ks ↔ k ∈ ks := by
  have key : ∀ n (ks : List Key), ks.length = n → (k ∈ seenK ks ↔ k ∈ ks) := by
    intro n
    induction n with
    | zero =>
      intro ks h
      cases ks with
      | nil => exact Iff.rfl
      | cons _ _ => cases h
    | succ n ih =>
      intro ks h
      have hne : ks ≠ [] := by rintro rfl; cases h
      obtain ⟨xs, x, rfl⟩ : ∃ xs x, ks = xs ++ [x] := ⟨ks.dropLast, ks.getLast hne, (List.dropLast_concat_getLast hne).symm⟩
      have ih := ih xs (by simpa using h)
      rw [seenK_snoc]
      by_cases q : x ∈ seenK xs
      · rw [if_pos q, ih, List.mem_append]
        constructor
        · exact .inl
        · rintro (z | z)
          · exact z
          · rw [List.mem_singleton.mp z]
            have : x ∈ xs := by
              have key2 : ∀ (ys : List Key), x ∈ seenK ys → x ∈ ys := by
                intro ys
                induction h2 : ys.length generalizing ys with
                | zero =>
                  intro hz
                  cases ys with
                  | nil => exact hz
                  | cons _ _ => cases h2
                | succ m ihm =>
                  intro hz
                  have hne2 : ys ≠ [] := by rintro rfl; cases h2
                  obtain ⟨zs, z, rfl⟩ : ∃ zs z, ys = zs ++ [z] := ⟨ys.dropLast, ys.getLast hne2, (List.dropLast_concat_getLast hne2).symm⟩
                  rw [seenK_snoc] at hz
                  by_cases q2 : z ∈ seenK zs
                  · rw [if_pos q2] at hz
                    exact List.mem_append_left _ (ihm zs (by simpa using h2) hz)
                  · rw [if_neg q2] at hz
                    rcases List.mem_append.mp hz with w | w
                    · exact List.mem_append_left _ (ihm zs (by simpa using h2) w)
                    · exact List.mem_append_right _ w
              exact key2 xs q
            exact this
      · rw [if_neg q, List.mem_append, List.mem_append, ih]
  exact key _ ks rfl
theorem seenK_le (ks : List Key) : (seenK ks).length ≤ ks.length := by
  have key : ∀ n (ks : List Key), ks.length = n → (seenK ks).length ≤ n := by
    intro n
    induction n with
    | zero =>
      intro ks h
      cases ks with
      | nil => exact Nat.le_refl _
      | cons _ _ => cases h
    | succ n ih =>
      intro ks h
      have hne : ks ≠ [] := by rintro rfl; cases h
      obtain ⟨xs, x, rfl⟩ : ∃ xs x, ks = xs ++ [x] := ⟨ks.dropLast, ks.getLast hne, (List.dropLast_concat_getLast hne).symm⟩
      have ih := ih xs (by simpa using h)
      rw [seenK_snoc]
      by_cases q : x ∈ seenK xs
      · rw [if_pos q]; omega
      · rw [if_neg q, List.length_append, List.length_singleton]; omega
  exact key _ ks rfl
theorem mapM_snoc {α β : Type} {f : α → Option β} {a : α} {b : β} (hb : f a = some b) : ∀ {l : List α} {r : List β}, l.mapM f = some r → (l ++ [a]).mapM f = some (r ++ [b])
  | [], r, h => by
    simp at h
    subst h
    simp [hb]
  | x :: l, r, h => by
    rw [List.mapM_cons] at h
    cases q : f x with
    | none => rw [q] at h; cases h
    | some y =>
      rw [q] at h
      cases q2 : l.mapM f with
      | none => simp [q2] at h
      | some r2 =>
        simp [q2] at h
        subst h
        have := mapM_snoc hb (l := l) q2
        rw [List.cons_append, List.mapM_cons, q, this]
        rfl
section
variable {K : PySem.W.Frag} {T : Tab} {W : WX} {C : Ctl}
structure CK (P : Program) (w : World) (K : PySem.W.Frag) (q : Seq) (step : D → List D → M (List D)) (l : List D) (Sl : Store) (μ1 : List Addr) (H1 : Hp) (Dl : Addr) (i f : Nat) (H' : Hp) : Prop where
  ex : ∃ μ' S' acc ks F, Cor K μ' S' H' ∧ Ext K μ1 H1 μ' H' ∧ Dl ∉ μ' ∧ acc.mapM keyOf = some ks ∧ acc.length ≤ 4000 ∧ H' Dl = some (SetG P w Dl F (seenK ks).length) ∧ (∀ j, F j = true ↔ ∃ k ∈ ks, j = kS k) ∧ cmpI q step f i acc S' = .ok l Sl
theorem mapM_len {α β : Type} {f : α → Option β} {l : List α} {r : List β} (h : l.mapM f = some r) : l.length = r.length := Paired.length (mapM_some h)
theorem read_lenset {P : Program} {w : World} {own : List Nat} {tg : Tg} {src : Src} {elt : Exp} {σ : L2.St} {H : Hp} {Q : VK} (hsub : ∀ i ∈ tgs tg, i ∈ own) (h : tE K T W C (.lenset own tg src elt) σ H Q) :
    tCB (rLk P w) (tCons (tSk P w (tSr K T W C src) (tG K tg) tYes (tE K T WF C elt) own) tNil) σ H Q := by
  obtain ⟨μ, S, ρ, c, er, h⟩ := h
  refine ⟨μ, S, ρ, c, er, Pst.then h fun q S1 μ1 H1 c1 e1 h1 J hJ Dl hD => ?_⟩
  obtain ⟨l, Sl, hl, h1⟩ := pst_noExc (m := cmpI q _ (q.size S1 + 1) 0 []) h1
  have hmD : Dl ∉ μ1 := c1.out hD
  refine ⟨fun i m H' => CK P w K q _ l Sl μ1 H1 Dl i m H', ⟨q.size S1 + 1, ⟨μ1, S1, [], [], fun _ => false, (c1.side hD).2, (c1.side hD).1, hmD, rfl, Nat.zero_le _, upd_same, fun j => ⟨fun z => (by cases z), fun ⟨k, hk, _⟩ => (by cases hk)⟩, hl⟩⟩, ?_⟩
  rintro i m H' ⟨μ', S', acc, ks, F, c', e', hm', hks, hle, hH', hF, hc⟩
  obtain ⟨f', rfl, ⟨hi, rfl, rfl⟩ | ⟨d, acc', S2, hi, hst, hc'⟩⟩ := cmpI_ok hc
  · refine .inl ⟨(hJ μ' _ H' i c' e'.mon).2 hi, Dl, F, (seenK ks).length, rfl, hH', ?_, ?_⟩
    · have := seenK_le ks
      have := mapM_len hks
      omega
    · obtain ⟨n, hn, h2⟩ := Pst.lft c' (Pst.bnd (Pst.ext h1 e'))
      unfold uniq at hn
      rw [hks] at hn
      cases hn
      exact Pst.now c' h2 _ (.int _)
  · obtain ⟨go, yl⟩ := (hJ μ' _ H' i c' e'.mon).1 d hi
    refine .inr ⟨go, fun H2 => CK P w K q _ l Sl μ1 H1 Dl (i + 1) f' H2, fun H2 z => ⟨f', Nat.lt_succ_self _, z⟩, fun x H2 y => ?_⟩
    obtain ⟨e2, c2, rd⟩ := yl x H2 y
    obtain ⟨ρ', S3, hb, hst⟩ := ok_bnd hst
    obtain ⟨hb, e3⟩ := ok_lft hb
    rw [e3] at hst
    obtain ⟨yv, S4, hy, hst⟩ := ok_bnd hst
    obtain ⟨k, S5, hk, hst⟩ := ok_bnd hst
    obtain ⟨hk', e5⟩ := ok_lft hk
    rw [e5] at hst
    obtain ⟨hz, hst⟩ := ok_ite hst
    cases hst
    have er2 : EnvR K μ' H2 (wip ρ own) (wipe σ own) := (((er.ext e1).ext e').ext e2).wip own
    refine ⟨μ', wip ρ own, d, ρ', er2, rd, hb, fun σ2 er3 fr hlen => ⟨?_, ?_⟩⟩
    · exact (wipe_eq (fun j hj => fr j fun z => hj (hsub j z)) hlen).trans wipe_wipe
    · refine ⟨μ', S', ρ', c2, er3, Pst.of_ok hy fun μ4 H4 c4 e4 v rv => ?_⟩
      have hD2 : H2 Dl = some (SetG P w Dl F (seenK ks).length) := e2.fr _ _ hm' hH'
      have hD4 : H4 Dl = some (SetG P w Dl F (seenK ks).length) := e4.fr _ _ hm' hD2
      have hm4 : Dl ∉ μ4 := e4.out hD2 hm'
      have hs1 := seenK_le ks
      have hs2 := mapM_len hks
      refine ⟨kS k, F, (seenK ks).length, key_rep rv hk', hD4, by show _ < 4096; omega, ?_⟩
      obtain ⟨c6, mo⟩ := c4.over (u := SetG P w Dl (fun j => F j || decide (j = kS k)) (if F (kS k) = true then (seenK ks).length else (seenK ks).length + 1)) hm4 (fun o u z => by rw [hD4] at z; cases z) fun xs z => by
        rcases z with z | ⟨o, z⟩
        · rw [hD4] at z; cases z
        · rw [hD4] at z; cases z
      refine ⟨μ4, _, acc ++ [yv], ks ++ [k], fun j => F j || decide (j = kS k), c6, (((e'.trans e2).trans e4).over hD), hm4, mapM_snoc hk' hks, by rw [List.length_append, List.length_singleton]; omega, ?_, fun j => ?_, hc'⟩
      · rw [upd_same]
        congr 2
        rw [seenK_snoc]
        by_cases q : k ∈ seenK ks
        · rw [if_pos q, if_pos ((hF _).mpr ⟨k, mem_seenK.mp q, rfl⟩)]
        · have : ¬ F (kS k) = true := fun z => by
            obtain ⟨k', hk', e⟩ := (hF _).mp z
            exact q (mem_seenK.mpr (by rw [kS_inj e]; exact hk'))
          rw [if_neg q, if_neg this, List.length_append, List.length_singleton]
      · rw [Bool.or_eq_true, decide_eq_true_eq, hF]
        constructor
        · rintro (⟨k', h1, h2⟩ | z)
          · exact ⟨k', List.mem_append_left _ h1, h2⟩
          · exact ⟨k, List.mem_append_right _ (List.mem_singleton.mpr rfl), z⟩
        · rintro ⟨k', h1, h2⟩
          rcases List.mem_append.mp h1 with h1 | h1
          · exact .inl ⟨k', h1, h2⟩
          · rw [List.mem_singleton.mp h1] at h2
            exact .inr h2
end
end VM
set_option maxHeartbeats 4000000
namespace VM
open PySem L2 PySem.Spec PyProof.Rows
theorem and2 {a b : Bool} (h : (a && b) = true) : a = true ∧ b = true := by rwa [Bool.and_eq_true] at h
theorem not1 {a : Bool} (h : (!a) = true) : a = false := by rwa [Bool.not_eq_true'] at h
def bifV : Bif → Value
  | .len => .builtin "len" | .abs => .builtin "abs" | .int => .type "int" | .str => .type "str" | .repr => .builtin "repr" | .tuple => .type "tuple" | .list => .type "list" | .all => .builtin "all" | .any => .builtin "any" | .dict => .type "dict"
theorem bif_boot (b : Bif) : bootBuiltins (bifNm b) = some (bifV b) := by cases b <;> decide +kernel
theorem bif_nm (b : Bif) : bifNm b ∈ blts := by cases b <;> decide +kernel
theorem bif_ne (b : Bif) : bifNm b ≠ "__name__" ∧ (bifNm b == ("__debug__" : PySem.Str)) = false := by cases b <;> decide +kernel
theorem ty_boot : ∀ t < 6, bootBuiltins (tyStr t) = some (.type (tyNm t)) ∧ tyStr t ∈ blts ∧ tyStr t ≠ "__name__" ∧ (tyStr t == ("__debug__" : PySem.Str)) = false := by decide +kernel
section
variable {T : Tab} {P : Prg} {k : Nat} {c : Cc} {sc : Scope} {X : Cx} {W : WX}
theorem Good.u65 (g : Good T P k c sc X W) : X.A.units + 65 < cLine := by have := g.room.un; omega
theorem Good.u1 (g : Good T P k c sc X W) : X.A.units + 1 < cLine := by have := g.room.un; omega
theorem Good.u70 (g : Good T P k c sc X W) : X.A.units + 70 < cLine := by have := g.room.un; omega
theorem merge_rep {K : PySem.W.Frag} {μ : List Addr} {H : Hp} : ∀ {kvs acc : List (Key × D)} {kk ak : List (L2.Key × V)}, KRep K μ H kvs kk → KRep K μ H acc ak → KRep K μ H (kvs.foldl (fun acc kv => kput acc kv.1 kv.2) acc) (kk.foldl (fun acc kv => putK acc kv.1 kv.2) ak)
  | [], _, [], _, .nil, h => h
  | p :: kvs, acc, q :: kk, ak, .cons h r, h2 => by
    have := kput_rep (k := p.1) h.2 h2
    rw [← h.1] at this
    exact merge_rep (kvs := kvs) (kk := kk) r this
theorem pairs_rep {K : PySem.W.Frag} {μ : List Addr} {H : Hp} : ∀ {l : List D} {vs : List V} {kvs : List (Key × D)}, Paired (fun d kv => pairD d = some kv) l kvs → Reps K μ H l vs →
    ∃ (ps : List Addr) (kk : List (L2.Key × V)), vs = ps.map V.ref ∧ Paired (fun p kv => SqT K H p [kV kv.1, kv.2]) ps kk ∧ KRep K μ H kvs kk
  | [], _, _, .nil, .nil => ⟨[], [], rfl, .nil, .nil⟩
  | d :: l, _, _, .cons h t, .cons r rs => by
    obtain ⟨ps, kk, e, hp, hk⟩ := pairs_rep t rs
    unfold pairD at h
    split at h
    · rename_i k v
      cases r with
      | @tup a vs ds q r =>
        cases r with
        | cons r1 r =>
          cases r with
          | cons r2 r =>
            cases r
            cases q2 : keyOf k with
            | none => rw [q2] at h; cases h
            | some k' =>
              rw [q2] at h
              cases h
              rw [key_rep r1 q2] at q
              exact ⟨a :: ps, (kS k', _) :: kk, by rw [e]; rfl, .cons q hp, .cons ⟨rfl, r2⟩ hk⟩
    · cases h
theorem dict_ok (hc : X.calm = true) : CallR X (.type "dict") (rB X.K (bifR .dict)) := by
  intro pins s σ H xs us Q I rx ⟨μ, S, ds, c, r, h⟩
  obtain ⟨d, rfl⟩ := bif_one h
  cases r with
  | cons r rn =>
    cases rn
    cases r with
    | @ref n a hn =>
      obtain ⟨l, vs, q, r, h⟩ := pst_lst c hn h
      obtain ⟨kvs, hk, h⟩ := Pst.lft c (Pst.bnd h)
      obtain ⟨ps, kk, rfl, hp, hr⟩ := pairs_rep (mapM_some hk) r
      exact call_dictP hc pins s σ H _ us Q I rx ⟨a, ps, kk, rfl, q, hp, fun p hp => Pst.newO c hp h fun μ' H' e z => ⟨mergeK [] kk, z, merge_rep (hr.ext e) .nil⟩⟩
    | _ => exact h.elim
theorem bif_call (g : Good T P k c sc X W) (b : Bif) : CallR X (bifV b) (rB X.K (bifR b)) := by
  cases b with
  | len => exact len_ok
  | abs => exact abs_ok
  | int => exact int_ok
  | str => exact str_ok
  | repr => exact repr_ok g.u70 g.gd
  | tuple => exact tuple_ok
  | list => exact list_ok
  | all => exact all_ok g.calm
  | any => exact any_ok g.calm
  | dict => exact dict_ok g.calm
/-- the call of a built-in, a function or a type -/
theorem pe_bif {b : Bif} {x : PySem.Str} {p pos : Pos} {e : Expr} {es : List Expr} {r : List V → Hp → VK → Prop} {t : TA} (hr : CallR X (bifV b) r) (hg : Gl X x) (hx : x = bifNm b) (hm : X.mg x = none) (ha : PA X (e :: es) t)
    (he : starEach (e :: es) X.env = (false, eval e X.env) :: starEach es X.env) (hpl : (backTo pos (starEach es X.env)).any (·.1) = false) : PE X (.Call (.Name x p) (e :: es) [] pos) (tCB r t) := by
  subst hx
  have n := bif_ne b
  have v := bif_boot b
  cases b <;> first
    | exact pe_callB hr hg hm v ha n.1 n.2 he hpl
    | exact pe_callTy hr hg hm v ha n.1 n.2 he hpl
/-- the walk of a source, by its expression's reading -/
theorem pi_seq {t e : Expr} {a : Exp} {C : Ctl} (p : PE X e (tE X.K T W C a)) : PI X t e (tSr X.K T W C (.seq a)) := by
  refine PI.imp (pi_val p) ?_
  rintro σ H R ⟨μ, S, ρ, c, er, h⟩
  refine ⟨μ, S, ρ, c, er, Pst.then h fun d S1 μ1 H1 c1 e1 h1 v rv => ?_⟩
  cases rv with
  | @tup a vs ds q r => exact .inr (.inl ⟨a, rfl, ⟨vs, q⟩, Pst.now c1 h1 _ (seqIt_tup q r)⟩)
  | str z => exact .inr (.inr ⟨st z, rfl, Pst.now c1 h1 _ seqIt_str⟩)
  | @ref n a hn =>
    obtain ⟨l, vs, q, r, h1⟩ := pst_lst c1 hn h1
    exact .inl ⟨a, rfl, ⟨vs, q⟩, Pst.now c1 h1 _ (seqIt_list hn)⟩
  | @kl a vs ds q r => exact .inl ⟨a, rfl, ⟨vs, q _⟩, Pst.now c1 h1 _ (seqIt_kl q r)⟩
  | _ => exact h1.elim
theorem chs_star {c : Cc} {sc : Scope} : ∀ {es : Exps} {l : List Expr}, chs c sc es l = true → l.all (fun e => !starB e) = true
  | .nil, [], _ => rfl
  | .cons a r, e :: es, h => by
    obtain ⟨h, h3⟩ := and2 h
    obtain ⟨h1, h2⟩ := and2 h
    rw [List.all_cons, h1, chs_star h3]
    rfl
  | .nil, _ :: _, h => by cases h
  | .cons _ _, [], h => by cases h
def tPs (K : PySem.W.Frag) (T : Tab) (W : WX) (C : Ctl) : Exps → List (TE × TE)
  | .cons a (.cons b r) => (tE K T W C a, tE K T W C b) :: tPs K T W C r
  | _ => []
theorem pair_rep {K : PySem.W.Frag} {μ : List Addr} {H : Hp} : ∀ {ks vs : List D} {kvs : List (Key × D)} {xs ys : List V}, pairK ks vs = some kvs → Reps K μ H ks xs → Reps K μ H vs ys → ∃ kk : List (L2.Key × V), xs.zip ys = kk.map (fun kv => (kV kv.1, kv.2)) ∧ KRep K μ H kvs kk
  | [], [], _, _, _, h, .nil, .nil => by cases h; exact ⟨[], rfl, .nil⟩
  | k :: ks, v :: vs, kvs, _, _, h, .cons r1 r2, .cons r3 r4 => by
    have h : ((keyOf k).bind fun k' => (pairK ks vs).map fun r => (k', v) :: r) = some kvs := h
    cases q : keyOf k with
    | none => rw [q] at h; cases h
    | some k' =>
      rw [q] at h
      cases q2 : pairK ks vs with
      | none => rw [q2] at h; cases h
      | some r =>
        rw [q2] at h
        cases h
        obtain ⟨kk, e, hk⟩ := pair_rep q2 r2 r4
        refine ⟨(kS k', _) :: kk, ?_, .cons ⟨rfl, r3⟩ hk⟩
        rw [List.zip_cons_cons, List.map_cons, ← e, key_rep r1 q]
  | [], _ :: _, _, _, _, h, _, _ => by cases h
  | _ :: _, [], _, _, _, h, _, _ => by cases h
def evenE : Exps → Bool
  | .nil => true
  | .cons _ (.cons _ r) => evenE r
  | _ => false
/-- the pairs, one after another -/
theorem read_pairs {K : PySem.W.Frag} {C : Ctl} {σ : L2.St} : ∀ (es : Exps) (μ : List Addr) (S : Store) (ρ : VM.Env) (H : Hp) (Q : List (V × V) → Hp → Prop), evenE es = true → Cor K μ S H → EnvR K μ H ρ σ →
    Pst K μ H (evs C es ρ S) (fun ds _ μ' H' => ∀ xs ys, Reps K μ' H' (evens ds) xs → Reps K μ' H' (odds ds) ys → Q (xs.zip ys) H') (wx T W σ) → tPairs (tPs K T W C es) σ H Q
  | .nil, μ, S, ρ, H, Q, _, c, er, h => Pst.now c h [] [] .nil .nil
  | .cons a (.cons b r), μ, S, ρ, H, Q, he, c, er, h => by
    refine ⟨μ, S, ρ, c, er, Pst.then h fun d S1 μ1 H1 c1 e1 h1 x rx => ?_⟩
    have h2 : Pst K μ1 H1 (bnd (evE C b ρ) (fun d2 => bnd (evs C r ρ) fun ds => ret (d2 :: ds)) S1) _ _ := Pst.bnd h1
    refine ⟨μ1, S1, ρ, c1, er.ext e1, Pst.then h2 fun d2 S2 μ2 H2 c2 e2 h3 y ry => ?_⟩
    refine read_pairs r μ2 S2 ρ H2 _ he c2 ((er.ext e1).ext e2) ((Pst.bnd h3).imp ?_ fun _ _ z => z)
    intro ds S3 μ3 H3 c3 e3 h4 xs ys rxs rys
    have h5 := Pst.now c3 (Pst.now c3 h4)
    exact h5 (x :: xs) (y :: ys) (.cons ((rx.ext e2).ext e3) rxs) (.cons (ry.ext e3) rys)
  | .cons _ .nil, _, _, _, _, _, he, _, _, _ => by cases he
theorem read_dct {K : PySem.W.Frag} {C : Ctl} {σ : L2.St} {es : Exps} {H : Hp} {Q : VK} (he : evenE es = true) (h : tE K T W C (.dct es) σ H Q) : tDisp (tPs K T W C es) σ H Q := by
  obtain ⟨μ, S, ρ, c, er, h⟩ := h
  intro p hp
  have cs := c.side (u := .dK []) hp
  have hm : p ∉ μ := c.out hp
  refine read_pairs es μ S ρ _ _ he cs.2 (er.ext cs.1) ((Pst.ext (Pst.bnd' h) cs.1).imp ?_ fun _ _ z => z)
  intro ds S1 μ1 H1 c1 e1 h1 xs ys rx ry
  have hp1 : H1 p = some (.dK []) := e1.fr _ _ hm upd_same
  have hm1 : p ∉ μ1 := e1.out upd_same hm
  have e01 := cs.1.trans e1
  obtain ⟨kvs, hk, h2⟩ := Pst.lft c1 (Pst.ext (Pst.bnd' h1) e01)
  obtain ⟨hl, h3⟩ := Pst.ite h2
  obtain ⟨kk, ez, rk⟩ := pair_rep hk rx ry
  refine ⟨hp1, kk, ez, by rw [← rk.length]; exact hl, ?_⟩
  obtain ⟨c2, mo⟩ := c1.over (u := .dK (mergeK [] kk)) hm1 (fun o u z => by rw [hp1] at z; cases z) fun xs z => by
    rcases z with z | ⟨o, z⟩
    · rw [hp1] at z; cases z
    · rw [hp1] at z; cases z
  have c3 := c2.adopt (o := .dk (kvs.foldl (fun acc kv => kput acc kv.1 kv.2) [])) hm1 fun μ' mo' => ⟨mergeK [] kk, upd_same, merge_rep (rk.mon (mo.trans mo')) .nil⟩
  exact h3 _ _ c3 ((e01.over hp).adopt hp) _ c2.adopt_ref
end
end VM
namespace VM
open PySem L2 PySem.Spec PyProof.Rows
theorem Pst.thenE {K : PySem.W.Frag} {μ : List Addr} {H : Hp} {S : Store} {α β : Type} {Wx : Nat → Hp → Prop} {m : M α} {f : α → M β} {R : β → Store → List Addr → Hp → Prop} {R' : α → Store → List Addr → Hp → Prop} (h : Pst K μ H (VM.bnd m f S) R Wx)
    (g : ∀ a S' μ' H', m S = .ok a S' → Cor K μ' S' H' → Ext K μ H μ' H' → Pst K μ' H' (f a S') R Wx → R' a S' μ' H') : Pst K μ H (m S) R' Wx := by
  have z := Pst.bnd h
  cases q : m S with
  | ok a S' =>
    rw [q] at z
    exact fun m' h' c e => g a S' m' h' q c e (z m' h' c e)
  | exc c S' => rw [q] at z; exact z
  | bad => rw [q] at z; exact z
theorem truth_st {d : D} {S S' : Store} {k : Bool} (h : truth d S = .ok k S') : S' = S := by
  unfold truth at h
  repeat' (first | (cases h <;> rfl) | split at h)
theorem bnd_assoc {α β γ : Type} {m : M α} {f : α → M β} {g : β → M γ} : bnd (bnd m f) g = bnd m fun a => bnd (f a) g := by
  funext S
  unfold bnd
  cases m S <;> rfl
section
variable {C : Ctl} {ρ : VM.Env}
theorem and_split {a b : Exp} : bnd (evE C (.and a b) ρ) truth = bnd (bnd (evE C a ρ) truth) fun k => if k then bnd (evE C b ρ) truth else ret false := by
  funext S
  show bnd (bnd (evE C a ρ) fun x => bnd (truth x) fun k => if k then evE C b ρ else ret x) truth S = _
  unfold bnd
  cases evE C a ρ S with
  | ok x S1 =>
    dsimp only
    cases q : truth x S1 with
    | ok k S2 =>
      have := truth_st q
      subst this
      cases k with
      | true => rfl
      | false => exact q
    | exc c S2 => rfl
    | bad => rfl
  | exc c S1 => rfl
  | bad => rfl
theorem or_split {a b : Exp} : bnd (evE C (.or a b) ρ) truth = bnd (bnd (evE C a ρ) truth) fun k => if k then ret true else bnd (evE C b ρ) truth := by
  funext S
  show bnd (bnd (evE C a ρ) fun x => bnd (truth x) fun k => if k then ret x else evE C b ρ) truth S = _
  unfold bnd
  cases evE C a ρ S with
  | ok x S1 =>
    dsimp only
    cases q : truth x S1 with
    | ok k S2 =>
      have := truth_st q
      subst this
      cases k with
      | true => exact q
      | false => rfl
    | exc c S2 => rfl
    | bad => rfl
  | exc c S1 => rfl
  | bad => rfl
theorem not_split {a : Exp} : bnd (evE C (.nt a) ρ) truth = bnd (bnd (evE C a ρ) truth) fun k => ret (!k) := by
  funext S
  show bnd (bnd (evE C a ρ) fun x => bnd (truth x) fun k => ret (.bl (!k))) truth S = _
  unfold bnd
  cases evE C a ρ S with
  | ok x S1 =>
    dsimp only
    cases q : truth x S1 with
    | ok k S2 => rfl
    | exc c S2 => rfl
    | bad => rfl
  | exc c S1 => rfl
  | bad => rfl
theorem if_split {a b d : Exp} : evE C (.ife a b d) ρ = bnd (bnd (evE C a ρ) truth) fun k => if k then evE C b ρ else evE C d ρ := by
  show bnd (evE C a ρ) (fun x => bnd (truth x) fun k => if k then evE C b ρ else evE C d ρ) = _
  rw [bnd_assoc]
theorem ok_ret {α : Type} {a b : α} {S S' : Store} (h : ret a S = .ok b S') : b = a ∧ S' = S := by cases h; exact ⟨rfl, rfl⟩
theorem opC_bl {o : COp} {x y d : D} {S S' : Store} (h : opC o x y S = .ok d S') : ∃ k, d = .bl k := by
  cases o with
  | eq => obtain ⟨p, S1, _, h⟩ := ok_bnd h; exact ⟨_, (ok_ret h).1⟩
  | ne => obtain ⟨p, S1, _, h⟩ := ok_bnd h; exact ⟨_, (ok_ret h).1⟩
  | lt => cases x <;> cases y <;> first | (cases h; done) | exact ⟨_, (ok_ret h).1⟩
  | le => cases x <;> cases y <;> first | (cases h; done) | exact ⟨_, (ok_ret h).1⟩
  | gt => cases x <;> cases y <;> first | (cases h; done) | exact ⟨_, (ok_ret h).1⟩
  | ge => cases x <;> cases y <;> first | (cases h; done) | exact ⟨_, (ok_ret h).1⟩
  | isin => obtain ⟨p, S1, _, h⟩ := ok_bnd h; exact ⟨_, (ok_ret h).1⟩
  | notin => obtain ⟨p, S1, _, h⟩ := ok_bnd h; exact ⟨_, (ok_ret h).1⟩
  | is => obtain ⟨p, S1, _, h⟩ := ok_bnd h; exact ⟨_, (ok_ret h).1⟩
  | isnot => obtain ⟨p, S1, _, h⟩ := ok_bnd h; exact ⟨_, (ok_ret h).1⟩
  | eqt =>
    have h : (match x, y with
      | .tup (.str a :: l), .tup [.str b] => ret (VM.D.bl (decide (a = b) && l.isEmpty))
      | _, _ => bad) S = .ok d S' := h
    split at h
    · exact ⟨_, (ok_ret h).1⟩
    · cases h
theorem cmp_bl {o : COp} {a b : Exp} {S S' : Store} {d : D} (h : evE C (.cmp o a b) ρ S = .ok d S') : ∃ k, d = .bl k := by
  have h : bnd (evE C a ρ) (fun x => bnd (evE C b ρ) fun y => opC o x y) S = .ok d S' := h
  obtain ⟨x, S1, _, h⟩ := ok_bnd h
  obtain ⟨y, S2, _, h⟩ := ok_bnd h
  exact opC_bl h
theorem cmp2_bl {o p : COp} {a b c : Exp} {S S' : Store} {d : D} (h : evE C (.cmp2 o p a b c) ρ S = .ok d S') : ∃ k, d = .bl k := by
  have h : bnd (evE C a ρ) (fun x => bnd (evE C b ρ) fun y => bnd (opC o x y) fun z => match z with
    | .bl true => bnd (evE C c ρ) fun w => opC p y w
    | .bl false => ret (.bl false)
    | _ => bad) S = .ok d S' := h
  obtain ⟨x, S1, _, h⟩ := ok_bnd h
  obtain ⟨y, S2, _, h⟩ := ok_bnd h
  obtain ⟨z, S3, hz, h⟩ := ok_bnd h
  obtain ⟨k, rfl⟩ := opC_bl hz
  cases k with
  | true =>
    obtain ⟨w, S4, _, h⟩ := ok_bnd (m := evE C c ρ) h
    exact opC_bl h
  | false => exact ⟨false, (ok_ret h).1⟩
end
section
variable {K : PySem.W.Frag} {T : Tab} {W : WX} {C : Ctl} {σ : L2.St} {H : Hp} {Q : VK}
theorem tt_bl {e : Exp} {R : Bool → Hp → Prop} (hb : ∀ ρ S d S', evE C e ρ S = .ok d S' → ∃ k, d = .bl k) (h : tT K T W C e σ H R) : tE K T W C e σ H fun x H' => ∃ k, x = .bl k ∧ R k H' := by
  obtain ⟨μ, S, ρ, c, er, h⟩ := h
  refine ⟨μ, S, ρ, c, er, Pst.thenE h fun d S' μ' H' e0 c' e' h' v rv => ?_⟩
  obtain ⟨k, rfl⟩ := hb _ _ _ _ e0
  cases rv
  exact ⟨k, rfl, Pst.now c' h'⟩
theorem read_var {i : Nat} (h : tE K T W C (.var i) σ H Q) : tVar i σ H Q := by
  obtain ⟨μ, S, ρ, c, er, h⟩ := h
  obtain ⟨d, hd, q⟩ := Pst.lft c h
  obtain ⟨v, hv, rv⟩ := er.var hd
  exact ⟨v, hv, q v rv⟩
theorem read_lit {d : D} {v : V} (r : ∀ μ H, Rep K μ H d v) (h : tE K T W C (.lit d) σ H Q) : tC v σ H Q := by
  obtain ⟨μ, S, ρ, c, er, h⟩ := h
  exact Pst.now c h v (r _ _)
theorem read_glob {g : Nat} {d : D} {v : V} (hg : C.glob g = some d) (r : ∀ μ H, Rep K μ H d v) (h : tE K T W C (.glob g) σ H Q) : tC v σ H Q := by
  obtain ⟨μ, S, ρ, c, er, h⟩ := h
  obtain ⟨d', hd, q⟩ := Pst.lft (o := C.glob g) c h
  rw [hg] at hd
  cases hd
  exact q v (r _ _)
theorem read_bin {f : D → D → M D} {a b e : Exp} (nf : ∀ x y, NoX (f x y)) (he : ∀ ρ, evE C e ρ = bnd (evE C a ρ) fun x => bnd (evE C b ρ) fun y => f x y) (h : tE K T W C e σ H Q) : tOp (rM K f) (tE K T W C a) (tE K T W C b) σ H Q := by
  obtain ⟨μ, S, ρ, c, er, h⟩ := h
  rw [he] at h
  refine ⟨μ, S, ρ, c, er, Pst.then h fun x S1 μ1 H1 c1 e1 h1 xv rx => ⟨μ1, S1, ρ, c1, er.ext e1, Pst.then h1 fun y S2 μ2 H2 c2 e2 h2 yv ry => ⟨μ2, S2, x, y, c2, rx.ext e2, ry, Pst.nox (nf x y) h2⟩⟩⟩
theorem read_neg {a : Exp} (h : tE K T W C (.neg a) σ H Q) : tUn (rU fun i => .int (-i)) (tE K T W C a) σ H Q := by
  obtain ⟨μ, S, ρ, c, er, h⟩ := h
  refine ⟨μ, S, ρ, c, er, Pst.then h fun x S1 μ1 H1 c1 e1 h1 xv rx => ?_⟩
  cases rx with
  | int i => exact ⟨i, rfl, Pst.now c1 h1 _ (.int _)⟩
  | _ => exact h1.elim
theorem read_cmp2 {o p : COp} {a b d : Exp} (h : tE K T W C (.cmp2 o p a b d) σ H Q) : tChain (rM K (opC o)) (rM K (opC p)) (tE K T W C a) (tE K T W C b) (tE K T W C d) σ H Q := by
  obtain ⟨μ, S, ρ, c, er, h⟩ := h
  refine ⟨μ, S, ρ, c, er, Pst.then h fun x S1 μ1 H1 c1 e1 h1 xv rx => ⟨μ1, S1, ρ, c1, er.ext e1, Pst.then h1 fun y S2 μ2 H2 c2 e2 h2 yv ry => ⟨μ2, S2, x, y, c2, rx.ext e2, ry, Pst.nox (nox_opC o x y) (Pst.thenE h2 fun z S3 μ3 H3 e0 c3 e3 h3 zv rz => ?_)⟩⟩⟩
  obtain ⟨k, rfl⟩ := opC_bl e0
  cases rz
  refine ⟨k, rfl, ?_⟩
  cases k with
  | true =>
    exact ⟨μ3, S3, ρ, c3, ((er.ext e1).ext e2).ext e3, Pst.then (m := evE C d ρ) h3 fun w S4 μ4 H4 c4 e4 h4 wv rw' => ⟨μ4, S4, y, w, c4, (ry.ext e3).ext e4, rw', Pst.nox (nox_opC p y w) h4⟩⟩
  | false => exact Pst.now c3 h3 _ (.bl _)
theorem read_tup {es : Exps} (h : tE K T W C (.tup es) σ H Q) : tTup (tA K T W C es) σ H Q := by
  obtain ⟨μ, S, ρ, c, er, h⟩ := h
  refine ⟨μ, S, ρ, c, er, Pst.then h fun l S1 μ1 H1 c1 e1 h1 vs rs => ?_⟩
  obtain ⟨hl, h2⟩ := Pst.ite h1
  refine ⟨by rw [← rs.length, ← big_eq]; exact hl, fun p hp => ?_⟩
  have cs := c1.side (u := .tup vs) hp
  exact Pst.now cs.2 (Pst.ext h2 cs.1) _ (.tup (.inl (.inl upd_same)) (rs.ext cs.1))
theorem read_lst {es : Exps} (h : tE K T W C (.lst es) σ H Q) : tLst (tA K T W C es) σ H Q := by
  obtain ⟨μ, S, ρ, c, er, h⟩ := h
  refine ⟨μ, S, ρ, c, er, Pst.then h fun l S1 μ1 H1 c1 e1 h1 vs rs => ?_⟩
  obtain ⟨hl, h2⟩ := Pst.ite h1
  refine ⟨by rw [← rs.length, ← big_eq]; exact hl, fun p hp => ?_⟩
  exact Pst.newO c1 hp (Pst.nox (nox_new _) h2) fun μ' H' e q => ⟨vs, q, rs.ext e⟩
theorem read_dct0 (h : tE K T W C .dct0 σ H Q) : tDNewK σ H Q := by
  obtain ⟨μ, S, ρ, c, er, h⟩ := h
  intro p hp
  exact Pst.newO c hp (Pst.nox (nox_new _) h) fun μ' H' e q => ⟨[], q, .nil⟩
theorem read_sl {a : Exp} {lo hi : Part} (h : tE K T W C (.sl a lo hi) σ H Q) : tSl (rSlM K) (tE K T W C a) (tP K T W C lo) (tP K T W C hi) σ H Q := by
  obtain ⟨μ, S, ρ, c, er, h⟩ := h
  refine ⟨μ, S, ρ, c, er, Pst.then h fun x S1 μ1 H1 c1 e1 h1 xv rx => ⟨μ1, S1, ρ, c1, er.ext e1, Pst.then h1 fun l S2 μ2 H2 c2 e2 h2 => ⟨μ2, S2, ρ, c2, (er.ext e1).ext e2, Pst.then h2 fun u S3 μ3 H3 c3 e3 h3 => ⟨μ3, S3, x, c3, (rx.ext e2).ext e3, Pst.nox (nox_opSl x l u) h3⟩⟩⟩⟩
theorem read_bif {f : List D → M D} {es : Exps} {e : Exp} (nf : ∀ l, NoX (f l)) (he : ∀ ρ, evE C e ρ = bnd (evs C es ρ) fun vs => f vs) (h : tE K T W C e σ H Q) : tCB (rB K f) (tA K T W C es) σ H Q := by
  obtain ⟨μ, S, ρ, c, er, h⟩ := h
  rw [he] at h
  exact ⟨μ, S, ρ, c, er, Pst.then h fun l S1 μ1 H1 c1 e1 h1 vs rs => ⟨μ1, S1, l, c1, rs, Pst.nox (nf l) h1⟩⟩
theorem read_call {P : Prg} {k i : Nat} {es : Exps} (h : tE K T W (ctl P k) (.call i es) σ H Q) : tCallS (spOf T K P k i) (WE W) (tA K T W (ctl P k) es) σ H Q := by
  obtain ⟨μ, S, ρ, c, er, h⟩ := h
  exact ⟨μ, S, ρ, c, er, Pst.then h fun l S1 μ1 H1 c1 e1 h1 vs rs => ⟨μ1, S1, l, c1, rs, h1⟩⟩
theorem read_nil {R : List V → Hp → Prop} (h : tA K T W C .nil σ H R) : tNil σ H R := by
  obtain ⟨μ, S, ρ, c, er, h⟩ := h
  exact Pst.now c h _ .nil
theorem read_cons {a : Exp} {r : Exps} {R : List V → Hp → Prop} (h : tA K T W C (.cons a r) σ H R) : tCons (tE K T W C a) (tA K T W C r) σ H R := by
  obtain ⟨μ, S, ρ, c, er, h⟩ := h
  refine ⟨μ, S, ρ, c, er, Pst.then h fun d S1 μ1 H1 c1 e1 h1 x rx => ⟨μ1, S1, ρ, c1, er.ext e1, (Pst.bnd h1).imp ?_ fun _ _ z => z⟩⟩
  exact fun ds S2 μ2 H2 c2 e2 h2 xs rxs => Pst.now c2 h2 _ (.cons (rx.ext e2) rxs)
theorem read_and {a b : Exp} {X : Cx} (hK : X.K = K) (h : tE K T W C (.and a b) σ H Q) : tAndT K (tE K T W C a) (tE K T W C b) σ H Q := by
  subst hK
  obtain ⟨μ, S, ρ, c, er, h⟩ := h
  refine ⟨μ, S, ρ, c, er, Pst.then h fun x S1 μ1 H1 c1 e1 h1 xv rx => ?_⟩
  obtain ⟨k, hk, h2⟩ := truth_V c1 rx h1
  refine ⟨k, hk, ?_⟩
  cases k with
  | true => exact ⟨μ1, S1, ρ, c1, er.ext e1, h2⟩
  | false => exact Pst.now c1 h2 _ rx
theorem read_or {a b : Exp} {X : Cx} (hK : X.K = K) (h : tE K T W C (.or a b) σ H Q) : tOrT K (tE K T W C a) (tE K T W C b) σ H Q := by
  subst hK
  obtain ⟨μ, S, ρ, c, er, h⟩ := h
  refine ⟨μ, S, ρ, c, er, Pst.then h fun x S1 μ1 H1 c1 e1 h1 xv rx => ?_⟩
  obtain ⟨k, hk, h2⟩ := truth_V c1 rx h1
  refine ⟨k, hk, ?_⟩
  cases k with
  | true => exact Pst.now c1 h2 _ rx
  | false => exact ⟨μ1, S1, ρ, c1, er.ext e1, h2⟩
theorem read_nt {a : Exp} {X : Cx} (hK : X.K = K) (h : tE K T W C (.nt a) σ H Q) : tNotT K (tE K T W C a) σ H Q := by
  subst hK
  obtain ⟨μ, S, ρ, c, er, h⟩ := h
  refine ⟨μ, S, ρ, c, er, Pst.then h fun x S1 μ1 H1 c1 e1 h1 xv rx => ?_⟩
  obtain ⟨k, hk, h2⟩ := truth_V c1 rx h1
  exact ⟨k, hk, Pst.now c1 h2 _ (.bl _)⟩
theorem read_andT {a b : Exp} {R : Bool → Hp → Prop} (h : tT K T W C (.and a b) σ H R) : tAnd (tT K T W C a) (tT K T W C b) σ H R := by
  obtain ⟨μ, S, ρ, c, er, h⟩ := h
  rw [and_split] at h
  refine ⟨μ, S, ρ, c, er, Pst.then h fun k S1 μ1 H1 c1 e1 h1 => ?_⟩
  cases k with
  | true => exact ⟨μ1, S1, ρ, c1, er.ext e1, h1⟩
  | false => exact Pst.now c1 h1
theorem read_orT {a b : Exp} {R : Bool → Hp → Prop} (h : tT K T W C (.or a b) σ H R) : tOr (tT K T W C a) (tT K T W C b) σ H R := by
  obtain ⟨μ, S, ρ, c, er, h⟩ := h
  rw [or_split] at h
  refine ⟨μ, S, ρ, c, er, Pst.then h fun k S1 μ1 H1 c1 e1 h1 => ?_⟩
  cases k with
  | true => exact Pst.now c1 h1
  | false => exact ⟨μ1, S1, ρ, c1, er.ext e1, h1⟩
theorem read_ntT {a : Exp} {R : Bool → Hp → Prop} (h : tT K T W C (.nt a) σ H R) : tNot (tT K T W C a) σ H R := by
  obtain ⟨μ, S, ρ, c, er, h⟩ := h
  rw [not_split] at h
  exact ⟨μ, S, ρ, c, er, Pst.then h fun k S1 μ1 H1 c1 e1 h1 => Pst.now c1 h1⟩
theorem read_ife {a b d : Exp} (h : tE K T W C (.ife a b d) σ H Q) : tIf (tT K T W C a) (tE K T W C b) (tE K T W C d) σ H Q := by
  obtain ⟨μ, S, ρ, c, er, h⟩ := h
  rw [if_split] at h
  refine ⟨μ, S, ρ, c, er, Pst.then h fun k S1 μ1 H1 c1 e1 h1 => ?_⟩
  cases k with
  | true => exact ⟨μ1, S1, ρ, c1, er.ext e1, h1⟩
  | false => exact ⟨μ1, S1, ρ, c1, er.ext e1, h1⟩
theorem read_mth {m : Mth} {a : Exp} {es : Exps} {X : Cx} (hK : X.K = K) (h : tE K T W C (.mth m a es) σ H Q) : tBM K "list" (rMt K m) (tE K T W C a) (tA K T W C es) σ H Q := by
  subst hK
  obtain ⟨μ, S, ρ, c, er, h⟩ := h
  refine ⟨μ, S, ρ, c, er, Pst.then h fun x S1 μ1 H1 c1 e1 h1 xv rx => ?_⟩
  obtain ⟨ht, h2⟩ := mthTy_V c1 rx h1
  exact ⟨ht, μ1, S1, ρ, c1, er.ext e1, Pst.then h2 fun l S2 μ2 H2 c2 e2 h3 vs rs => ⟨μ2, S2, x, l, c2, rx.ext e2, rs, Pst.nox (nox_mth m x l) h3⟩⟩
theorem read_isi {a : Exp} {ty : Nat} {X : Cx} (hK : X.K = K) (h : tE K T W C (.isi a ty) σ H Q) : tCB (rIsiN K) (tCons (tE K T W C a) (tCons (tC (.ty (tyNm ty))) tNil)) σ H Q := by
  subst hK
  obtain ⟨μ, S, ρ, c, er, h⟩ := h
  refine ⟨μ, S, ρ, c, er, Pst.then h fun x S1 μ1 H1 c1 e1 h1 xv rx => ?_⟩
  obtain ⟨t, b, h2, h3, h4⟩ := isi_V c1 rx h1
  exact ⟨xv, .ty (tyNm ty), t, _, b, .ty _, h2, h3, rfl, Pst.now c1 h4 _ (.bl _)⟩
theorem read_rng1 {a : Exp} {R : It → Hp → Prop} (h : tSr K T W C (.rng1 a) σ H R) : iRng1 (tCons (tE K T W C a) tNil) σ H R := by
  obtain ⟨μ, S, ρ, c, er, h⟩ := h
  refine ⟨μ, S, ρ, c, er, Pst.then h fun x S1 μ1 H1 c1 e1 h1 xv rx => ?_⟩
  cases rx with
  | int i =>
    obtain ⟨hb, h2⟩ := Pst.ite (b := rngOk i = true) h1
    unfold rngOk at hb
    rw [Bool.and_eq_true, decide_eq_true_eq, decide_eq_true_eq] at hb
    exact ⟨i, rfl, hb.1, hb.2, Pst.now c1 h2 _ (by exact seqIt_rng)⟩
  | _ => exact h1.elim
theorem read_rng2 {a b : Exp} {R : It → Hp → Prop} (h : tSr K T W C (.rng2 a b) σ H R) : iRng2 (tCons (tE K T W C a) (tCons (tE K T W C b) tNil)) σ H R := by
  obtain ⟨μ, S, ρ, c, er, h⟩ := h
  refine ⟨μ, S, ρ, c, er, Pst.then h fun x S1 μ1 H1 c1 e1 h1 xv rx => ⟨μ1, S1, ρ, c1, er.ext e1, Pst.then h1 fun y S2 μ2 H2 c2 e2 h2 yv ry => ?_⟩⟩
  cases x with
  | int i =>
    cases y with
    | int j =>
      cases rx
      cases ry
      obtain ⟨hb, h3⟩ := Pst.ite (b := (rngOk i && rngOk j) = true) h2
      unfold rngOk at hb
      simp only [Bool.and_eq_true, decide_eq_true_eq] at hb
      exact ⟨i, j, rfl, ⟨hb.1.1, hb.1.2, hb.2.1, hb.2.2⟩, Pst.now c2 h3 _ (by exact seqIt_rng)⟩
    | _ => exact h2.elim
  | _ => exact h2.elim
theorem seqIt_zipT {μ : List Addr} {a b : Addr} {l m : List D} {vs ws : List V} (q : SqT K H a vs) (r : Reps K μ H l vs) (q2 : SqT K H b ws) (r2 : Reps K μ H m ws) : SeqIt K (.fix ((l.zip m).map fun p => .tup [p.1, p.2])) (RZ.ItzT K a b) μ H := by
  intro μ' S' H' i c e
  have q' := e.tup _ _ q
  have r' := r.mon e
  have q2' := e.tup _ _ q2
  have r2' := r2.mon e
  constructor
  · intro d hd
    have hd : ((l.zip m).map fun p => D.tup [p.1, p.2])[i]? = some d := Option.some.inj hd
    rw [List.getElem?_map] at hd
    cases hz : (l.zip m)[i]? with
    | none => rw [hz] at hd; cases hd
    | some p =>
      rw [hz] at hd
      cases hd
      obtain ⟨h1, h2⟩ := List.getElem?_zip_eq_some.mp hz
      obtain ⟨v, hv, rv⟩ := r'.get h1
      obtain ⟨w, hw, rw'⟩ := r2'.get h2
      refine ⟨⟨vs, ws, v, w, q', q2', hv, hw⟩, ?_⟩
      rintro x H2 ⟨Tt, x', y', rfl, hT, rfl, hx, hy⟩
      have z1 := hx vs q'
      rw [hv] at z1
      cases z1
      have z2 := hy ws q2'
      rw [hw] at z2
      cases z2
      have cs := c.side (u := .tup [v, w]) hT
      exact ⟨cs.1, cs.2, .tup (.inl (.inl upd_same)) (.cons (rv.ext cs.1) (.cons (rw'.ext cs.1) .nil))⟩
  · intro hd
    have hd : ((l.zip m).map fun p => D.tup [p.1, p.2])[i]? = none := Option.some.inj hd
    have hl := List.getElem?_eq_none_iff.mp hd
    rw [List.length_map, List.length_zip] at hl
    refine ⟨vs, ws, q', q2', ?_⟩
    rw [← r'.length, ← r2'.length]
    omega
/-- a list or a tuple as it is walked beside another -/
def SeqZ (K : PySem.W.Frag) (q : Seq) (k : Bool) (a : Addr) (μ : List Addr) (H : Hp) : Prop := ∀ μ' S' H' i, Cor K μ' S' H' → Mon (K := K) μ H μ' H' →
  (∀ d, q.item S' i = some (some d) → ∃ vs v, VZ.SqK K k H' a vs ∧ vs[i]? = some v ∧ Rep K μ' H' d v) ∧ (q.item S' i = some none → ∃ vs, VZ.SqK K k H' a vs ∧ vs.length ≤ i)
theorem seqZ_fix {μ : List Addr} {a : Addr} {l : List D} {vs : List V} {k : Bool} (q : ∀ H', (∀ a xs, SqT K H a xs → SqT K H' a xs) → VZ.SqK K k H' a vs) (r : Reps K μ H l vs) : SeqZ K (.fix l) k a μ H := by
  intro μ' S' H' i c e
  have q' := q H' e.tup
  have r' := r.mon e
  constructor
  · intro d hd
    obtain ⟨v, hv, rv⟩ := r'.get (Option.some.inj hd)
    exact ⟨vs, v, q', hv, rv⟩
  · intro hd
    have hl := List.getElem?_eq_none_iff.mp (Option.some.inj hd)
    exact ⟨vs, q', by rw [← r'.length]; exact hl⟩
theorem seqZ_at {μ : List Addr} {n : Nat} {a : Addr} (hn : μ[n]? = some a) : SeqZ K (.at_ n) false a μ H := by
  intro μ' S' H' i c e
  obtain ⟨o, ho, ob⟩ := c.obj' (e.at_ _ _ hn)
  constructor
  · intro d hd
    have hd : (match S'[n]? with
      | some (.lst l) => some l[i]?
      | some (.ro l) => some l[i]?
      | _ => none) = some (some d) := hd
    rw [ho] at hd
    cases o with
    | lst l =>
      obtain ⟨vs, q, r⟩ := ob
      obtain ⟨v, hv, rv⟩ := r.get (Option.some.inj hd)
      exact ⟨vs, v, SqL.of q, hv, rv⟩
    | ro l =>
      obtain ⟨vs, o, q, r⟩ := ob
      obtain ⟨v, hv, rv⟩ := r.get (Option.some.inj hd)
      exact ⟨vs, v, .inl (.inr ⟨o, q⟩), hv, rv⟩
    | _ => cases hd
  · intro hd
    have hd : (match S'[n]? with
      | some (.lst l) => some l[i]?
      | some (.ro l) => some l[i]?
      | _ => none) = some none := hd
    rw [ho] at hd
    cases o with
    | lst l =>
      obtain ⟨vs, q, r⟩ := ob
      exact ⟨vs, SqL.of q, by rw [← r.length]; exact List.getElem?_eq_none_iff.mp (Option.some.inj hd)⟩
    | ro l =>
      obtain ⟨vs, o, q, r⟩ := ob
      exact ⟨vs, .inl (.inr ⟨o, q⟩), by rw [← r.length]; exact List.getElem?_eq_none_iff.mp (Option.some.inj hd)⟩
    | _ => cases hd
theorem SeqZ.mon {q : Seq} {k : Bool} {a : Addr} {μ μ' : List Addr} {H H' : Hp} (h : SeqZ K q k a μ H) (e : Mon (K := K) μ H μ' H') : SeqZ K q k a μ' H' := fun μ2 S2 H2 i c e2 => h μ2 S2 H2 i c (e.trans e2)
/-- of what may stand in a zip -/
theorem pst_seqZ {α : Type} {μ : List Addr} {S : Store} {d : D} {x : V} {f : Seq → M α} {R : α → Store → List Addr → Hp → Prop} {Wx : Nat → Hp → Prop} (c : Cor K μ S H) (rx : Rep K μ H d x) (h : Pst K μ H (bnd (seqZ d) f S) R Wx) :
    ∃ (k : Bool) (a : Addr) (vs : List V) (q : Seq), x = .ref a ∧ VZ.SqK K k H a vs ∧ SeqZ K q k a μ H ∧ Pst K μ H (f q S) R Wx := by
  cases rx with
  | @tup a vs ds q r => exact ⟨true, a, vs, .fix ds, rfl, q, seqZ_fix (k := true) (fun H' t => t _ _ q) r, h⟩
  | @kl a vs ds q r => exact ⟨false, a, vs, .fix ds, rfl, q _, seqZ_fix (k := false) (fun H' _ => q H') r, h⟩
  | @ref n a hn =>
    have h : Pst K μ H (bnd (lstOf n) (fun _ => f (.at_ n)) S) R Wx := by
      have e : bnd (seqZ (.ref n)) f S = bnd (lstOf n) (fun _ => f (.at_ n)) S := by
        show bnd (bnd (lstOf n) fun _ => ret (Seq.at_ n)) f S = _
        unfold bnd
        cases lstOf n S <;> rfl
      rw [← e]
      exact h
    obtain ⟨l, vs, q, r, h⟩ := pst_lst c hn h
    exact ⟨false, a, vs, .at_ n, rfl, q, seqZ_at hn, h⟩
  | _ => exact h.elim
theorem seqIt_zp {μ : List Addr} {q r : Seq} {k1 k2 : Bool} {a b : Addr} (h1 : SeqZ K q k1 a μ H) (h2 : SeqZ K r k2 b μ H) (w1 : ∃ vs, VZ.SqK K k1 H a vs) : SeqIt K (.zp q r) (VZ.ItzM K k1 k2 a b) μ H := by
  intro μ' S' H' i c e
  have p1 := h1 μ' S' H' i c e
  have p2 := h2 μ' S' H' i c e
  have inj : ∀ {k : Bool} {a : Addr} {vs ws : List V}, VZ.SqK K k H' a vs → VZ.SqK K k H' a ws → vs.length = ws.length → True := fun _ _ _ => trivial
  constructor
  · intro d hd
    have hd : (match q.item S' i, r.item S' i with
      | some (some a), some (some b) => some (some (D.tup [a, b]))
      | some none, some _ => some none
      | some _, some none => some none
      | _, _ => none) = some (some d) := hd
    cases e1 : q.item S' i with
    | none => rw [e1] at hd; cases hd
    | some o1 =>
      cases e2 : r.item S' i with
      | none => rw [e1, e2] at hd; cases o1 <;> cases hd
      | some o2 =>
        rw [e1, e2] at hd
        cases o1 with
        | none => cases o2 <;> cases hd
        | some d1 =>
          cases o2 with
          | none => cases hd
          | some d2 =>
            cases hd
            obtain ⟨vs, v, s1, hv, rv⟩ := p1.1 d1 e1
            obtain ⟨ws, w, s2, hw, rw'⟩ := p2.1 d2 e2
            refine ⟨⟨vs, ws, v, w, s1, s2, hv, hw⟩, ?_⟩
            rintro x H2 ⟨Tt, x', y', rfl, hT, rfl, hx, hy⟩
            have z1 := hx vs s1
            rw [hv] at z1
            cases z1
            have z2 := hy ws s2
            rw [hw] at z2
            cases z2
            have cs := c.side (u := .tup [v, w]) hT
            exact ⟨cs.1, cs.2, .tup (.inl (.inl upd_same)) (.cons (rv.ext cs.1) (.cons (rw'.ext cs.1) .nil))⟩
  · intro hd
    have hd : (match q.item S' i, r.item S' i with
      | some (some a), some (some b) => some (some (D.tup [a, b]))
      | some none, some _ => some none
      | some _, some none => some none
      | _, _ => none) = some none := hd
    cases e1 : q.item S' i with
    | none => rw [e1] at hd; cases hd
    | some o1 =>
      cases e2 : r.item S' i with
      | none => rw [e1, e2] at hd; cases o1 <;> cases hd
      | some o2 =>
        rw [e1, e2] at hd
        have g1 : ∃ vs, VZ.SqK K k1 H' a vs ∧ (o1 = none → vs.length ≤ i) := by
          cases o1 with
          | none => obtain ⟨vs, s1, l1⟩ := p1.2 e1; exact ⟨vs, s1, fun _ => l1⟩
          | some d1 => obtain ⟨vs, v, s1, _⟩ := p1.1 d1 e1; exact ⟨vs, s1, fun z => by cases z⟩
        have g2 : ∃ vs, VZ.SqK K k2 H' b vs ∧ (o2 = none → vs.length ≤ i) := by
          cases o2 with
          | none => obtain ⟨vs, s1, l1⟩ := p2.2 e2; exact ⟨vs, s1, fun _ => l1⟩
          | some d1 => obtain ⟨vs, v, s1, _⟩ := p2.1 d1 e2; exact ⟨vs, s1, fun z => by cases z⟩
        obtain ⟨vs, s1, l1⟩ := g1
        obtain ⟨ws, s2, l2⟩ := g2
        refine ⟨vs, ws, s1, s2, ?_⟩
        cases o1 with
        | none => exact .inl (l1 rfl)
        | some d1 =>
          cases o2 with
          | none => exact .inr (l2 rfl)
          | some d2 => cases hd
theorem read_zip {a b : Exp} {R : It → Hp → Prop} (h : tSr K T W C (.zip a b) σ H R) : VZ.iZipM K (tCons (tE K T W C a) (tCons (tE K T W C b) tNil)) σ H R := by
  obtain ⟨μ, S, ρ, c, er, h⟩ := h
  refine ⟨μ, S, ρ, c, er, Pst.then h fun x S1 μ1 H1 c1 e1 h1 xv rx => ⟨μ1, S1, ρ, c1, er.ext e1, Pst.then h1 fun y S2 μ2 H2 c2 e2 h2 yv ry => ?_⟩⟩
  have rx := rx.ext e2
  have go : ∀ x y xv yv, Rep K μ2 H2 x xv → Rep K μ2 H2 y yv → Pst K μ2 H2 (zipZ x y S2) (fun q _ μ' H' => ∀ J, SeqIt K q J μ' H' → R J H') (wx T W σ) → ∃ k1 k2 a b xs ys, [xv, yv] = [V.ref a, V.ref b] ∧ VZ.SqK K k1 H2 a xs ∧ VZ.SqK K k2 H2 b ys ∧ R (VZ.ItzM K k1 k2 a b) H2 := by
    intro x y xv yv rx ry h
    obtain ⟨k1, a, vs, q, rfl, s1, z1, h⟩ := pst_seqZ c2 rx h
    obtain ⟨k2, b, ws, r, rfl, s2, z2, h⟩ := pst_seqZ c2 ry h
    exact ⟨k1, k2, a, b, vs, ws, rfl, s1, s2, Pst.now c2 h _ (seqIt_zp z1 z2 ⟨vs, s1⟩)⟩
  cases x with
  | tup l =>
    cases y with
    | tup m =>
      cases rx with
      | tup q r =>
        cases ry with
        | tup q2 r2 => exact ⟨true, true, _, _, _, _, rfl, q, q2, Pst.now c2 h2 _ (seqIt_zipT q r q2 r2)⟩
    | _ => exact go _ _ _ _ rx ry h2
  | _ => exact go _ _ _ _ rx ry h2
theorem read_revl {a : Exp} {R : It → Hp → Prop} (h : tSr K T W C (.revl a) σ H R) : iRev K (tCons (tE K T W C a) tNil) σ H R := by
  obtain ⟨μ, S, ρ, c, er, h⟩ := h
  refine ⟨μ, S, ρ, c, er, Pst.then h fun x S1 μ1 H1 c1 e1 h1 xv rx => ?_⟩
  cases rx with
  | @ref n p hn =>
    obtain ⟨l, vs, q, r, h1⟩ := pst_mut c1 hn h1
    have lv := r.length
    refine ⟨p, vs, rfl, SqL.of q, Pst.now c1 h1 _ ?_⟩
    intro μ' S' H' i c e
    obtain ⟨o, ho, ob⟩ := c.obj' (e.at_ _ _ hn)
    constructor
    · intro d hd
      have hd : (match S'[n]? with
        | some (.lst l') => if i < l.length then (if l'.length = l.length then some l'[l.length - 1 - i]? else none) else some none
        | _ => none) = some (some d) := hd
      rw [ho] at hd
      cases o with
      | lst l' =>
        obtain ⟨ws, q', r'⟩ := ob
        dsimp only at hd
        by_cases hi : i < l.length
        · rw [if_pos hi] at hd
          by_cases hl : l'.length = l.length
          · rw [if_pos hl] at hd
            obtain ⟨v, hv, rv⟩ := r'.get (Option.some.inj hd)
            rw [lv] at hv
            refine ⟨⟨by omega, ws, v, SqL.of q', hv⟩, ?_⟩
            rintro x H2 ⟨rfl, hx⟩
            have := hx ws (SqL.of q')
            rw [hv] at this
            cases this
            exact ⟨.refl, c, rv⟩
          · rw [if_neg hl] at hd; cases hd
        · rw [if_neg hi] at hd; cases hd
      | _ => cases hd
    · intro hd
      have hd : (match S'[n]? with
        | some (.lst l') => if i < l.length then (if l'.length = l.length then some l'[l.length - 1 - i]? else none) else some none
        | _ => none) = some none := hd
      rw [ho] at hd
      cases o with
      | lst l' =>
        dsimp only at hd
        by_cases hi : i < l.length
        · rw [if_pos hi] at hd
          by_cases hl : l'.length = l.length
          · rw [if_pos hl] at hd
            have := List.getElem?_eq_none_iff.mp (Option.some.inj hd)
            omega
          · rw [if_neg hl] at hd; cases hd
        · show vs.length ≤ i
          omega
      | _ => cases hd
  | _ => exact h1.elim
theorem read_poN {R : Option Int → Hp → Prop} (h : tP K T W C .no σ H R) : tNoPart σ H R := by
  obtain ⟨μ, S, ρ, c, er, h⟩ := h
  exact Pst.now c h
theorem read_poS {a : Exp} {R : Option Int → Hp → Prop} (h : tP K T W C (.at_ a) σ H R) : tPart (tE K T W C a) σ H R := by
  obtain ⟨μ, S, ρ, c, er, h⟩ := h
  refine ⟨μ, S, ρ, c, er, Pst.then h fun x S1 μ1 H1 c1 e1 h1 xv rx => ?_⟩
  obtain ⟨o, ho, q⟩ := Pst.lft c1 h1
  cases rx with
  | int i => cases ho; exact ⟨i, rfl, q⟩
  | _ => cases ho
theorem read_if0 {R : Bool → Hp → Prop} (h : tI K T W C .nil σ H R) : tYes σ H R := by
  obtain ⟨μ, S, ρ, c, er, h⟩ := h
  exact Pst.now c h
theorem if_one {e : Exp} {ρ : VM.Env} : evIf C (.cons e .nil) ρ = bnd (evE C e ρ) truth := by
  show bnd (evE C e ρ) (fun d => bnd (truth d) fun k => if k then ret true else ret false) = _
  congr 1
  funext d
  have : (fun k => if k = true then ret true else ret false) = (ret : Bool → M Bool) := by
    funext k
    cases k <;> rfl
  rw [this, bnd_ret]
theorem read_if1 {a : Exp} {R : Bool → Hp → Prop} (h : tI K T W C (.cons a .nil) σ H R) : tT K T W C a σ H R := by
  obtain ⟨μ, S, ρ, c, er, h⟩ := h
  rw [if_one] at h
  exact ⟨μ, S, ρ, c, er, h⟩
end
end VM
namespace VM
open PySem L2 PySem.Spec PyProof.Rows
section
variable {P : Program} {w : World} {A : Around}
open Classical in
theorem fill_set {R : Result → Shared → Prop} {it a : Addr} {fp wr : List Addr} {G : Array GenState → Array GenState → Prop} {n : Nat} {Pv : Nat → Value → Prop} {St : Nat → Shared → Prop} (W : WalksS P w A.in1 it fp wr G n Pv St) (na : a ∉ fp) (zs : List Key) (hz : zs.length = n) (hn : n < 4000)
    (hv : ∀ i v, Pv i v → ∃ z, zs[i]? = some z ∧ RelV (kV (kS z)) v) :
    ∀ (m i : Nat) (s : Shared), i + m = n → St i s → (∃ ks, Told P w s.heap a ks ∧ ks.length = (seenK (zs.take i)).length ∧ ∀ j, j ∈ ks ↔ ∃ z ∈ zs.take i, j = kS z) →
      (∀ (s' : Shared) (ks : List L2.Key), Moved (a :: wr) G s s' → Told P w s'.heap a ks → ks.length = (seenK zs).length → (∀ j, j ∈ ks ↔ ∃ z ∈ zs, j = kS z) → R (.ok (.ret .none)) s') → codeAny (model P w) A (.builtin "set.update.loop" ⟨[.ref a, .ref it], []⟩) R s := by
  have nw : a ∉ wr := fun z => na (W.sub _ z)
  have inc : ∀ b ∈ wr, b ∈ a :: wr := fun b hb => .tail _ hb
  intro m
  induction m with
  | zero =>
    intro i s hi st ⟨ks, hS, hl, hF⟩ fin
    have e : i = n := hi
    rw [e] at st
    rw [List.take_of_length_le (show zs.length ≤ i by omega)] at hl hF
    refine codeAny_builtin PyProof.Rows.F.entry_set_update_loop ?_
    rw [Around.under_plainId PyProof.Rows.F.plain_set_update_loop]
    refine (show wpAny (model P w) A.in1 (pyNext (.ref it) >>= _) _ _ s from wpAny_bind (W.done s _ _ st fun s1 mv => ?_))
    exact (show wpAny (model P w) A.in1 (PySem.ret Value.none) _ _ s1 from wpAny_pure (fin s1 ks (mv.mono inc) (hS.mv fun o ho => mv.heap a o nw ho) hl hF))
  | succ m ih =>
    intro i s hi st ⟨ks, hS, hl, hF⟩ fin
    refine codeAny_builtin PyProof.Rows.F.entry_set_update_loop ?_
    rw [Around.under_plainId PyProof.Rows.F.plain_set_update_loop]
    refine (show wpAny (model P w) A.in1 (pyNext (.ref it) >>= _) _ _ s from wpAny_bind (W.item i s _ _ (by omega) st fun v s1 hp st1 mv => ?_))
    obtain ⟨z, ez, rz⟩ := hv i v hp
    have hS1 := hS.mv (h' := s1.heap) fun o ho => mv.heap a o nw ho
    have few := seenK_le (zs.take i)
    rw [List.length_take] at few
    refine (show wpAny (model P w) A.in1 (holding [v] (setAdd a v) >>= _) _ _ s1 from wpAny_bind (wpAny_holding ?_))
    unfold setAdd
    refine wpAny_holding (wpAny_bind ((mixKind P w).pyHash (k := kS z) (kV_is rz) ?_))
    refine gd_add (s := { s1 with toks := s1.toks + 1 }) (kV_is rz) (key_scan rz) hS1 (by show _ < 4096; omega) fun b2 h2 ks2 sb hS2 pk => ?_
    have tk : zs.take (i + 1) = zs.take i ++ [z] := by rw [List.take_add_one, ez]; rfl
    refine wpAny_pure ⟨plainId_quiet PyProof.Rows.F.plain_set_update_loop _, ih (i + 1) _ (by omega) (W.frame _ s1 _ _ st1 (Nat.le_succ _) fun b hb o e => ?_) ⟨ks2, hS2, ?_, ?_⟩ fun s2 F2 mv2 hS3 l3 h3 => ?_⟩
    · exact (sb.2 b fun q => na (by rw [← q]; exact hb)).trans e
    · rw [tk, seenK_snoc, pk.length_eq]
      by_cases q : z ∈ seenK (zs.take i)
      · rw [if_pos q, if_pos ((hF _).mpr ⟨z, mem_seenK.mp q, rfl⟩), hl]
      · have : ¬ kS z ∈ ks := fun y => by
          obtain ⟨k', hk', e⟩ := (hF _).mp y
          exact q (mem_seenK.mpr (by rw [kS_inj e]; exact hk'))
        rw [if_neg q, if_neg this, List.length_append, List.length_singleton, List.length_cons, hl]
    · intro j
      rw [tk, pk.mem_iff]
      have both : j ∈ (if kS z ∈ ks then ks else kS z :: ks) ↔ j ∈ ks ∨ j = kS z := by
        split
        · rename_i y
          exact ⟨.inl, fun x => x.elim id fun e => by rw [e]; exact y⟩
        · rw [List.mem_cons]
          exact Or.comm
      rw [both, hF]
      constructor
      · rintro (⟨k', h1, h2⟩ | y)
        · exact ⟨k', List.mem_append_left _ h1, h2⟩
        · exact ⟨z, List.mem_append_right _ (List.mem_singleton.mpr rfl), y⟩
      · rintro ⟨k', h1, h2⟩
        rcases List.mem_append.mp h1 with h1 | h1
        · exact .inl ⟨k', h1, h2⟩
        · rw [List.mem_singleton.mp h1] at h2
          exact .inr h2
    · exact fin s2 F2 (Moved.trans W.gtrans ((mv.mono inc).then_heap (Nat.le_succ _) fun b o hb e => (sb.2 b fun q => hb (by rw [q]; exact .head _)).trans e) mv2) hS3 l3 h3
end
section
variable {P : Program} {w : World} {A : Around} {E : Value → Shared → Prop} {s : Shared}
/-- the new set, as yet empty -/
def emp (b : Bool) : PySem.Obj := { cls := .type "set", dict := none, data := .set #[] 0 (.fresh 0 0 b) }
theorem set_list {l : Addr} {its : Array Value} {zs : List Key} {Q : Value → Shared → Prop} (calm : A.handled = none) (il : s.heap.IsList l its) (len : zs.length = its.size) (few : its.size < 4000) (hv : ∀ (i : Nat) (v : Value), its[i]? = some v → ∃ z, zs[i]? = some z ∧ RelV (kV (kS z)) v)
    (fin : ∀ (h' : Heap) (k : Nat) (ks : List L2.Key), Told P w h' s.heap.objs.size ks → ks.length = (seenK zs).length → (∀ j, j ∈ ks ↔ ∃ z ∈ zs, j = kS z) → (∀ b o, b < s.heap.objs.size → s.heap.get? b = some o → h'.get? b = some o) → Q (.ref s.heap.objs.size) { s with heap := h', toks := k }) :
    wpAny (model P w) A (call (.type "set") [.ref l]) Q E s := by
  have f1 := PySem.F.called_set.made
  have f2 := PySem.F.called_set.sub
  have f3 := PySem.F.called_set.notType
  have f4 := PySem.F.called_set.canCreate
  have f5 := PySem.F.typeCall_set_1 (.ref l)
  have ⟨_, _, f6⟩ := PySem.F.called_set.mro
  refine wpAny_call (codeAny_of_tree ?_); show wpAny (model P w) _ (callAny (.type "set") _) _ _ s
  refine wpAny_pure ⟨Code.quiet_builtin _ (by decide +kernel), ?_⟩; refine codeAny_builtin PySem.F.entry_type_call ?_
  rw [Around.under_plain (weight_type_call_type "set" [.ref l] []) rfl]
  repeat (any_goals (first | assumption | wp_step))
  refine codeAny_mono (code_set_led1 (.ref l) (E := E) (Q₁ := fun x t => x = .ref s.heap.objs.size ∧ t = { s with heap := s.heap.push (emp (!w.params.followText "set-order")) }) ⟨rfl, rfl⟩) fun r t hr => ?_
  match r, hr with
  | .error e, hr => exact hr
  | .ok (.ret x), hr =>
    obtain ⟨rfl, rfl⟩ := hr
    generalize eb : (!w.params.followText "set-order") = b
    have g0 : (s.heap.push (emp b)).get? s.heap.objs.size = some (emp b) := Heap.get?_push_size _ rfl
    have ty : Shared.TypeIs { s with heap := s.heap.push (emp b) } (.ref s.heap.objs.size) "set" := ⟨_, g0, rfl⟩
    have f7 := PySem.F.called_set.init.lookup
    have f8 := PySem.F.called_set.init.bind (.ref s.heap.objs.size)
    repeat (any_goals (first | assumption | wp_step))
    refine codeAny_mono (codeAny_call_builtin (R := wants (fun r t => r = .none ∧ ∃ (h' : Heap) (k : Nat) (ks : List L2.Key), t = { s with heap := h', toks := k } ∧ Told P w h' s.heap.objs.size ks ∧ ks.length = (seenK zs).length ∧ (∀ j, j ∈ ks ↔ ∃ z ∈ zs, j = kS z) ∧ ∀ b o, b < s.heap.objs.size → s.heap.get? b = some o → h'.get? b = some o) E)
      PySem.F.called_set.init.plain PySem.F.entry_set_init (check_set_init_1 ty ?_)) fun r2 t2 h2 => ?_
    · obtain ⟨⟨oc, od, oda, os⟩, ho, hc, nl, hd⟩ := il
      simp only at hc hd
      subst hc hd
      have ho1 : (s.heap.push (emp b)).get? l = some ⟨.type "list", od, .seq its nl, os⟩ := Heap.get?_push_of_some _ ho
      have il1 : (s.heap.push (emp b)).IsList l its := ⟨_, ho1, rfl, nl, rfl⟩
      have f9 := PySem.F.sub_list_set
      have f10 := PySem.F.sub_list_frozenset
      have f11 : (Value.type "list" == Value.type "dict") = false := by decide
      unfold Builtin.«set.__init__» noKeywords Builtin.Frozenset.updateFrom
      generalize ep : pyIter = PI
      wp_walk
      subst ep
      refine wpAny_pyIter_list il1 (wpAny_bind (wpAny_runValue ?_))
      have hl := Heap.lt_size ho
      have c3 : A.in1.in1.in1.handled = none := by simp [calm]
      have sz : (s.heap.push (emp b)).objs.size = s.heap.objs.size + 1 := Heap.size_push ..
      have n1 : l ≠ (s.heap.push (emp b)).objs.size := sz ▸ Nat.ne_of_lt (Nat.lt_succ_of_lt hl)
      have n2 : s.heap.objs.size ∉ [(s.heap.push (emp b)).objs.size, l] := fun z => by
        rcases List.mem_cons.mp z with z | z
        · exact Nat.ne_of_lt (Nat.lt_succ_self _) (z.trans sz)
        · exact Nat.ne_of_gt hl (List.mem_singleton.mp z)
      refine fill_set ((Walks.list c3 _ l n1 its).toS) n2 zs len few hv its.size 0 _ (by omega) ⟨⟨_, Heap.get?_push_size _ rfl, rfl, rfl⟩, il1.push _⟩ ⟨[], ?_, rfl, fun j => by simp⟩ fun s' ks mv hS hl2 hk2 => ?_
      · have tn := told_new (w := w) P s.heap
        rw [eb] at tn
        exact tn.mv fun o e => Heap.get?_push_of_some _ e
      · obtain ⟨h', g', d', k, o'⟩ := s'
        have e1 : g' = s.gens := mv.gens
        have e2 : d' = s.drawn := mv.drawn
        have e3 : o' = s.os := mv.os
        subst e1 e2 e3
        refine (show wpAny _ _ _ _ _ _ from wpAny_pure (show wpAny _ _ (PySem.ret Value.none) _ _ _ from wpAny_pure ⟨rfl, h', k, ks, rfl, hS, hl2, hk2, fun c o hc e => ?_⟩))
        refine mv.heap c o (fun z => ?_) (Heap.get?_push_of_some _ (Heap.get?_push_of_some _ e))
        rcases List.mem_cons.mp z with z | z
        · exact Nat.ne_of_lt hc z
        · exact Nat.ne_of_lt (Nat.lt_succ_of_lt hc) ((List.mem_singleton.mp z).trans sz)
    · match r2, h2 with
      | .error e, h2 => exact h2
      | .ok (.ret x), h2 =>
        obtain ⟨rfl, h', k, ks, rfl, hS, hl2, hk2, keep⟩ := h2
        repeat (any_goals (first | assumption | wp_step))
        exact fin h' k ks hS hl2 hk2 keep
      | .ok (.next), h2 => exact h2.elim
      | .ok (.brk), h2 => exact h2.elim
      | .ok (.cont), h2 => exact h2.elim
  | .ok (.next), hr => exact hr.elim
  | .ok (.brk), hr => exact hr.elim
  | .ok (.cont), hr => exact hr.elim
end
theorem back_at (n : Nat) : Builtin.Slice.sliceAdjust none none (-1) (n : Int) = ((n : Int) - 1, -1) := rfl
theorem back_many (n : Nat) : Builtin.Slice.slicePlaces ((n : Int) - 1) (-1) (-1) = n := by
  unfold Builtin.Slice.slicePlaces
  rw [if_neg (by decide)]
  by_cases h : (n : Int) - 1 > -1
  · rw [if_pos h, show (-(-1) : Int) = 1 from rfl, Int.ediv_one]; omega
  · rw [if_neg h]; omega
theorem fm_same {α β : Type} {f g : α → Option β} : ∀ l : List α, (∀ x ∈ l, f x = g x) → l.filterMap f = l.filterMap g
  | [], _ => rfl
  | a :: l, h => by rw [List.filterMap_cons, List.filterMap_cons, h a (by simp), fm_same l fun x hx => h x (by simp [hx])]
theorem back_pick (xs : Array Value) : ((List.range xs.size).filterMap fun (m : Nat) => xs[((xs.size : Int) - 1 + (m : Int) * (-1)).toNat]?).toArray = xs.toList.reverse.toArray := by
  have e : ((List.range xs.size).filterMap fun (m : Nat) => xs[((xs.size : Int) - 1 + (m : Int) * (-1)).toNat]?) = ((List.range xs.size).map fun m => xs.size - 1 - m).filterMap (xs[·]?) := by
    rw [List.filterMap_map]
    refine fm_same _ fun m hm => ?_
    have := List.mem_range.mp hm
    show xs[_]? = xs[xs.size - 1 - m]?
    rw [show ((xs.size : Int) - 1 + (m : Int) * (-1)).toNat = xs.size - 1 - m by omega]
  rw [e, PySem.W.krv_range, List.filterMap_reverse, PySem.W.krv_all]
section
variable {P : Program} {w : World} {A : Around} {E : Value → Shared → Prop} {s : Shared}
theorem tup_back {t sl : Addr} {its : Array Value} {u : Tok} {Q : Value → Shared → Prop} (ht : IsTup s.heap t its) (hs : s.heap.IsSliceOf sl .none .none (.int (-1) u)) (hz : its.size ≤ sizeLine)
    (h : Q (.ref s.heap.objs.size) { s with heap := s.heap.push { cls := .type "tuple", data := .seq its.toList.reverse.toArray } }) : wpAny (model P w) A (getItem (.ref t) (.ref sl)) Q E s := by
  obtain ⟨os, ho, hc, hd⟩ := id hs
  have fit : sizeOk (.seq its.toList.reverse.toArray) := by show its.toList.reverse.toArray.size ≤ sizeLine; simpa using hz
  have ty : s.TypeIs (.ref sl) "slice" := ⟨os, ho, hc⟩
  unfold getItem
  try with_reducible refine wpAny_holding ?_
  first | refine wpAny_bind (wpAny_pure ?_) | skip
  refine wpAny_bind (wpAny_sequenceKey ht.typeIs (by decide) (wpAny_bind (wpAny_callSpecial?_slot (name := Str.ofString "__getitem__") ht.typeIs PyProof.Rows.slot_tuple_getitem (wpAny_call_entry PyProof.Rows.slot_tuple_getitem ht.typeIs entry_tuple_getitem ?_ (args_tuple_getitem _ _)))))
  refine (show wpAny _ _ (Builtin.Tuple.tupleItemsOf (.ref t) >>= _) _ _ s from wpAny_bind (tupleItemsOf_ ht (wpAny_bind (wpAny_typeOf ty ?_))))
  rw [if_pos (by decide)]
  have sa : ∀ {Q2 : Int × Int × Nat → Shared → Prop} {A2 : Around} {E2 : Value → Shared → Prop}, Q2 ((its.size : Int) - 1, -1, its.size) s → wpAny (model P w) A2 (Builtin.Slice.sliceApplied (.ref sl) (pure (its.size : Int))) Q2 E2 s := fun {Q2 A2 E2} q => by
    unfold Builtin.Slice.sliceApplied Builtin.Slice.sliceFields
    refine wpAny_bind (wpAny_bind (wpAny_field ho hd (x := Value.none) rfl (wpAny_bind (wpAny_field ho hd (x := Value.none) rfl (wpAny_bind (wpAny_field ho hd (x := Value.int (-1) u) rfl (wpAny_pure (wpAny_bind (slicePart_int ?_)))))))))
    refine (show wpAny _ _ (if ((-1 : Int) == 0) = true then _ else _) _ _ s from ?_)
    rw [if_neg (by decide)]
    refine wpAny_bind (slicePart_none (wpAny_bind (slicePart_none (wpAny_bind (wpAny_pure ?_)))))
    refine (show wpAny _ _ (match Builtin.Slice.sliceAdjust none none (-1) (its.size : Int) with | (lo, hi) => pure (lo, (-1 : Int), Builtin.Slice.slicePlaces lo hi (-1))) _ _ s from ?_)
    rw [back_at]
    refine (show wpAny _ _ (pure ((its.size : Int) - 1, (-1 : Int), Builtin.Slice.slicePlaces ((its.size : Int) - 1) (-1) (-1))) _ _ s from ?_)
    rw [back_many]
    exact wpAny_pure q
  refine wpAny_bind (sa ?_)
  have no : ¬ (((its.size : Int) - 1 == 0 && (-1 : Int) == 1 && its.size == its.size) = true) := by simp
  refine (show wpAny _ _ (if ((its.size : Int) - 1 == 0 && (-1 : Int) == 1 && its.size == its.size) = true then _ else _) _ _ s from ?_)
  rw [if_neg no, back_pick]
  first
    | exact wpAny_bind (m := Builtin.Tuple.tupleExact _) (wpAny_newObj_type (wpAny_pure ⟨_, rfl, wpAny_pure h⟩) fit)
    | exact wpAny_bind (m := Builtin.Tuple.tupleExact _) (wpAny_newObj_type (wpAny_bind (wpAny_pure (wpAny_pure ⟨_, rfl, wpAny_pure h⟩))) fit)
    | exact wpAny_bind (wpAny_bind (m := Builtin.Tuple.tupleExact _) (wpAny_newObj_type (wpAny_pure (wpAny_pure ⟨_, rfl, wpAny_pure h⟩)) fit))
    | exact wpAny_bind (wpAny_bind (m := Builtin.Tuple.tupleExact _) (wpAny_newObj_type (wpAny_pure ⟨_, rfl, wpAny_pure h⟩) fit))
end
section
variable {X : Cx}
def tRevT (K : PySem.W.Frag) (te : TE) : TE := fun σ H Q => te σ H fun x H1 => ∃ (a : Addr) (xs : List V), x = .ref a ∧ SqT K H1 a xs ∧ ∀ p, H1 p = none → Q (.ref p) (upd H1 p (.tup xs.reverse))
theorem pe_revT {e : Expr} {te : TE} {k : Nat} {p1 p2 p3 pos : Pos} (he : PE X e te) : PE X (.Subscript e (.Slice none none (some (.UnaryOp .USub (.Constant (.int 1) k p1) p2)) p3) pos) (tRevT X.K te) := by
  refine ⟨fun pins s σ H Q I h => Subscript_ (thn (he.run pins s σ H _ I h) fun v s1 ⟨x, H1, I1, r1, a, xs, ex, hx, q⟩ => ?_)⟩
  subst ex
  obtain rfl : v = Value.ref a := r1
  have st : PO X (some (.UnaryOp .USub (.Constant (.int 1) k p1) p2)) (tPart (tUn (rU fun i => .int (-i)) (tC (.int 1)))) := po_some (pe_un un_neg pe_int)
  refine wpAny_Slice (thn (po_none.run pins s1 σ H1 (fun o J => o = none ∧ J = H1) I1 ⟨rfl, rfl⟩) fun vl s2 ⟨_, _, I2, pl, e1, e2⟩ => ?_)
  subst e1 e2
  refine thn (po_none.run pins s2 σ _ (fun o J => o = none ∧ J = _) I2 ⟨rfl, rfl⟩) fun vu s3 ⟨_, _, I3, pu, e1, e2⟩ => ?_
  subst e1 e2
  refine thn (st.run pins s3 σ _ (fun o J => o = some (-1) ∧ J = _) I3 ⟨1, rfl, -1, rfl, rfl, rfl⟩) fun vs s4 ⟨_, H4, I4, ps, e1, e2⟩ => ?_
  subst e1 e2
  have J : Inv X pins σ H4 { s4 with heap := s4.heap.push { cls := .type "slice", data := .fields #[vl, vu, vs] } } := I4.kept (t' := s4.toks) fun b ob q => Heap.get?_push_of_some _ q
  obtain ⟨its, r, tp, hz⟩ := J.tuple hx
  cases pl
  cases pu
  cases ps with
  | int i u =>
    refine (show wpAny (model X.prog X.w) X.A (subscriptTail e (.Slice none none (some (.UnaryOp .USub (.Constant (.int 1) k p1) p2)) p3) (.ref a) (.ref s4.heap.objs.size)) (EP X pins σ Q) X.xe _ from ?_)
    refine tail_any (ops := [.ref a, .ref s4.heap.objs.size]) tp.typeIs PyProof.Rows.slot_tuple_getitem.lookup ?_ (by with_unfolding_all rfl)
    refine tup_back tp (Heap.IsSliceOf.new _ .none .none (.int (-1) u)) (by rw [List.size_toArray, ← r.length]; exact hz) ?_
    refine ⟨.ref _, _, J.laid (t' := s4.toks) (o := .tup xs.reverse) (fun b ob q => Heap.get?_push_of_some _ q) (Nat.le_refl _) ?_, rfl, q _ (J.hok.fresh (Nat.le_refl _))⟩
    exact ⟨by rw [List.length_reverse]; exact hz, its.reverse, r.reverse, IsTup.new _ _⟩
/-- set(keys), a list -/
def rSetL (K : PySem.W.Frag) (P : Program) (w : World) : List V → Hp → VK → Prop := fun xs H Q => ∃ (l : Addr) (zs : List Key), xs = [V.ref l] ∧ SqL K H l (zs.map fun z => kV (kS z)) ∧ zs.length < 4000 ∧ ∀ a F, H a = none → (∀ j, F j = true ↔ ∃ z ∈ zs, j = kS z) → Q (.ref a) (upd H a (SetG P w a F (seenK zs).length))
theorem vals_keys : ∀ {zs : List Key} {us : List Value}, Vals (zs.map fun z => kV (kS z)) us → ∀ (i : Nat) (v : Value), us[i]? = some v → ∃ z, zs[i]? = some z ∧ RelV (kV (kS z)) v
  | [], _, .nil, _, _, h => by simp at h
  | z :: zs, _, .cons r t, 0, v, h => by simp at h; subst h; exact ⟨z, rfl, r⟩
  | z :: zs, _, .cons r t, i + 1, v, h => vals_keys t i v (by simpa using h)
theorem cr_setL (hc : X.calm = true) : CallR X (.type "set") (rSetL X.K X.prog X.w) := by
  rintro pins s σ H xs us Q I r ⟨l, zs, rfl, hl, hf, q⟩
  rw [Vals.ref1 r]
  obtain ⟨its, rv, pl, hz⟩ := I.list hl
  have len := rv.length
  rw [List.length_map] at len
  refine set_list (zs := zs) (I.ok.hd hc) pl.isList (by rw [List.size_toArray]; exact len) (by rw [List.size_toArray]; omega) (fun i v h => vals_keys rv i v (by simpa using h)) fun h' k ks T hl hk keep => ?_
  obtain ⟨F, tell⟩ : ∃ F : L2.Key → Bool, ∀ j, F j = true ↔ j ∈ ks := by
    classical
    exact ⟨fun j => decide (j ∈ ks), fun j => decide_eq_true_iff⟩
  exact ⟨.ref s.heap.objs.size, upd H s.heap.objs.size (SetG X.prog X.w s.heap.objs.size F (seenK zs).length), I.laid (t' := k) (fun b u e => keep b u (Heap.lt_size e) e) (Nat.le_refl _) (setG_new T tell hl), rfl, q _ F (I.hok.fresh (Nat.le_refl _)) fun j => (tell j).trans (hk j)⟩
end
end VM
set_option maxHeartbeats 8000000
namespace VM
open PySem L2 PySem.Spec PyProof.Rows
section
variable {X : Cx}
def tKget (ks : List (L2.Key × V)) (te : TE) : TE := fun σ H Q => te σ H fun y H1 => ∃ k, y = kV k ∧ Q ((valV ks k).getD .non) H1
def tKidx (ks : List (L2.Key × V)) (te : TE) : TE := fun σ H Q => te σ H fun y H1 => ∃ k v, y = kV k ∧ valV ks k = some v ∧ Q v H1
theorem pe_kget {y : PySem.Str} {yp apos cpos : Pos} {e : Expr} {ty : TE} {a : Addr} {ks : List (L2.Key × V)} {vs : List (L2.Key × Value)} (hg : Gl X y) (hm : X.mg y = some (.ref a)) (hd : (y == ("__debug__" : PySem.Str)) = false) (mod : (a == sysModules) = false) (rel : KV ks vs)
    (D : ∀ h : Heap, X.K.In h → h.DictOf (mixKind X.prog X.w) a vs) (he : PE X e ty) (m : M1 X (.Name y yp) "get" apos e cpos) : PE X (.Call (.Attribute (.Name y yp) "get" apos) [e] [] cpos) (tKget ks ty) := by
  refine ⟨fun pins s σ H Q I h => ?_⟩
  refine wpAny_Call_method m.base m.few m.line PySem.F.plainAttrs_dict PySem.F.slot_dict_get PySem.F.type_dict_get (ld_glob I hg hm ?_ hd)
  have dd := D s.heap I.kIn
  refine ⟨dd.typeIs, fun b q => ?_, ?_⟩
  · cases q
    obtain ⟨ob, _, _, h1, h2, _⟩ := dd
    exact ⟨ob, h1, h2.2.1⟩
  rw [m.trees]
  refine Calls.callWith_builtin rfl (Calls.evalArgs_plain (Calls.spliced_cons (thn (he.run pins s σ H _ I h) fun iv s2 ⟨y, H2, I2, ry, k, ey, q2⟩ => Calls.spliced_nil ?_)))
  subst ey
  have d2 := D s2.heap I2.kIn
  exact call_meetsIn PySem.F.slot_dict_get d2.typeIs PySem.F.entry_dict_get (PySem.F.args_dict_get_2 _ _) (meets_dict_get (mixKind X.prog X.w) a (kV_is ry) mod) ⟨_, d2.mapOf, _, H2, I2.tok _, (rel.val k).getD (show L2.RelV V.non Value.none from rfl), q2⟩
theorem pe_kidx {y : PySem.Str} {yp pos : Pos} {e : Expr} {ty : TE} {a : Addr} {ks : List (L2.Key × V)} {vs : List (L2.Key × Value)} (hg : Gl X y) (hm : X.mg y = some (.ref a)) (hd : (y == ("__debug__" : PySem.Str)) = false) (rel : KV ks vs)
    (D : ∀ h : Heap, X.K.In h → h.DictOf (mixKind X.prog X.w) a vs) (he : PE X e ty) (hs : NoSl e) : PE X (.Subscript (.Name y yp) e pos) (tKidx ks ty) := by
  refine ⟨fun pins s σ H Q I h => ?_⟩
  refine subD_of PySem.F.slot_dict_getitem.lookup hs (ld_glob I hg hm (thn (he.run pins s σ H _ I h) fun iv s2 ⟨y, H2, I2, ry, k, v, ey, hv, q2⟩ => ?_) hd)
  subst ey
  have d2 := D s2.heap I2.kIn
  obtain ⟨w', hw, rw'⟩ := RelO.some_of (v := v) (o := valueAt vs k) (by rw [← hv]; exact rel.val k)
  exact ⟨d2.typeIs, wpAny_getItem_of (kV_is ry) d2.mapOf hw ⟨v, H2, I2.tok _, rw', q2⟩⟩
theorem boot_min0 : bootBuiltins "min" = some (.builtin "min") := by decide +kernel
end
section
variable {T : Tab} {K : PySem.W.Frag} {W : WX} {C : Ctl} {σ : L2.St} {H : Hp} {Q : VK}
theorem read_kget {x : List Nat} {a : Exp} {kvs : List (Key × D)} {ks : List (L2.Key × V)} (hk : C.kd x = some kvs) (rk : ∀ μ H, KRep K μ H kvs ks) (h : tE K T W C (.kget x a) σ H Q) : tKget ks (tE K T W C a) σ H Q := by
  obtain ⟨μ, S, ρ, c, er, h⟩ := h
  obtain ⟨z, hz, h⟩ := Pst.lft c (Pst.bnd h)
  rw [hk] at hz
  cases hz
  refine ⟨μ, S, ρ, c, er, Pst.then h fun x S1 μ1 H1 c1 e1 h1 xv rx => ?_⟩
  obtain ⟨k, hk', h2⟩ := Pst.lft c1 (Pst.bnd h1)
  refine ⟨kS k, key_rep rx hk', Pst.now c1 h2 _ ?_⟩
  have q := kget_valV (k := k) (rk μ1 H1)
  cases e1 : kget kvs k with
  | none =>
    rw [e1] at q
    cases e2 : valV ks (kS k) with
    | none => exact .non
    | some v => rw [e2] at q; exact q.elim
  | some d =>
    obtain ⟨v, hv, rv⟩ := kget_some (rk μ1 H1) e1
    rw [hv]
    exact rv
theorem read_kidx {x : List Nat} {a : Exp} {kvs : List (Key × D)} {ks : List (L2.Key × V)} (hk : C.kd x = some kvs) (rk : ∀ μ H, KRep K μ H kvs ks) (h : tE K T W C (.kidx x a) σ H Q) : tKidx ks (tE K T W C a) σ H Q := by
  obtain ⟨μ, S, ρ, c, er, h⟩ := h
  obtain ⟨z, hz, h⟩ := Pst.lft c (Pst.bnd h)
  rw [hk] at hz
  cases hz
  refine ⟨μ, S, ρ, c, er, Pst.then h fun x S1 μ1 H1 c1 e1 h1 xv rx => ?_⟩
  obtain ⟨k, hk', h2⟩ := Pst.lft c1 (Pst.bnd h1)
  obtain ⟨d, hd, q⟩ := Pst.lft c1 h2
  obtain ⟨v, hv, rv⟩ := kget_some (rk μ1 H1) hd
  exact ⟨kS k, v, key_rep rx hk', hv, q _ rv⟩
theorem read_mn {a b : Exp} (h : tE K T W C (.mn a b) σ H Q) : tCB (fun xs H Q => ∃ i j, xs = [V.int i, V.int j] ∧ Q (.int (if j < i then j else i)) H) (tCons (tE K T W C a) (tCons (tE K T W C b) tNil)) σ H Q := by
  obtain ⟨μ, S, ρ, c, er, h⟩ := h
  refine ⟨μ, S, ρ, c, er, Pst.then h fun x S1 μ1 H1 c1 e1 h1 xv rx => ⟨μ1, S1, ρ, c1, er.ext e1, Pst.then h1 fun y S2 μ2 H2 c2 e2 h2 yv ry => ?_⟩⟩
  cases rx with
  | int i =>
    cases ry with
    | int j => exact ⟨i, j, rfl, Pst.now c2 h2 _ (.int _)⟩
    | _ => exact h2.elim
  | _ => exact h2.elim
/-- the items of a list or a tuple -/
theorem pst_seqD {α : Type} {μ : List Addr} {S : Store} {d : D} {x : V} {f : List D → M α} {R : α → Store → List Addr → Hp → Prop} {Wx : Nat → Hp → Prop} (c : Cor K μ S H) (rx : Rep K μ H d x) (h : Pst K μ H (bnd (seqD d) f S) R Wx) :
    ∃ (k : Bool) (a : Addr) (l : List D) (vs : List V), x = .ref a ∧ VZ.SqK K k H a vs ∧ Reps K μ H l vs ∧ Pst K μ H (f l S) R Wx := by
  cases rx with
  | @tup a vs ds q r => exact ⟨true, a, ds, vs, rfl, q, r, h⟩
  | @kl a vs ds q r => exact ⟨false, a, ds, vs, rfl, q _, r, h⟩
  | @ref n a hn =>
    obtain ⟨l, vs, q, r, h⟩ := pst_lst c hn h
    exact ⟨false, a, l, vs, rfl, q, r, h⟩
  | _ => exact h.elim
theorem zip_reps {μ : List Addr} {H' : Hp} : ∀ {xs ys : List V} {l m : List D} (ps : List Addr), Reps K μ H' l xs → Reps K μ H' m ys → ps.length = min xs.length ys.length →
    (∀ (j : Nat) (p : Addr) (x y : V), ps[j]? = some p → xs[j]? = some x → ys[j]? = some y → H' p = some (.tup [x, y])) → Reps K μ H' ((l.zip m).map fun p => D.tup [p.1, p.2]) (ps.map V.ref)
  | _, _, _, _, [], .nil, _, _, _ => .nil
  | _, _, _, _, _ :: _, .nil, _, hl, _ => by simp at hl
  | _, _, _, _, [], .cons _ _, .nil, _, _ => .nil
  | _, _, _, _, _ :: _, .cons _ _, .nil, hl, _ => by simp at hl
  | _, _, _, _, [], .cons _ _, .cons _ _, hl, _ => by simp at hl
  | v :: vs, w :: ws, _, _, p :: ps, .cons r rr, .cons q qq, hl, hp =>
    .cons (.tup (.inl (.inl (hp 0 p v w rfl rfl rfl))) (.cons r (.cons q .nil))) (zip_reps ps rr qq (by simp at hl; omega) fun j p x y h1 h2 h3 => hp (j + 1) p x y h1 h2 h3)
theorem keys_reps {μ : List Addr} {H' : Hp} : ∀ {l : List D} {ks : List Key} {xs : List V}, Paired (fun d k => keyOf d = some k) l ks → Reps K μ H' l xs → xs = (ks.map kS).map kV
  | [], _, _, .nil, .nil => rfl
  | d :: l, _, _, .cons h t, .cons r rs => by rw [key_rep r h, keys_reps t rs]; rfl
theorem zip_krep {μ : List Addr} {H' : Hp} : ∀ {ks : List Key} {m : List D} {ys : List V}, Reps K μ H' m ys → KRep K μ H' (ks.zip m) ((ks.map kS).zip ys)
  | [], _, _, _ => .nil
  | _ :: _, _, _, .nil => .nil
  | k :: ks, _, _, .cons r rs => .cons ⟨rfl, r⟩ (zip_krep rs)
theorem read_lzip {a b : Exp} (h : tE K T W C (.lzip a b) σ H Q) : VZ.tLz K (tCons (tE K T W C a) (tCons (tE K T W C b) tNil)) σ H Q := by
  obtain ⟨μ, S, ρ, c, er, h⟩ := h
  refine ⟨μ, S, ρ, c, er, Pst.then h fun x S1 μ1 H1 c1 e1 h1 xv rx => ⟨μ1, S1, ρ, c1, er.ext e1, Pst.then h1 fun y S2 μ2 H2 c2 e2 h2 yv ry => ?_⟩⟩
  obtain ⟨k1, p, l, vs, rfl, s1, r1, h3⟩ := pst_seqD c2 (rx.ext e2) h2
  obtain ⟨k2, q, m, ws, rfl, s2, r2, h4⟩ := pst_seqD c2 ry h3
  refine ⟨k1, k2, p, q, vs, ws, rfl, s1, s2, fun D ps H' hD ext hL hlen hp => ?_⟩
  obtain ⟨e3, c3⟩ := c2.keep (H' := H') ext
  have hm : D ∉ μ2 := c2.out hD
  have c4 := c3.adopt (o := .lst ((l.zip m).map fun p => VM.D.tup [p.1, p.2])) hm fun μ' mo => ⟨_, hL, (zip_reps ps (r1.ext e3) (r2.ext e3) hlen hp).mon mo⟩
  exact h4 _ _ c4 (e3.adopt hD) _ c3.adopt_ref
theorem read_dzip {a b : Exp} (h : tE K T W C (.dzip a b) σ H Q) : VZ.tDz K (tCons (tE K T W C a) (tCons (tE K T W C b) tNil)) σ H Q := by
  obtain ⟨μ, S, ρ, c, er, h⟩ := h
  refine ⟨μ, S, ρ, c, er, Pst.then h fun x S1 μ1 H1 c1 e1 h1 xv rx => ⟨μ1, S1, ρ, c1, er.ext e1, Pst.then h1 fun y S2 μ2 H2 c2 e2 h2 yv ry => ?_⟩⟩
  obtain ⟨k1, p, l, vs, rfl, s1, r1, h3⟩ := pst_seqD c2 (rx.ext e2) h2
  obtain ⟨k2, q, m, ws, rfl, s2, r2, h4⟩ := pst_seqD c2 ry h3
  obtain ⟨ks, hk, h5⟩ := Pst.lft c2 (Pst.bnd h4)
  have ev := keys_reps (mapM_some hk) r1
  refine ⟨k1, k2, p, q, vs, ws, rfl, s1, s2, ks.map kS, ev, fun D hD => Pst.newO c2 hD (Pst.nox (nox_new _) h5) fun μ' H' e z => ⟨_, z, merge_rep ((zip_krep r2).ext e) .nil⟩⟩
theorem read_ixm {a b : Exp} {X : Cx} (hK : X.K = K) (h : tE K T W C (.ixm a b) σ H Q) : tBM K "list" (rIndexD K) (tE K T W C a) (tCons (tE K T W C b) tNil) σ H Q := by
  subst hK
  obtain ⟨μ, S, ρ, c, er, h⟩ := h
  refine ⟨μ, S, ρ, c, er, Pst.then h fun x S1 μ1 H1 c1 e1 h1 xv rx => ?_⟩
  obtain ⟨ht, h2⟩ := mthTy_V c1 rx h1
  refine ⟨ht, μ1, S1, ρ, c1, er.ext e1, Pst.then h2 fun y S2 μ2 H2 c2 e2 h3 yv ry => ?_⟩
  have rx2 := rx.ext e2
  have h4 : Pst X.K μ2 H2 (match deep S2 dpt x, deep S2 dpt y with
    | some (.list qs), some p => if SeqAt.shaped p && SeqAt.shaped (.list qs) then (match qs.findIdx? fun z => PyData.eqv z p with
      | some j => Out.ok (D.int j) S2
      | none => .bad) else .bad
    | _, _ => .bad) _ _ := h3
  clear h3 h2 h1
  cases d1 : deep S2 dpt x with
  | none => rw [d1] at h4; exact h4.elim
  | some px =>
    cases d2 : deep S2 dpt y with
    | none => rw [d1, d2] at h4; cases px <;> exact h4.elim
    | some p =>
      rw [d1, d2] at h4
      have dx := deep_dp c2 dpt x xv _ rx2 d1
      have dy := deep_dp c2 dpt y yv _ ry d2
      cases px with
      | list qs =>
        dsimp only at h4
        by_cases hs : (SeqAt.shaped p && SeqAt.shaped (.list qs)) = true
        · rw [if_pos hs] at h4
          obtain ⟨s1, s2⟩ := and2 hs
          cases hf : qs.findIdx? fun z => PyData.eqv z p with
          | none => rw [hf] at h4; exact h4.elim
          | some j =>
            rw [hf] at h4
            have h4 := h4 _ _ c2 .refl _ (.int _)
            obtain ⟨hj, hq, hno⟩ := List.findIdx?_eq_some_iff_getElem.mp hf
            have xr : ∃ a, xv = V.ref a := by
              cases rx with
              | @ref n a hn => exact ⟨a, rfl⟩
              | @kl a vs ds q r => exact ⟨a, rfl⟩
              | @tup a vs ds q r => exact ⟨a, rfl⟩
              | @exc n c a oe vs => exact ⟨_, rfl⟩
              | _ => exact absurd d1 (by intro z; cases z)
            obtain ⟨a, rfl⟩ := xr
            exact ⟨a, yv, p, qs, j, qs[j], rfl, rfl, dx, dy, s2, s1, List.getElem?_eq_getElem hj, hq, fun m z hm hz => by
              obtain ⟨h4, e4⟩ := List.getElem?_eq_some_iff.mp hz
              have := hno m hm
              rw [e4] at this
              simpa using this, h4⟩
        · rw [if_neg hs] at h4; exact h4.elim
      | _ => exact h4.elim
/-- the invariant of a dict's comprehension -/
structure CD (K : PySem.W.Frag) (q : Seq) (step : D → List (Key × D) → M (List (Key × D))) (l : List (Key × D)) (Sl : Store) (μ1 : List Addr) (H1 : Hp) (Dl : Addr) (i f : Nat) (H' : Hp) : Prop where
  ex : ∃ μ' S' acc vs, Cor K μ' S' H' ∧ Ext K μ1 H1 μ' H' ∧ Dl ∉ μ' ∧ H' Dl = some (.dK vs) ∧ KRep K μ' H' acc vs ∧ cmpI q step f i acc S' = .ok l Sl
theorem read_dc {own : List Nat} {tg : Tg} {src : Src} {ifs : Exps} {ek ev : Exp} (hsub : ∀ i ∈ tgs tg, i ∈ own) (h : tE K T W C (.dc own tg src ifs ek ev) σ H Q) :
    tDc (tSr K T W C src) (tG K tg) (tI K T WF C ifs) (tE K T WF C ek) (tE K T WF C ev) own σ H Q := by
  obtain ⟨μ, S, ρ, c, er, h⟩ := h
  refine ⟨μ, S, ρ, c, er, Pst.then h fun q S1 μ1 H1 c1 e1 h1 J hJ Dl hD => ?_⟩
  obtain ⟨l, Sl, hl, h1⟩ := pst_noExc (m := cmpI q _ (q.size S1 + 1) 0 []) h1
  have hmD : Dl ∉ μ1 := c1.out hD
  refine ⟨fun i m H' => CD K q _ l Sl μ1 H1 Dl i m H', ⟨q.size S1 + 1, ⟨μ1, S1, [], [], (c1.side hD).2, (c1.side hD).1, hmD, upd_same, .nil, hl⟩⟩, ?_⟩
  rintro i m H' ⟨μ', S', acc, vs, c', e', hm', hH', r', hc⟩
  obtain ⟨f', rfl, ⟨hi, rfl, rfl⟩ | ⟨d, acc', S2, hi, hst, hc'⟩⟩ := cmpI_ok hc
  · refine .inl ⟨(hJ μ' _ H' i c' e'.mon).2 hi, ?_⟩
    have c2 := c'.adopt (o := .dk l) hm' fun μ2 mo => ⟨vs, hH', r'.mon mo⟩
    exact h1 _ _ c2 (e'.adopt hD) _ c'.adopt_ref
  · obtain ⟨go, yl⟩ := (hJ μ' _ H' i c' e'.mon).1 d hi
    refine .inr ⟨go, fun H2 => CD K q _ l Sl μ1 H1 Dl (i + 1) f' H2, fun H2 w => ⟨f', Nat.lt_succ_self _, w⟩, fun x H2 y => ?_⟩
    obtain ⟨e2, c2, rd⟩ := yl x H2 y
    obtain ⟨ρ', S3, hb, hst⟩ := ok_bnd hst
    obtain ⟨hb, e3⟩ := ok_lft hb
    rw [e3] at hst
    obtain ⟨b, S4, hk, hst⟩ := ok_bnd hst
    have er2 : EnvR K μ' H2 (wip ρ own) (wipe σ own) := (((er.ext e1).ext e').ext e2).wip own
    refine ⟨μ', wip ρ own, d, ρ', er2, rd, hb, fun σ2 er3 fr hlen => ⟨?_, ?_⟩⟩
    · exact (wipe_eq (fun j hj => fr j fun z => hj (hsub j z)) hlen).trans wipe_wipe
    · refine ⟨μ', S', ρ', c2, er3, Pst.of_ok hk fun μ4 H4 c4 e4 => ?_⟩
      have hD4 : H4 Dl = some (.dK vs) := e4.fr _ _ hm' (e2.fr _ _ hm' hH')
      have hm4 : Dl ∉ μ4 := e4.out (e2.fr _ _ hm' hH') hm'
      have e14 : Ext K μ1 H1 μ4 H4 := (e'.trans e2).trans e4
      have r4 : KRep K μ4 H4 acc vs := (r'.ext e2).ext e4
      cases b with
      | false =>
        cases hst
        show CD K q _ l Sl μ1 H1 Dl (i + 1) f' H4
        exact ⟨μ4, _, _, vs, c4, e14, hm4, hD4, r4, hc'⟩
      | true =>
        obtain ⟨kd, S5, hkd, hst⟩ := ok_bnd hst
        obtain ⟨kk, S6, hkk, hst⟩ := ok_bnd hst
        obtain ⟨hkk, e6⟩ := ok_lft hkk
        rw [e6] at hst
        obtain ⟨yd, S7, hyd, hst⟩ := ok_bnd hst
        obtain ⟨hz, hst⟩ := ok_ite hst
        cases hst
        refine ⟨μ4, S4, ρ', c4, er3.ext e4, Pst.of_ok hkd fun μ5 H5 c5 e5 kv rk => ?_⟩
        have hD5 : H5 Dl = some (.dK vs) := e5.fr _ _ hm4 hD4
        have hm5 : Dl ∉ μ5 := e5.out hD4 hm4
        refine ⟨μ5, S5, ρ', c5, (er3.ext e4).ext e5, Pst.of_ok hyd fun μ6 H6 c6 e6 yv ry => ?_⟩
        have hD6 : H6 Dl = some (.dK vs) := e6.fr _ _ hm5 hD5
        have hm6 : Dl ∉ μ6 := e6.out hD5 hm5
        have r6 : KRep K μ6 H6 acc vs := (r4.ext e5).ext e6
        refine ⟨vs, kS kk, key_rep rk hkk, hD6, by rw [← Paired.length r6, ← big_eq]; exact hz, ?_⟩
        obtain ⟨c7, mo⟩ := c6.over (u := .dK (putK vs (kS kk) yv)) hm6 (fun o u z => by rw [hD6] at z; cases z) fun xs z => by
          rcases z with z | ⟨o, z⟩
          · rw [hD6] at z; cases z
          · rw [hD6] at z; cases z
        exact ⟨μ6, _, _, _, c7, ((e14.trans e5).trans e6).over hD, hm6, upd_same, (kput_rep ry r6).mon mo, hc'⟩
end
end VM
namespace VM
open PySem L2 PySem.Spec PyProof.Rows
section
variable {T : Tab} {K : PySem.W.Frag} {W : WX} {C : Ctl} {σ : L2.St} {H : Hp} {Q : VK}
theorem nox_swR (x y z : D) : NoX (swR x y z) := by
  unfold swR
  split
  · exact nox_ret _
  · exact nox_bad
theorem nox_jnR (x y : D) : NoX (jnR x y) := by
  unfold jnR
  split
  · refine nox_bnd (nox_lstOf _) fun _ => nox_bnd (nox_lft _) fun _ => ?_
    split <;> first | exact nox_ret _ | exact nox_bad
  · exact nox_bad
theorem read_swi {a b d : Exp} (h : tE K T W C (.swi a b d) σ H Q) : tBM K "str" (fun x xs H Q => ∃ (a b : PySem.Str) (i : Int), x = V.str a ∧ xs = [V.str b, V.int i] ∧ Q (.bl (Txt.startswith3 a b i)) H) (tE K T W C a) (tCons (tE K T W C b) (tCons (tE K T W C d) tNil)) σ H Q := by
  obtain ⟨μ, S, ρ, c, er, h⟩ := h
  refine ⟨μ, S, ρ, c, er, Pst.then h fun x S1 μ1 H1 c1 e1 h1 xv rx => ?_⟩
  cases rx with
  | str w =>
    have h1 := Pst.now c1 (Pst.bnd h1)
    refine ⟨rfl, μ1, S1, ρ, c1, er.ext e1, Pst.then h1 fun y S2 μ2 H2 c2 e2 h2 yv ry => ⟨μ2, S2, ρ, c2, (er.ext e1).ext e2, Pst.then h2 fun z S3 μ3 H3 c3 e3 h3 zv rz => ?_⟩⟩
    have h3 : Pst K μ3 H3 (swR (.str w) y z S3) _ W0 := Pst.nox (nox_swR _ _ _) h3
    cases ry with
    | str b =>
      cases rz with
      | int i => exact ⟨st w, st b, i, rfl, rfl, Pst.now c3 h3 _ (.bl _)⟩
      | _ => exact h3.elim
    | _ => exact h3.elim
  | _ => exact (Pst.bnd h1).elim
theorem strs_vals {μ : List Addr} {H : Hp} : ∀ {l : List D} {ys : List (List Nat)} {vs : List V}, Paired (fun d y => strD d = some y) l ys → Reps K μ H l vs → vs = (ys.map st).map V.str
  | [], _, _, .nil, .nil => rfl
  | d :: l, _, _, .cons h t, .cons r rs => by
    cases d <;> first | (cases h; done) | skip
    cases h
    cases r
    rw [strs_vals t rs]
    rfl
theorem read_jn {a b : Exp} (h : tE K T W C (.jn a b) σ H Q) : tM1 (fun x xs H Q => ∃ a p, ∃ ys : List PySem.Str, x = V.str a ∧ xs = [V.ref p] ∧ (SqL K H p (ys.map V.str) ∨ SqT K H p (ys.map V.str)) ∧ (ys.map (·.length)).sum + ys.length * a.length ≤ 16777216 ∧ Q (.str (Txt.join a ys)) H) (tE K T W C a) (tE K T W C b) σ H Q := by
  obtain ⟨μ, S, ρ, c, er, h⟩ := h
  refine ⟨μ, S, ρ, c, er, Pst.then h fun x S1 μ1 H1 c1 e1 h1 xv rx => ?_⟩
  cases rx with
  | str w =>
    have h1 := Pst.now c1 (Pst.bnd h1)
    refine ⟨⟨_, rfl⟩, μ1, S1, ρ, c1, er.ext e1, Pst.then h1 fun y S2 μ2 H2 c2 e2 h2 yv ry => ?_⟩
    have h2 : Pst K μ2 H2 (jnR (.str w) y S2) _ W0 := Pst.nox (nox_jnR _ _) h2
    cases ry with
    | @ref n p hn =>
      obtain ⟨l, vs, q, r, h3⟩ := pst_lst c2 hn h2
      obtain ⟨ys, hy, h4⟩ := Pst.lft c2 (Pst.bnd h3)
      obtain ⟨hb, h5⟩ := Pst.ite h4
      have ev := strs_vals (mapM_some hy) r
      subst ev
      refine ⟨st w, p, ys.map st, rfl, rfl, .inl q, ?_, ?_⟩
      · rw [List.map_map, List.length_map, st_len, show ((fun x : PySem.Str => x.length) ∘ st) = List.length from funext fun y => st_len y]
        exact hb
      · have z := Pst.now c2 h5 _ (.str _)
        rw [show st (Txt.join ⟨w.toArray⟩ (ys.map fun y => ⟨y.toArray⟩)).cps.toList = Txt.join ⟨w.toArray⟩ (ys.map fun y => ⟨y.toArray⟩) from TL.mk_tl _] at z
        exact z
    | _ => exact h2.elim
  | _ => exact (Pst.bnd h1).elim
theorem read_fnv {f : Nat} {a : Addr} (ha : C.fA f = some a) (h : tE K T W C (.fnv f) σ H Q) : tC (.ref a) σ H Q := by
  obtain ⟨μ, S, ρ, c, er, h⟩ := h
  obtain ⟨z, hz, h⟩ := Pst.lft c (Pst.bnd h)
  rw [ha] at hz
  cases hz
  exact Pst.now c h _ .fn
theorem read_cll {P : Prg} {k i : Nat} {es : Exps} (h : tE K T W (ctl P k) (.cll i es) σ H Q) : tCallG i (fun a sp => ∃ j, P.fA j = some a ∧ sp = spOf T K P k j) (WE W) (tA K T W (ctl P k) es) σ H Q := by
  obtain ⟨μ, S, ρ, c, er, h⟩ := h
  obtain ⟨g, hg, h⟩ := Pst.lft c (Pst.bnd h)
  obtain ⟨v, hv, rv⟩ := er.var hg
  cases rv with
  | @fn j a =>
    have h : Pst K μ H ((if P.fA j = some a then bnd (evs (ctl P k) es ρ) fun vs => callN P k j vs else bad) S) _ _ := h
    obtain ⟨hj, h⟩ := Pst.ite h
    exact ⟨a, _, hv, ⟨j, hj, rfl⟩, μ, S, ρ, c, er, Pst.then h fun l S1 μ1 H1 c1 e1 h1 vs rs => ⟨μ1, S1, l, c1, rs, h1⟩⟩
  | _ => exact h.elim
theorem read_cld {P : Prg} {k i : Nat} {es : Exps} {ds : List D} {dvs : List V} (hd : P.dfs.lookup i = some ds) (rd : ∀ μ H, Reps K μ H ds dvs) (h : tE K T W (ctl P k) (.cld i es) σ H Q) : tCallD (spOf T K P k i) dvs (WE W) (tA K T W (ctl P k) es) σ H Q := by
  obtain ⟨μ, S, ρ, c, er, h⟩ := h
  obtain ⟨z, hz, h⟩ := Pst.lft c (Pst.bnd h)
  have hz : P.dfs.lookup i = some z := hz
  rw [hd] at hz
  cases hz
  exact ⟨μ, S, ρ, c, er, Pst.then h fun l S1 μ1 H1 c1 e1 h1 vs rs => ⟨μ1, S1, l ++ ds, c1, rs.append (rd _ _), h1⟩⟩
end
/-- each in a new pair -/
def ItK (ks : List (L2.Key × V)) : It :=
  ⟨fun i _ => i < ks.length, fun i H v H' => ∃ T k x, ks[i]? = some (k, x) ∧ v = .ref T ∧ H T = none ∧ H' = upd H T (.tup [kV k, x]), fun i _ => ks.length ≤ i⟩
theorem kv_at {ks : List (L2.Key × V)} {vs : List (L2.Key × Value)} (rel : KV ks vs) : ∀ {i : Nat} {k : L2.Key} {x : V}, ks[i]? = some (k, x) → ∃ u, vs[i]? = some (k, u) ∧ RelV x u := by
  induction rel with
  | nil => intro i k x h; simp at h
  | @cons p q l m h t ih =>
    intro i k x hi
    cases i with
    | zero =>
      have hi : some p = some (k, x) := hi
      cases hi
      obtain ⟨k', u⟩ := q
      have hk : k = k' := h.1
      subst hk
      exact ⟨u, rfl, h.2⟩
    | succ i => exact ih hi
theorem turnK {P : Program} {w : World} {K : PySem.W.Frag} {elts : List Expr} {kk : Nat} {tpos : Pos} {d it : Addr} {ks : List (L2.Key × V)} {vs : List (L2.Key × Value)} {ep : Nat} (rel : KV ks vs) (D : ∀ h : Heap, K.In h → PySem.Heap.DictAt (mixKind P w) h d vs ep) :
    Turn P w K (.Tuple elts kk tpos) (ItK ks) [it] it (fun i h => ∃ ok ov, IsItemIter h it d i vs.length ep ok ov) where
  mem := by simp
  obj := fun i h ⟨ok, ov, e⟩ c hc => by
    rw [List.mem_singleton.mp hc]
    exact ⟨_, e, fun v q => nomatch q⟩
  keep := fun i h h' ⟨ok, ov, e⟩ kp => ⟨ok, ov, kp it (by simp) _ e⟩
  item := by
    intro X hP hw hK hc i pins s σ H E I hf st hg
    subst hP hw hK
    obtain ⟨ok, ov, hit⟩ := st
    have dd := D s.heap I.kIn
    have hg : i < ks.length := hg
    obtain ⟨u, hu, ru⟩ := kv_at rel (k := ks[i].1) (x := ks[i].2) (by rw [List.getElem?_eq_getElem hg])
    have il : it < s.heap.objs.size := Heap.lt_size hit
    refine wpAny_pyNext_items_item hit dd hu fun key h' hkey ho hT hsz kp => ⟨_, rfl, wpAny_letOwnedTupleGo_items (s := { s with heap := h' }) ho fun h'' hi'' sb => ?_⟩
    have hT2 : h''.get? s.heap.objs.size = some { cls := .type "tuple", data := .seq #[key, u] } := (sb.2 _ (Nat.ne_of_gt il)).trans hT
    have new : ObjOk X.prog X.w (upd H s.heap.objs.size (.tup [kV ks[i].1, ks[i].2])) h'' s.heap.objs.size (.tup [kV ks[i].1, ks[i].2]) := ⟨by show 2 ≤ sizeLine; decide, [key, u], .cons (keyIs_rel hkey) (.cons ru .nil), _, hT2, rfl, _, rfl⟩
    have I1 : Inv X pins σ (upd H s.heap.objs.size (.tup [kV ks[i].1, ks[i].2])) { s with heap := h'' } := I.turnedNew (t' := s.toks) (ch := [it]) (fun c o hb q => (sb.2 c fun e => hb (by simp [e])).trans (kp c o (fun e => hb (by simp [e])) q)) hf (Nat.le_refl _) new
    refine ⟨.ref s.heap.objs.size, _, I1, rfl, ⟨_, ks[i].1, ks[i].2, by rw [List.getElem?_eq_getElem hg], rfl, I.hok.fresh (Nat.le_refl _), rfl⟩, ⟨_, _, hi''⟩, fun c hcm => ?_⟩
    rw [List.mem_singleton.mp hcm, upd_ne (Nat.ne_of_lt il)]
    exact (hf it (by simp)).1
  done := by
    intro X hP hw hK hc i pins s σ H E I hf st hg
    subst hP hw hK
    obtain ⟨ok, ov, hit⟩ := st
    have dd := D s.heap I.kIn
    have hl : ks.length = vs.length := rel.length
    have hg : ks.length ≤ i := hg
    exact wpAny_pyNext_items_end (I.ok.hd hc) hit dd (List.getElem?_eq_none (by omega)) fun h' kp => ⟨rfl, I.turnedL (t' := s.toks) (ch := [it]) (fun c o hb q => kp c o (fun e => hb (by simp [e])) q) hf⟩
  self := fun A i s Q E ⟨ok, ov, hit⟩ h => PySem.W.kcp_self hit h
section
variable {X : Cx}
theorem pi_itms {y : PySem.Str} {yp apos cpos tpos : Pos} {elts : List Expr} {kk : Nat} {a : Addr} {ks : List (L2.Key × V)} {vs : List (L2.Key × Value)} {ep : Nat} (hg : Gl X y) (hm : X.mg y = some (.ref a)) (hd : (y == ("__debug__" : PySem.Str)) = false) (mod : (a == sysModules) = false) (rel : KV ks vs)
    (D : ∀ h : Heap, X.K.In h → PySem.Heap.DictAt (mixKind X.prog X.w) h a vs ep) (hl : (apos.endLine == cpos.line) = true) (hb : attributeBase (.Name y yp) "items" X.env (eval (.Name y yp) X.env) = eval (.Name y yp) X.env) :
    PI X (.Tuple elts kk tpos) (.Call (.Attribute (.Name y yp) "items" apos) [] [] cpos) (fun σ H R => R (ItK ks) H) := by
  refine ⟨fun pins s σ H R I h => ?_⟩
  refine wpAny_Call_method hb (by rfl) hl PySem.F.plainAttrs_dict PySem.F.slot_dict_items PySem.F.type_dict_items (ld_glob I hg hm ?_ hd)
  have dd := D s.heap I.kIn
  have d0 := dd.dictOf
  refine ⟨d0.typeIs, fun b q => ?_, ?_⟩
  · cases q
    obtain ⟨ob, _, _, h1, h2, _⟩ := d0
    exact ⟨ob, h1, h2.2.1⟩
  refine Calls.callWith_builtin (args := []) rfl (PySem.evalArgs_none ?_)
  refine call_meetsIn PySem.F.slot_dict_items d0.typeIs PySem.F.entry_dict_items (PySem.F.args_dict_items_1 _) (meets_dict_items (mixKind X.prog X.w) a mod) ⟨⟨_, d0⟩, ?_⟩
  have I1 : Inv X pins σ H { s with heap := s.heap.push { cls := .type "dict_items", data := .fields #[.ref a] } } := I.kept (t' := s.toks) fun b u q => Heap.get?_push_of_some _ q
  have hv : (s.heap.push { cls := .type "dict_items", data := .fields #[.ref a] }).IsItemsView s.heap.objs.size a := ⟨_, Heap.get?_push_size _ rfl, rfl, rfl⟩
  refine wpAny_pyIter_items hv (D _ I1.kIn) ?_
  exact pi_one (tk := s.toks) I1 _ (turnK rel (fun h => D h)) ⟨_, _, Heap.get?_push_size _ rfl⟩ h
end
theorem kd_fix {K : PySem.W.Frag} {μ : List Addr} {H : Hp} {kvs : List (Key × VM.D)} {ks : List (L2.Key × V)} (rk : ∀ μ H, KRep K μ H kvs ks) : SeqIt K (.fix (kvs.map fun kv => .tup [kD kv.1, kv.2])) (ItK ks) μ H := by
  intro μ' S' H' i c e
  have r' := rk μ' H'
  constructor
  · intro d hd
    have hd : (kvs.map fun kv => VM.D.tup [kD kv.1, kv.2])[i]? = some d := Option.some.inj hd
    rw [List.getElem?_map] at hd
    cases hk : kvs[i]? with
    | none => rw [hk] at hd; cases hd
    | some kv =>
      rw [hk] at hd
      cases hd
      obtain ⟨w, hw, h1, h2⟩ := krep_get r' hk
      refine ⟨(List.getElem?_eq_some_iff.mp hw).1, ?_⟩
      rintro x H2 ⟨T, k, v, y, rfl, hT, rfl⟩
      rw [hw] at y
      cases y
      dsimp only at h1 h2
      obtain ⟨e2, c2⟩ := c.side (u := .tup [kV k, v]) hT
      refine ⟨e2, c2, .tup (SqT.of upd_same) (.cons ?_ (.cons (h2.ext e2) .nil))⟩
      rw [h1]
      obtain ⟨kk, kd⟩ := kv
      cases kk with
      | inl i => exact .int i
      | inr s => exact .str s
  · intro hd
    have hd : (kvs.map fun kv => VM.D.tup [kD kv.1, kv.2])[i]? = none := Option.some.inj hd
    have := List.getElem?_eq_none_iff.mp hd
    rw [List.length_map] at this
    show ks.length ≤ i
    rw [← KRep.length r']
    exact this
theorem read_itm {T : Tab} {K : PySem.W.Frag} {W : WX} {C : Ctl} {σ : L2.St} {H : Hp} {x : List Nat} {kvs : List (Key × VM.D)} {ks : List (L2.Key × V)} {R : It → Hp → Prop} (hk : C.kd x = some kvs) (rk : ∀ μ H, KRep K μ H kvs ks) (h : tSr K T W C (.itm x) σ H R) : R (ItK ks) H := by
  obtain ⟨μ, S, ρ, c, er, h⟩ := h
  obtain ⟨z, hz, h⟩ := Pst.lft c (Pst.bnd h)
  rw [hk] at hz
  cases hz
  exact Pst.now c h _ (kd_fix rk)
end VM
namespace VM
open PySem L2 PySem.Spec PyProof.Rows
section
variable {prog : Program} {w : World} {A : Around} {E : Value → Shared → Prop} {s : Shared} {env : PySem.Env}
theorem wpAny_Call_own {o : Expr} {name : PySem.Str} {apos pos : Pos} {args : List Expr} {Q : Value → Shared → Prop}
    (hbase : attributeBase o name env (eval o env) = eval o env)
    (hfew : ((backTo pos (starEach args env)).all (fun x => !x.1) && (backToKw pos (keywordEach [] env)).all (fun x => x.1.isSome)
      && decide (args.length + ([] : List Keyword).length + (if ([] : List Keyword).isEmpty then 0 else 1) < 30)) = true)
    (hline : (apos.endLine == pos.line) = true)
    (h : wpAny (model prog w) A (eval o env) (fun ov s₁ => ∀ pl : Sem Bool, wpAny (model prog w) A (getMethod ov name pl) (fun fx s2 => wpAny (model prog w) A (callWith pos fx.1 fx.2 (backTo pos (starEach args env)) (backToKw pos (keywordEach [] env))) Q E s2) E s₁) E s) :
    wpAny (model prog w) A (eval (.Call (.Attribute o name apos) args [] pos) env) Q E s := by
  rw [arm_eval_Call, hbase]
  refine wpAny_bind (wpAny_mono h (fun ov s₁ h₁ => ?_) fun _ _ e => e)
  refine wpAny_bind (wpAny_standAt ?_)
  have hform : methodCallForm (args.length + ([] : List Keyword).length) (backTo pos (starEach args env)) (backToKw pos (keywordEach [] env)) = true := hfew
  have hpos : methodCallPos true o env apos pos = pure pos := by unfold methodCallPos; simp [hline]
  unfold methodCall
  rw [hform]
  refine wpAny_bind (wpAny_holding (wpAny_mono (h₁ _) (fun fx s2 h2 => ?_) fun _ _ e => e))
  exact wpAny_bind (wpAny_of_eq hpos h2)
end
section
variable {X : Cx} {k : Nat} {f C : Addr} {fd : FuncData} {ps : List PySem.Str} {sp : Sp} {W : WX} {x m : PySem.Str} {p pos apos : Pos} {e o : Expr} {es : List Expr} {t : TA} {ta : TE}
def tCmG (m : PySem.Str) (S : Addr → Addr → Sp → Prop) (E : L2.St → XK) (ta : TE) (t : TA) : TE := fun σ H Q => ta σ H fun x H1 => ∃ a C dx fs g sp, x = .ref a ∧ H1 a = some (.ins C dx fs) ∧ fs.lookup m = none ∧ S C g sp ∧ t σ H1 fun vs H2 => sp (.ref a :: vs) H2 Q (E σ)
theorem pe_cmG (hgd : X.A.guards = some []) (hr : Room k X.A) (tk : Takes X W) (he : PE X o ta) (ha : PA X es t) (hnil : es = [] → ∀ σ H Q, t σ H Q → Q [] H) (hb : attributeBase o m X.env (eval o X.env) = eval o X.env) (hl : (apos.endLine == pos.line) = true) (hs : es.all (fun e => !starB e) = true) (hn : es.length < 20)
    (hst : ∀ e r, es = e :: r → starEach (e :: r) X.env = (false, eval e X.env) :: starEach r X.env) (hpl : ∀ e r, es = e :: r → (backTo pos (starEach r X.env)).any (·.1) = false)
    (hfew : ((backTo pos (starEach es X.env)).all (fun x => !x.1) && (backToKw pos (keywordEach [] X.env)).all (fun x => x.1.isSome) && decide (es.length + ([] : List Keyword).length + (if ([] : List Keyword).isEmpty then 0 else 1) < 30)) = true) :
    PE X (.Call (.Attribute o m apos) es [] pos) (tCmG m (MthOk X k m) (WE W) ta t) := by
  refine ⟨fun pins s σ H Q I h => ?_⟩
  refine wpAny_Call_own hb hfew hl (thn (he.run pins s σ H _ I h) fun u s1 ⟨x, H1, I1, rx, a, C, dx, fs, g, sp, ex, ea, l, ⟨fd, ps, c, hm, hbd, F⟩, q⟩ => fun pl => ?_)
  subst ex
  obtain rfl : u = Value.ref a := rx
  refine getmeth_ok I1 ea c hm l ?_
  cases es with
  | nil =>
    have q := hnil rfl _ _ _ q
    exact PySem.W.callWith_K0 (first := [.ref a]) I1.kIn hm.kp (run_fnG (us := [.ref a]) (vs := [.ref a]) F hgd hr hbd tk I1 (.cons rfl .nil) q)
  | cons e r =>
    refine PySem.W.callWith_K (first := [.ref a]) (h₀ := X.base) I1.ok.mod.kin hm.kp (thn (ha.run pos pins s1 σ H1 _ I1 q) fun us s2 ⟨vs, H2, I2, r, q2⟩ => ⟨I2.kIn, ?_⟩) (hst e r rfl) (hpl e r rfl)
    exact run_fnG (us := .ref a :: us) (vs := .ref a :: vs) F hgd hr hbd tk I2 (.cons rfl r) q2
def tMakeG (C : Addr) (sp : Sp) (E : L2.St → XK) (t : TA) : TE := fun σ H Q => t σ H fun vs H1 => ∀ x dx, H1 x = none → H1 dx = none → dx ≠ x →
  sp (.ref x :: vs) (upd (upd H1 dx (.own x)) x (.ins C dx [])) (fun v H2 => v = .non ∧ Q (.ref x) H2) (E σ)
theorem run_makeG {pins : List (Addr × PySem.Obj)} {σ : L2.St} {H : Hp} {s : Shared} {Q : VK} {us : List Value} {vs : List V} (M : Mk X.K C f) (F : FnG X.prog X.w X.K X.mg X.base k f fd ps sp) (hgd : X.A.guards = some []) (hr : Room (k + 1) X.A) (hb : Binds X.K fd ps []) (tk : Takes X W)
    (I : Inv X pins σ H s) (r : Vals vs us)
    (h : ∀ x dx, H x = none → H dx = none → dx ≠ x → sp (.ref x :: vs) (upd (upd H dx (.own x)) x (.ins C dx [])) (fun v H2 => v = .non ∧ Q (.ref x) H2) (WE W σ)) :
    wpAny (model X.prog X.w) X.A (call (.ref C) us) (EP X pins σ Q) X.xe s := by
  have hq := h (s.heap.objs.size + 1) s.heap.objs.size (I.hok.fresh (Nat.le_succ _)) (I.hok.fresh (Nat.le_refl _)) (Nat.ne_of_lt (Nat.lt_succ_self _))
  have I2 := Inv.made (C := C) I
  have r2 : Vals (V.ref (s.heap.objs.size + 1) :: vs) (Value.ref (s.heap.objs.size + 1) :: us) := .cons rfl r
  have hl : (Value.ref (s.heap.objs.size + 1) :: us).length = ps.length := by
    have e := r2.length
    rw [F.len _ _ _ _ hq] at e
    exact e.symm
  have bb := hb { s with heap := (s.heap.push PySem.W.emptyDict).push (PySem.W.instObj C s.heap.objs.size) } (Value.ref (s.heap.objs.size + 1) :: us) I2.kIn (by rw [List.append_nil]; exact hl)
  rw [List.append_nil] at bb
  have g2 : (X.A.under (.builtin "type.__call__" ⟨.ref C :: us, []⟩)).guards = some [] := by
    have hng : ¬ ("type.__call__" ∈ guardIds) := by decide +kernel
    simp [Around.under, hgd, Code.guards, Code.isGuard, pushGuards, hng]
  refine wpAny_call (make_map (f := f) I.kIn M.makes M.init (beq_iff_eq.mp M.fn) (codeAny_mono (F.run _ X.stack _ _ ⟨Value.ref (s.heap.objs.size + 1) :: us, []⟩ (Value.ref (s.heap.objs.size + 1) :: us) _ _ (WE W σ) g2 (hr.make C us [])
    (I2.env0.make C us []) bb r2 hq) fun r s' hq' => ?_))
  cases r with
  | error e => exact passAt tk σ pins _ _ e s' I2 hq'
  | ok fl =>
    cases fl with
    | ret u =>
      obtain ⟨v, H', I3, rv, ev, q3⟩ := I2.after hq'
      subst ev
      exact ⟨rv, ⟨V.ref (s.heap.objs.size + 1), H', I3, rfl, q3⟩⟩
    | next => exact False.elim hq'
    | brk => exact False.elim hq'
    | cont => exact False.elim hq'
theorem pe_makeG (M : Mk X.K C f) (F : FnG X.prog X.w X.K X.mg X.base k f fd ps sp) (hgd : X.A.guards = some []) (hr : Room (k + 1) X.A) (hg : Gl X x) (hm : X.mg x = some (.ref C)) (hb : Binds X.K fd ps []) (tk : Takes X W)
    (ha : PA X (e :: es) t) (hdb : (x == ("__debug__" : PySem.Str)) = false) (he : starEach (e :: es) X.env = (false, eval e X.env) :: starEach es X.env) (hpl : (backTo pos (starEach es X.env)).any (·.1) = false) :
    PE X (.Call (.Name x p) (e :: es) [] pos) (tMakeG C sp (WE W) t) := by
  refine ⟨fun pins s σ H Q I h => wpAny_Call_Name_kw (ld_glob I hg hm ?_ hdb)⟩
  refine PySem.W.callWith_K (h₀ := X.base) I.ok.mod.kin M.kp (thn (ha.run pos pins s σ H _ I h) fun us s1 ⟨vs, H1, I1, r, q⟩ => ⟨I1.kIn, ?_⟩) he hpl
  exact run_makeG M F hgd hr hb tk I1 r q
theorem pe_makeG0 (M : Mk X.K C f) (F : FnG X.prog X.w X.K X.mg X.base k f fd ps sp) (hgd : X.A.guards = some []) (hr : Room (k + 1) X.A) (hg : Gl X x) (hm : X.mg x = some (.ref C)) (hb : Binds X.K fd ps []) (tk : Takes X W)
    (hdb : (x == ("__debug__" : PySem.Str)) = false) : PE X (.Call (.Name x p) [] [] pos) (tMakeG C sp (WE W) tNil) :=
  ⟨fun pins s σ H Q I h => wpAny_Call_Name_kw (ld_glob I hg hm (PySem.W.callWith_K0 I.kIn M.kp (run_makeG (us := []) M F hgd hr hb tk I .nil h)) hdb)⟩
end
section
variable {T : Tab} {K : PySem.W.Frag} {W : WX} {C : Ctl} {σ : L2.St} {H : Hp} {Q : VK}
def tAS (K : PySem.W.Frag) (T : Tab) (W : WX) (C : Ctl) (es : Exps) (fl : List Bool) : TA := fun σ H Q => ∃ μ S ρ, Cor K μ S H ∧ EnvR K μ H ρ σ ∧ Pst K μ H (evsS C es fl ρ S) (fun ds _ μ' H' => ∀ vs, Reps K μ' H' ds vs → Q vs H') (wx T W σ)
theorem read_lss {es : Exps} {fl : List Bool} (h : tE K T W C (.lss fl es) σ H Q) : tLst (tAS K T W C es fl) σ H Q := by
  obtain ⟨μ, S, ρ, c, er, h⟩ := h
  refine ⟨μ, S, ρ, c, er, Pst.then h fun l S1 μ1 H1 c1 e1 h1 vs rs => ?_⟩
  obtain ⟨hl, h2⟩ := Pst.ite h1
  refine ⟨by rw [← rs.length, ← big_eq]; exact hl, fun p hp => ?_⟩
  exact Pst.newO c1 hp (Pst.nox (nox_new _) h2) fun μ' H' e q => ⟨vs, q, rs.ext e⟩
theorem read_nilS {fl : List Bool} {R : List V → Hp → Prop} (h : tAS K T W C .nil fl σ H R) : tNil σ H R := by
  obtain ⟨μ, S, ρ, c, er, h⟩ := h
  exact Pst.now c h [] .nil
theorem read_consS {a : Exp} {r : Exps} {fl : List Bool} (hf : fl.headD false = false) {R : List V → Hp → Prop} (h : tAS K T W C (.cons a r) fl σ H R) : tCons (tE K T W C a) (tAS K T W C r fl.tail) σ H R := by
  obtain ⟨μ, S, ρ, c, er, h⟩ := h
  have h : Pst K μ H (bnd (evE C a ρ) (fun d => if fl.headD false = true then bnd (seqM d) fun l => bnd (evsS C r fl.tail ρ) fun ds => ret (l ++ ds) else bnd (evsS C r fl.tail ρ) fun ds => ret (d :: ds)) S) _ _ := h
  rw [hf] at h
  refine ⟨μ, S, ρ, c, er, Pst.then h fun d S1 μ1 H1 c1 e1 h1 x rx => ⟨μ1, S1, ρ, c1, er.ext e1, (Pst.bnd h1).imp ?_ fun _ _ z => z⟩⟩
  exact fun ds S2 μ2 H2 c2 e2 h2 xs rxs => Pst.now c2 h2 _ (.cons (rx.ext e2) rxs)
theorem read_starS {a : Exp} {r : Exps} {fl : List Bool} (hf : fl.headD false = true) {R : List V → Hp → Prop} (h : tAS K T W C (.cons a r) fl σ H R) : StX.tStar K (tE K T W C a) (tAS K T W C r fl.tail) σ H R := by
  obtain ⟨μ, S, ρ, c, er, h⟩ := h
  have h : Pst K μ H (bnd (evE C a ρ) (fun d => if fl.headD false = true then bnd (seqM d) fun l => bnd (evsS C r fl.tail ρ) fun ds => ret (l ++ ds) else bnd (evsS C r fl.tail ρ) fun ds => ret (d :: ds)) S) _ _ := h
  rw [hf] at h
  refine ⟨μ, S, ρ, c, er, Pst.then h fun d S1 μ1 H1 c1 e1 h1 x rx => ?_⟩
  have h1 : Pst K μ1 H1 (bnd (seqM d) (fun l => bnd (evsS C r fl.tail ρ) fun ds => ret (l ++ ds)) S1) (fun ds _ μ' H' => ∀ vs, Reps K μ' H' ds vs → R vs H') (wx T W σ) := h1
  have fin : ∀ {l : List D} {xs : List V}, Reps K μ1 H1 l xs → Pst K μ1 H1 (bnd (evsS C r fl.tail ρ) (fun ds => ret (l ++ ds)) S1) (fun ds _ μ' H' => ∀ vs, Reps K μ' H' ds vs → R vs H') (wx T W σ) → tAS K T W C r fl.tail σ H1 fun ys H2 => R (xs ++ ys) H2 := fun {l xs} rl h2 =>
    ⟨μ1, S1, ρ, c1, er.ext e1, (Pst.bnd h2).imp (fun ds S2 μ2 H2 c2 e2 h3 ys rys => Pst.now c2 h3 _ ((rl.ext e2).append rys)) fun _ _ z => z⟩
  cases rx with
  | @tup p vs ds q rl => exact ⟨p, vs, rfl, .inl q, fin rl (Pst.now c1 (Pst.bnd h1))⟩
  | @ref n p hn =>
    obtain ⟨l, vs, q, rl, h2⟩ := pst_mut c1 hn h1
    exact ⟨p, vs, rfl, .inr (SqL.of q), fin rl h2⟩
  | _ => exact (Pst.bnd h1).elim
end
theorem bnd_as {α β γ : Type} (m : M α) (g : α → M β) (h : β → M γ) : bnd (bnd m g) h = bnd m fun a => bnd (g a) h := by
  funext S
  unfold bnd
  cases m S <;> rfl
section
variable {K : PySem.W.Frag} {μ : List Addr} {S : Store} {H : Hp}
theorem frep_get {fs : List (List Nat × D)} {ks : List (PySem.Str × V)} (r : FRep K μ H fs ks) (x : List Nat) : (∀ d, fs.lookup x = some d → ∃ v, ks.lookup (st x) = some v ∧ Rep K μ H d v) ∧ (fs.lookup x = none → ks.lookup (st x) = none) := by
  unfold FRep at r
  induction r with
  | nil => exact ⟨fun d h => (nomatch h), fun _ => rfl⟩
  | @cons p q fs ks h t ih =>
    obtain ⟨y, d⟩ := p
    obtain ⟨z, v⟩ := q
    obtain ⟨h1, h2⟩ := h
    have h1 : z = st y := h1
    subst h1
    rw [List.lookup_cons, List.lookup_cons]
    by_cases e : x = y
    · subst e
      rw [beq_self_eq_true, beq_self_eq_true]
      exact ⟨fun d' h => by cases h; exact ⟨v, rfl, h2⟩, fun h => (nomatch h)⟩
    · rw [beq_eq_false_iff_ne.mpr e, beq_eq_false_iff_ne.mpr fun z => e (st_inj z)]
      exact ih
theorem frep_put {fs : List (List Nat × D)} {ks : List (PySem.Str × V)} (r : FRep K μ H fs ks) (x : List Nat) {d : D} {v : V} (rv : Rep K μ H d v) : FRep K μ H (fput x d fs) (putF (st x) v ks) := by
  unfold FRep at r ⊢
  induction r with
  | nil => exact .cons ⟨rfl, rv⟩ .nil
  | @cons p q fs ks h t ih =>
    obtain ⟨y, d'⟩ := p
    obtain ⟨z, v'⟩ := q
    obtain ⟨h1, h2⟩ := h
    have h1 : z = st y := h1
    subst h1
    show Paired _ (if y = x then (y, d) :: fs else (y, d') :: fput x d fs) (if st y = st x then (st y, v) :: ks else (st y, v') :: putF (st x) v ks)
    by_cases e : y = x
    · rw [if_pos e, if_pos (by rw [e])]
      exact .cons ⟨rfl, rv⟩ t
    · rw [if_neg e, if_neg fun z => e (st_inj z)]
      exact .cons ⟨rfl, h2⟩ ih
theorem frep_len {fs : List (List Nat × D)} {ks : List (PySem.Str × V)} (r : FRep K μ H fs ks) : fs.length = ks.length := by
  unfold FRep at r
  induction r with
  | nil => rfl
  | cons _ _ ih => rw [List.length_cons, List.length_cons, ih]
theorem ins_V {α : Type} {C : Ctl} {d : D} {v : V} {f : Nat × ClsE × List (List Nat × D) → M α} {R : α → Store → List Addr → Hp → Prop} {Wx : Nat → Hp → Prop} (c : Cor K μ S H) (rv : Rep K μ H d v) (h : Pst K μ H (bnd (insR C d) f S) R Wx) :
    ∃ n a q dx fs ks ce, d = .ref n ∧ v = .ref a ∧ μ[n]? = some a ∧ S[n]? = some (.ins q (C.iA q) fs) ∧ H a = some (.ins (C.iA q) dx ks) ∧ FRep K μ H fs ks ∧ C.cl q = some ce ∧ Pst K μ H (f (n, ce, fs) S) R Wx := by
  cases rv with
  | @ref n a hn =>
    obtain ⟨o, h1, h2⟩ := c.obj' hn
    have h : Pst K μ H (bnd (bnd (rd n) fun o => match o with
      | .ins q c fs => if c = C.iA q then bnd (lft (C.cl q)) fun ce => ret (n, ce, fs) else bad
      | _ => bad) f S) R Wx := h
    rw [bnd_as] at h
    have er : rd n S = .ok o S := by unfold rd; rw [h1]
    have h : Pst K μ H (bnd (match o with
      | .ins q c fs => if c = C.iA q then bnd (lft (C.cl q)) fun ce => ret (n, ce, fs) else bad
      | _ => bad) f S) R Wx := by
      unfold bnd at h ⊢
      rw [er] at h
      exact h
    cases o with
    | ins q cc fs =>
      obtain ⟨dx, ks, q1, q2⟩ := h2
      by_cases e : cc = C.iA q
      · subst e
        have h : Pst K μ H (bnd (if C.iA q = C.iA q then bnd (lft (C.cl q)) fun ce => ret (n, ce, fs) else bad) f S) R Wx := h
        rw [if_pos rfl, bnd_as] at h
        obtain ⟨ce, hce, h⟩ := Pst.lft c (Pst.bnd h)
        exact ⟨n, a, q, dx, fs, ks, ce, rfl, rfl, hn, h1, q1, q2, hce, h⟩
      · have h : Pst K μ H (bnd (if cc = C.iA q then bnd (lft (C.cl q)) fun ce => ret (n, ce, fs) else bad) f S) R Wx := h
        rw [if_neg e] at h
        exact h.elim
    | _ => exact h.elim
  | _ => exact h.elim
end
section
variable {T : Tab} {P : Prg} {k : Nat} {X : Cx} {W : WX} {σ : L2.St} {H : Hp} {Q : VK} (G : ∀ q ce, P.cls.lookup q = some ce → ClsG T P k X q ce)
include G
theorem read_fld {a : Exp} {x : List Nat} (h : tE X.K T W (ctl P k) (.fld a x) σ H Q) : tFld X.K (tE X.K T W (ctl P k) a) (st x) σ H Q := by
  obtain ⟨μ, S, ρ, c, er, h⟩ := h
  refine ⟨μ, S, ρ, c, er, Pst.then h fun d S1 μ1 H1 c1 e1 h1 xv rx => ?_⟩
  obtain ⟨n, a, q, dx, fs, ks, ce, rfl, rfl, hn, hS, hH, fr, hce, h2⟩ := ins_V c1 rx h1
  obtain ⟨hb, h2⟩ := Pst.ite h2
  obtain ⟨z, hz, h2⟩ := Pst.lft c1 h2
  obtain ⟨v, hv, rv⟩ := (frep_get fr x).1 z hz
  have g := G q ce hce
  have eA : P.iA q = T.iA q := g.iA
  have hH : H1 a = some (.ins (P.iA q) dx ks) := hH
  rw [eA] at hH
  exact ⟨a, _, dx, ks, v, rfl, hH, g.c, g.fl x hb, hv, h2 v rv⟩
theorem read_cm {a : Exp} {x : List Nat} {es : Exps} (h : tE X.K T W (ctl P k) (.cm a x es) σ H Q) : tCmG (st x) (MthOk X k (st x)) (WE W) (tE X.K T W (ctl P k) a) (tA X.K T W (ctl P k) es) σ H Q := by
  obtain ⟨μ, S, ρ, c, er, h⟩ := h
  refine ⟨μ, S, ρ, c, er, Pst.then h fun d S1 μ1 H1 c1 e1 h1 xv rx => ?_⟩
  have h1 : Pst X.K μ1 H1 (bnd (bnd (insR (ctl P k) d) fun t => match t.2.2.lookup x with
    | none => lft (t.2.1.ms.lookup x)
    | some _ => bad) (fun f => bnd (evs (ctl P k) es ρ) fun vs => callN P k f (d :: vs)) S1) _ _ := h1
  rw [bnd_as] at h1
  obtain ⟨n, a, q, dx, fs, ks, ce, rfl, rfl, hn, hS, hH, fr, hce, h2⟩ := ins_V c1 rx h1
  have g := G q ce hce
  have eA : P.iA q = T.iA q := g.iA
  have hH : H1 a = some (.ins (P.iA q) dx ks) := hH
  rw [eA] at hH
  have h2 : Pst X.K μ1 H1 (bnd (match fs.lookup x with
    | none => lft (ce.ms.lookup x)
    | some _ => bad) (fun f => bnd (evs (ctl P k) es ρ) fun vs => callN P k f (.ref n :: vs)) S1) _ _ := h2
  cases hl : fs.lookup x with
  | some z => rw [hl] at h2; exact h2.elim
  | none =>
    rw [hl] at h2
    obtain ⟨i, hi, h2⟩ := Pst.lft c1 (Pst.bnd h2)
    obtain ⟨gg, hg⟩ := g.ms x i hi
    refine ⟨a, _, dx, ks, gg, _, rfl, hH, (frep_get fr x).2 hl, hg, μ1, S1, ρ, c1, er.ext e1, Pst.then h2 fun l S2 μ2 H2 c2 e2 h3 vs rs => ⟨μ2, S2, .ref n :: l, c2, .cons (.ref (e2.at_ hn)) rs, h3⟩⟩
theorem read_mk {q j : Nat} {x : List Nat} {es : Exps} {ce : ClsE} (hc : P.cls.lookup q = some ce) (hk : k = j + 1) (h : tE X.K T W (ctl P k) (.mk q x es) σ H Q) : ce.nm = x ∧ tMakeG (T.iA q) (spOf T X.K P j ce.init) (WE W) (tA X.K T W (ctl P k) es) σ H Q := by
  subst hk
  obtain ⟨μ, S, ρ, c, er, h⟩ := h
  obtain ⟨mkc, hm, h⟩ := Pst.lft c (Pst.bnd h)
  cases hm
  obtain ⟨z, hz, h⟩ := Pst.lft c (Pst.bnd h)
  have hz : P.cls.lookup q = some z := hz
  rw [hc] at hz
  cases hz
  obtain ⟨hnm, h⟩ := Pst.ite h
  refine ⟨hnm, μ, S, ρ, c, er, Pst.then h fun l S1 μ1 H1 c1 e1 h1 vs rs x dx hx hdx ne => ?_⟩
  have g := G q ce hc
  have eA : P.iA q = T.iA q := g.iA
  have h1 : Pst X.K μ1 H1 (bnd (callN P j ce.init (.ref S1.length :: l)) (selfR (.ref S1.length)) (S1 ++ [.ins q (P.iA q) []])) _ _ := h1
  rw [eA] at h1
  obtain ⟨e2, c2⟩ := c1.side (p := dx) (u := .own x) hdx
  have hx2 : upd H1 dx (.own x) x = none := by rw [upd_ne (Ne.symm ne)]; exact hx
  obtain ⟨e3, c3⟩ := c2.new (p := x) (u := .ins (T.iA q) dx []) (o := .ins q (T.iA q) []) hx2 fun μ' H' e z => ⟨dx, [], z, .nil⟩
  have h2 := Pst.bnd (h1.ext (e2.trans e3))
  have hlen : (μ1 ++ [x])[S1.length]? = some x := by rw [← c1.len, List.getElem?_append_right (Nat.le_refl _), Nat.sub_self]; rfl
  refine ⟨μ1 ++ [x], _, .ref S1.length :: l, c3, .cons (.ref hlen) (rs.ext (e2.trans e3)), h2.imp (fun r S' μ' H' c' e' z v rv => ?_) fun _ _ z => z⟩
  cases r with
  | non =>
    cases rv
    exact ⟨rfl, Pst.now c' z _ (.ref (e'.at_ hlen))⟩
  | _ => exact z.elim
end
end VM
namespace VM
open PySem L2 PySem.Spec PyProof.Rows
structure EOk (T : Tab) (X : Cx) (W : WX) (C : Ctl) (e : Expr) (a : Exp) : Prop where
  pe : PE X e (tE X.K T W C a)
  pt : ifeB e = false → PT X e (tT X.K T W C a)
  pw : boolB e = true → PW X e (tT X.K T W C a)
section
variable {T : Tab} {X : Cx} {W : WX} {C : Ctl}
theorem EOk.plain {e : Expr} {a : Exp} (he : oddB e = false) (hb : boolB e = false) (p : PE X e (tE X.K T W C a)) : EOk T X W C e a :=
  ⟨p, fun _ => pt_of he p, fun z => by rw [hb] at z; cases z⟩
theorem nmOk_of {x : PySem.Str} (h : nmOk x = true) : (x == ("__debug__" : PySem.Str)) = false ∧ (x == ("__classdict__" : PySem.Str)) = false := by
  obtain ⟨h1, h2⟩ := and2 h
  exact ⟨not1 h1, not1 h2⟩
theorem marks2 {o p : CmpOp} {b c : Expr} (h : setB c = false) : lastMarks [o, p] [b, c] = false := marks_set h
theorem fsi {e : Expr} {env : PySem.Env} (h : setB e = false) : ∀ x, foldedSetIterable e env x = pure x := by
  intro x
  cases e <;> first | rfl | cases h
theorem src_nset {c : Cc} {sc : Scope} {src : Src} {t it : Expr} (h : chSrc c sc src t it = true) : setB it = false := by
  cases src with
  | seq a =>
    have h : (!setB it && chE c sc a it) = true := h
    exact not1 (and2 h).1
  | _ => cases it <;> first | rfl | cases h
theorem few_of {es : List Expr} {pos : Pos} {env : PySem.Env} (h : es.all (fun e => !starB e) = true) (hl : es.length < 20) :
    ((backTo pos (starEach es env)).all (fun x => !x.1) && (backToKw pos (keywordEach [] env)).all (fun x => x.1.isSome) && decide (es.length + ([] : List Keyword).length + (if ([] : List Keyword).isEmpty then 0 else 1) < 30)) = true := by
  rw [stars_all h]
  show (true && true && decide (es.length + 0 + 0 < 30)) = true
  rw [decide_eq_true (by omega)]
  rfl
theorem read_mth0 {m : Mth} {a : Exp} {σ : L2.St} {H : Hp} {Q : VK} (h : tE X.K T W C (.mth m a .nil) σ H Q) : tBM0 X.K "list" (rMt X.K m) (tE X.K T W C a) σ H Q := by
  obtain ⟨μ, S, ρ, c, er, h⟩ := h
  refine ⟨μ, S, ρ, c, er, Pst.then h fun x S1 μ1 H1 c1 e1 h1 xv rx => ?_⟩
  obtain ⟨ht, h2⟩ := mthTy_V c1 rx h1
  exact ⟨ht, μ1, S1, x, [], c1, rx, .nil, Pst.nox (nox_mth m x []) h2⟩
theorem pe_mth {m : Mth} {o : Expr} {a : Exp} {es : List Expr} {x : PySem.Str} {ap pos : Pos} {as : Exps} (hx : x = mthNm m) (ho : PE X o (tE X.K T W C a)) (ha : PA X es (tA X.K T W C as)) (hnil : es = [] → as = .nil)
    (hb : attributeBase o x X.env (eval o X.env) = eval o X.env) (hl : (ap.endLine == pos.line) = true) (hs : es.all (fun e => !starB e) = true) (hn : es.length < 20) : PE X (.Call (.Attribute o x ap) es [] pos) (tE X.K T W C (.mth m a as)) := by
  subst hx
  have ty : typeOf (.builtin (mthId m)) = pure (.type "method_descriptor") := by
    cases m
    · exact PySem.F.type_list_append
    · exact PySem.F.type_list_clear
    · exact PySem.F.type_list_pop
    · exact PySem.F.type_list_extend
  have sl : Slot "list" (mthNm m) (mthId m) := by
    cases m
    · exact PySem.F.slot_list_append
    · exact PySem.F.slot_list_clear
    · exact PySem.F.slot_list_pop
    · exact PySem.F.slot_list_extend
  cases es with
  | nil =>
    have := hnil rfl
    subst this
    exact PE.imp (pe_bm0 PySem.F.plainAttrs_list sl ty (mth_ok m) ho hb hl) fun σ H Q h => read_mth0 h
  | cons e r =>
    have hs' := hs
    rw [List.all_cons, Bool.and_eq_true, Bool.not_eq_true'] at hs'
    exact PE.imp (pe_bm PySem.F.plainAttrs_list sl ty (mth_ok m) ho ha hb (few_of hs hn) hl (starB_se hs'.1) (stars_none hs'.2)) fun σ H Q h => read_mth rfl h
def rIsX (K : PySem.W.Frag) : List V → Hp → VK → Prop := fun xs H Q => ∃ (a c : Addr) (z : V) (u : Value) (b : Bool) (oe : PySem.Obj) (vs : Array Value), xs = [.ref a, z] ∧ (∀ w, RelV z w → w = u) ∧ H a = some (.frz oe (.own 0)) ∧ oe.cls = .ref c ∧ oe.dict = none ∧ oe.data = .fields vs ∧
  L2.ExcC K c ∧ PySem.W.kitOne K (.ref c) u = some b ∧ Q (.bl b) H
theorem call_isX {X : Cx} : CallR X (.builtin "isinstance") (rIsX X.K) := by
  intro pins s σ H xs us Q I r ⟨a, c, z, u, b, oe, vs, hxs, hu, ha, h1, h2, h3, C, hk, q⟩
  subst hxs
  cases r with
  | cons rx rr =>
    cases rr with
    | cons rt rr =>
      cases rr
      cases rx
      have eu := hu _ rt
      subst eu
      have hget : s.heap.get? a = some oe := (I.hok a _ ha).1
      have J : PySem.W.InstAt s.heap a oe c none := by
        cases oe
        subst h1 h2 h3
        exact ⟨hget, rfl, rfl, trivial⟩
      refine PySem.W.kia_one (PySem.W.handS_kitx_exc C.hg C.hk C.hs C.hd C.ha C.hn C.ht C.hm) I.kIn J hk (fun z => nomatch z) fun tk => ?_
      exact ⟨.bl b, H, I.kept (t' := tk) fun _ _ z => z, rfl, q⟩
def vCls (T : Tab) (j : Nat) : V := if j = cVE then .ty "ValueError" else .ref (T.cA j)
theorem vCls_rel {T : Tab} {j : Nat} {w : Value} (h : RelV (vCls T j) w) : w = clsV T j := by
  unfold vCls at h
  unfold clsV
  by_cases e : j = cVE
  · rw [if_pos e] at h ⊢
    exact h
  · rw [if_neg e] at h ⊢
    exact h
theorem read_isx {P : Prg} {k : Nat} {X : Cx} {W : WX} {T : Tab} (ek : ExcsK T P X.K) {a : Exp} {j : Nat} {σ : L2.St} {H : Hp} {Q : VK} (h : tE X.K T W (ctl P k) (.isx a j) σ H Q) : tCB (rIsX X.K) (tCons (tE X.K T W (ctl P k) a) (tCons (tC (vCls T j)) tNil)) σ H Q := by
  obtain ⟨μ, S, ρ, c, er, h⟩ := h
  refine ⟨μ, S, ρ, c, er, Pst.then h fun x S1 μ1 H1 c1 e1 h1 xv rx => ?_⟩
  cases rx with
  | @exc n cc aa oe vs ha h2 h3 h4 =>
    have h1 : Pst X.K μ1 H1 ((if cc = P.cA n then bnd (lft (P.sub n j)) fun b => ret (VM.D.bl b) else bad) S1) _ _ := h1
    by_cases e : cc = P.cA n
    · rw [if_pos e] at h1
      obtain ⟨b, hb, h1⟩ := Pst.lft c1 (Pst.bnd' h1)
      obtain ⟨q1, q2, q3, q4⟩ := ek n j b hb
      rw [e, q1] at h2
      exact ⟨aa, T.cA n, _, _, b, oe, vs, rfl, fun w => vCls_rel, ha, h2, h3, h4, q2, q3, Pst.now c1 h1 _ (.bl _)⟩
    · rw [if_neg e] at h1
      exact h1.elim
  | _ => exact h1.elim
theorem nox_splR (x y : VM.D) : NoX (splR x y) := by
  unfold splR
  split
  · split <;> first | exact nox_new _ | exact nox_bad
  · exact nox_bad
theorem reps_strs {K : PySem.W.Frag} {μ : List Addr} {H : Hp} : ∀ ys : List PySem.Str, Reps K μ H (ys.map fun y => VM.D.str y.cps.toList) (ys.map V.str)
  | [] => .nil
  | y :: ys => .cons (by
      have h : Rep K μ H (.str y.cps.toList) (.str (st y.cps.toList)) := .str _
      rw [show st y.cps.toList = y from TL.mk_tl _] at h
      exact h) (reps_strs ys)
theorem read_spl {X : Cx} {a b : Exp} {σ : L2.St} {H : Hp} {Q : VK} (h : tE X.K T W C (.spl a b) σ H Q) : tM1 (fun x xs H Q => ∃ a b, x = V.str a ∧ xs = [V.str b] ∧ (b.length == 0) = false ∧ a.length + 2 ≤ sizeLine ∧ rNewStrs (Txt.split a b) H Q) (tE X.K T W C a) (tE X.K T W C b) σ H Q := by
  obtain ⟨μ, S, ρ, c, er, h⟩ := h
  refine ⟨μ, S, ρ, c, er, Pst.then h fun x S1 μ1 H1 c1 e1 h1 xv rx => ?_⟩
  cases rx with
  | str w =>
    have h1 := Pst.now c1 (Pst.bnd h1)
    refine ⟨⟨_, rfl⟩, μ1, S1, ρ, c1, er.ext e1, Pst.then h1 fun y S2 μ2 H2 c2 e2 h2 yv ry => ?_⟩
    have h2 : Pst X.K μ2 H2 (splR (.str w) y S2) _ W0 := Pst.nox (nox_splR _ _) h2
    cases ry with
    | str z =>
      obtain ⟨hb, h3⟩ := Pst.ite h2
      refine ⟨st w, st z, rfl, rfl, ?_, ?_, fun p hp => ?_⟩
      · rw [st_len]
        exact beq_eq_false_iff_ne.mpr (by omega)
      · rw [st_len, ← big_eq]
        exact hb.2
      · exact Pst.newO c2 hp h3 fun μ' H' e q => ⟨_, q, reps_strs _⟩
    | _ => exact h2.elim
  | _ => exact (Pst.bnd h1).elim
theorem nox_srtR (x : VM.D) : NoX (srtR x) := by
  unfold srtR
  split
  · refine nox_bnd (nox_lstOf _) fun _ => nox_bnd (nox_lft _) fun _ => ?_
    split <;> first | exact nox_new _ | exact nox_bad
  · exact nox_bad
theorem same_rows {f : List Int → Int} : ∀ (A B : List (List Int)), A.Pairwise (fun a b => f a ≤ f b) → A.Nodup → B.Pairwise (fun a b => f a < f b) → (∀ x, x ∈ A ↔ x ∈ B) → A = B
  | [], [], _, _, _, _ => rfl
  | [], b :: B, _, _, _, h => by
    have := (h b).mpr (List.mem_cons_self ..)
    cases this
  | a :: A, [], _, _, _, h => by
    have := (h a).mp (List.mem_cons_self ..)
    cases this
  | a :: A, b :: B, p, n, q, h => by
    obtain ⟨p1, p2⟩ := List.pairwise_cons.mp p
    obtain ⟨n1, n2⟩ := List.nodup_cons.mp n
    obtain ⟨q1, q2⟩ := List.pairwise_cons.mp q
    have ab : a = b := by
      rcases List.mem_cons.mp ((h a).mp (List.mem_cons_self ..)) with z | z
      · exact z
      · rcases List.mem_cons.mp ((h b).mpr (List.mem_cons_self ..)) with y | y
        · exact y.symm
        · have := q1 a z
          have := p1 b y
          omega
    subst ab
    have := same_rows A B p2 n2 q2 fun x => by
      constructor
      · intro hx
        rcases List.mem_cons.mp ((h x).mp (List.mem_cons_of_mem _ hx)) with z | z
        · subst z; exact absurd hx n1
        · exact z
      · intro hx
        rcases List.mem_cons.mp ((h x).mpr (List.mem_cons_of_mem _ hx)) with z | z
        · subst z; have := q1 x hx; omega
        · exact z
    rw [this]
theorem ints_rep {K : PySem.W.Frag} {μ : List Addr} {H : Hp} : ∀ {l : List VM.D} {k : List Int}, Paired (fun d i => intD d = some i) l k → Reps K μ H l (k.map V.int)
  | [], _, .nil => .nil
  | d :: l, _, .cons h t => by
    cases d <;> first | (cases h; done) | skip
    cases h
    exact .cons (.int _) (ints_rep t)
theorem ints_vals {K : PySem.W.Frag} {μ : List Addr} {H : Hp} : ∀ {l : List VM.D} {k : List Int} {vs : List V}, Paired (fun d i => intD d = some i) l k → Reps K μ H l vs → vs = k.map V.int
  | [], _, _, .nil, .nil => rfl
  | d :: l, _, _, .cons h t, .cons r rs => by
    cases r with
    | int i => cases h; rw [ints_vals t rs]; rfl
    | _ => cases h
theorem rows_rep {K : PySem.W.Frag} {μ : List Addr} {H : Hp} : ∀ {l : List VM.D} {kk : List (List Int)} {vs : List V}, Paired (fun d k => intsD d = some k) l kk → Reps K μ H l vs →
    ∃ ks : List (Addr × List Int), vs = ks.map (fun p => V.ref p.1) ∧ ks.map (·.2) = kk ∧ ∀ p ∈ ks, SqT K H p.1 (p.2.map V.int)
  | [], _, _, .nil, .nil => ⟨[], rfl, rfl, fun _ z => nomatch z⟩
  | d :: l, _, _, .cons h t, .cons r rs => by
    obtain ⟨ks, e1, e2, e3⟩ := rows_rep t rs
    cases r with
    | @tup a vs ds q r =>
      have := ints_vals (mapM_some h) r
      subst this
      refine ⟨(a, _) :: ks, by rw [e1]; rfl, by rw [← e2]; rfl, fun p hp => ?_⟩
      rcases List.mem_cons.mp hp with z | z
      · subst z; exact q
      · exact e3 p z
    | _ => cases h
theorem rows_back {K : PySem.W.Frag} {μ : List Addr} {H : Hp} : ∀ {l : List VM.D} (L : List (Addr × List Int)), Paired (fun d k => intsD d = some k) l (L.map (·.2)) → (∀ p ∈ L, SqT K H p.1 (p.2.map V.int)) → Reps K μ H l (L.map fun q => V.ref q.1)
  | _, [], .nil, _ => .nil
  | _, p :: L, .cons h t, hs => by
    refine .cons ?_ (rows_back L t fun q hq => hs q (List.mem_cons_of_mem _ hq))
    rename_i d l
    cases d <;> first | (cases h; done) | skip
    exact .tup (hs p (List.mem_cons_self ..)) (ints_rep (mapM_some h))
theorem risD_of {kk : List (List Int)} (h : risD kk = true) : kk.length < 64 ∧ ∃ d, 1 ≤ d ∧ (∀ k ∈ kk, k.length = d ∧ TS.Bd 64 k) ∧ kk.Pairwise fun a b => TS.code 64 a < TS.code 64 b := by
  unfold risD at h
  rw [Bool.and_eq_true, Bool.and_eq_true, Bool.and_eq_true] at h
  obtain ⟨⟨⟨h1, h2⟩, h3⟩, h4⟩ := h
  refine ⟨of_decide_eq_true h1, _, of_decide_eq_true h2, fun k hk => ?_, of_decide_eq_true h4⟩
  have := List.all_eq_true.mp h3 k hk
  rw [Bool.and_eq_true] at this
  refine ⟨of_decide_eq_true this.1, fun m hm => ?_⟩
  have := List.all_eq_true.mp this.2 m hm
  rw [Bool.and_eq_true] at this
  exact ⟨of_decide_eq_true this.1, of_decide_eq_true this.2⟩
theorem read_srt {X : Cx} {a : Exp} {σ : L2.St} {H : Hp} {Q : VK} (h : tE X.K T W C (.srt a) σ H Q) : tCB (rSortedT X.K X.prog X.w) (tCons (tCB (rSetOfT X.K X.prog X.w) (tCons (tE X.K T W C a) tNil)) tNil) σ H Q := by
  obtain ⟨μ, S, ρ, c, er, h⟩ := h
  refine ⟨μ, S, ρ, c, er, Pst.then h fun x S1 μ1 H1 c1 e1 h1 xv rx => ?_⟩
  have h1 : Pst X.K μ1 H1 (srtR x S1) _ W0 := Pst.nox (nox_srtR _) h1
  cases rx with
  | @ref n a hn =>
    obtain ⟨l, vs, q, r, h2⟩ := pst_lst c1 hn h1
    obtain ⟨kk, hk, h2⟩ := Pst.lft c1 (Pst.bnd h2)
    obtain ⟨hb, h3⟩ := Pst.ite h2
    obtain ⟨few, d, hd, hall, hp⟩ := risD_of hb
    have hk := mapM_some hk
    obtain ⟨ks, rfl, rfl, hks⟩ := rows_rep hk r
    refine ⟨a, ks, rfl, q, hks, by simpa using few, fun a2 L hn2 hsub hcov => ?_⟩
    obtain ⟨e2, c2⟩ := c1.side (u := SetTO X.prog X.w a2 L) hn2
    refine ⟨a2, L, d, 64, rfl, upd_same, fun p hp => e2.tup _ _ (hks p (hsub p hp)), hd, fun p hp => hall _ (List.mem_map_of_mem (hsub p hp)), fun L' p pm nd lt pw hpn => ?_⟩
    have same : L'.map (·.2) = ks.map (·.2) := by
      refine same_rows (f := TS.code 64) _ _ (List.pairwise_map.mpr pw) nd hp fun x => ?_
      constructor
      · intro hx
        obtain ⟨y, hy, rfl⟩ := List.mem_map.mp hx
        exact List.mem_map_of_mem (hsub y (pm.mem_iff.mp hy))
      · intro hx
        obtain ⟨y, hy, rfl⟩ := List.mem_map.mp hx
        obtain ⟨z, hz, ez⟩ := List.mem_map.mp (hcov y hy)
        exact List.mem_map.mpr ⟨z, pm.mem_iff.mpr hz, ez⟩
    rw [← same] at hk
    have hL : ∀ q ∈ L', SqT X.K (upd H1 a2 (SetTO X.prog X.w a2 L)) q.1 (q.2.map V.int) := fun q hq => e2.tup _ _ (hks q (hsub q (pm.mem_iff.mp hq)))
    exact Pst.newO c2 hpn (Pst.ext h3 e2) fun μ' H' e z => ⟨_, z, rows_back L' hk fun q hq => e.tup _ _ (hL q hq)⟩
  | _ => exact h1.elim
theorem nox_lsetR (x : VM.D) : NoX (lsetR x) := by
  unfold lsetR
  split
  · refine nox_bnd (nox_lstOf _) fun _ => ?_
    split <;> first | exact nox_bnd (nox_lft _) fun _ => nox_ret _ | exact nox_bad
  · exact nox_bad
theorem keys_vals {K : PySem.W.Frag} {μ : List Addr} {H : Hp} : ∀ {l : List VM.D} {zs : List Key} {vs : List V}, Paired (fun d z => keyOf d = some z) l zs → Reps K μ H l vs → vs = zs.map fun z => kV (kS z)
  | [], _, _, .nil, .nil => rfl
  | d :: l, _, _, .cons h t, .cons r rs => by rw [key_rep r h, keys_vals t rs]; rfl
theorem read_lset {X : Cx} {a : Exp} {σ : L2.St} {H : Hp} {Q : VK} (h : tE X.K T W C (.lset a) σ H Q) : tCB (rLk X.prog X.w) (tCons (tCB (rSetL X.K X.prog X.w) (tCons (tE X.K T W C a) tNil)) tNil) σ H Q := by
  obtain ⟨μ, S, ρ, c, er, h⟩ := h
  refine ⟨μ, S, ρ, c, er, Pst.then h fun x S1 μ1 H1 c1 e1 h1 xv rx => ?_⟩
  have h1 : Pst X.K μ1 H1 (lsetR x S1) _ W0 := Pst.nox (nox_lsetR _) h1
  cases rx with
  | @ref n a hn =>
    obtain ⟨l, vs, q, r, h2⟩ := pst_lst c1 hn h1
    obtain ⟨hb, h3⟩ := Pst.ite h2
    obtain ⟨m, hm, h4⟩ := Pst.lft c1 (Pst.bnd h3)
    unfold uniq at hm
    cases hz : l.mapM keyOf with
    | none => rw [hz] at hm; cases hm
    | some zs =>
      rw [hz] at hm
      cases hm
      have hz := mapM_some hz
      have lz := Paired.length hz
      have := keys_vals hz r
      subst this
      have s1 := seenK_le zs
      refine ⟨a, zs, rfl, q, by omega, fun a2 F hn2 _ => ⟨a2, F, _, rfl, upd_same, by omega, ?_⟩⟩
      obtain ⟨e2, c2⟩ := c1.side (u := SetG X.prog X.w a2 F (seenK zs).length) hn2
      exact Pst.done c2 (Pst.ext h4 e2) (.int _)
  | _ => exact h1.elim
theorem Reps.reverse {K : PySem.W.Frag} {μ : List Addr} {H : Hp} : ∀ {ds : List VM.D} {vs : List V}, Reps K μ H ds vs → Reps K μ H ds.reverse vs.reverse
  | _, _, .nil => .nil
  | _, _, .cons h r => by
    rw [List.reverse_cons, List.reverse_cons]
    exact Reps.append (Reps.reverse r) (.cons h .nil)
theorem read_rev {X : Cx} {a : Exp} {σ : L2.St} {H : Hp} {Q : VK} (h : tE X.K T W C (.rev a) σ H Q) : tRevT X.K (tE X.K T W C a) σ H Q := by
  obtain ⟨μ, S, ρ, c, er, h⟩ := h
  refine ⟨μ, S, ρ, c, er, Pst.then h fun x S1 μ1 H1 c1 e1 h1 xv rx => ?_⟩
  cases rx with
  | @tup a vs ds q r =>
    refine ⟨a, vs, rfl, q, fun p hp => ?_⟩
    obtain ⟨e, c2⟩ := c1.side (u := .tup vs.reverse) hp
    exact Pst.now c2 (Pst.ext h1 e) _ (.tup (SqT.of upd_same) (r.reverse.ext e))
  | _ => exact h1.elim
theorem read_rvl {X : Cx} {a : Exp} {σ : L2.St} {H : Hp} {Q : VK} (h : tE X.K T W C (.rvl a) σ H Q) : tRevL X.K (tE X.K T W C a) σ H Q := by
  obtain ⟨μ, S, ρ, c, er, h⟩ := h
  refine ⟨μ, S, ρ, c, er, Pst.then h fun x S1 μ1 H1 c1 e1 h1 xv rx => ?_⟩
  cases rx with
  | @ref n p hn =>
    obtain ⟨l, vs, q, r, h2⟩ := pst_lst c1 hn h1
    refine ⟨p, vs, rfl, q, fun p2 hp => ?_⟩
    exact Pst.newO c1 hp (Pst.nox (nox_new _) h2) fun μ' H' e z => ⟨_, z, r.reverse.ext e⟩
  | _ => exact h1.elim
theorem read_mx {X : Cx} {a b : Exp} {σ : L2.St} {H : Hp} {Q : VK} (h : tE X.K T W C (.mx a b) σ H Q) : tCB (fun xs H Q => ∃ i j, xs = [V.int i, V.int j] ∧ Q (.int (if j > i then j else i)) H) (tCons (tE X.K T W C a) (tCons (tE X.K T W C b) tNil)) σ H Q := by
  obtain ⟨μ, S, ρ, c, er, h⟩ := h
  refine ⟨μ, S, ρ, c, er, Pst.then h fun x S1 μ1 H1 c1 e1 h1 xv rx => ⟨μ1, S1, ρ, c1, er.ext e1, Pst.then h1 fun y S2 μ2 H2 c2 e2 h2 yv ry => ?_⟩⟩
  cases rx with
  | int i =>
    cases ry with
    | int j => exact ⟨i, j, rfl, Pst.now c2 h2 _ (.int _)⟩
    | _ => exact h2.elim
  | _ => exact h2.elim
theorem chs_nil {c : Cc} {sc : Scope} {es : Exps} (h : chs c sc es [] = true) : es = .nil := by
  cases es with
  | nil => rfl
  | cons _ _ => cases h
theorem all_mem {l own : List Nat} (h : l.all (fun i => own.contains i) = true) : ∀ i ∈ l, i ∈ own := by
  intro i hi
  have := List.all_eq_true.mp h i hi
  exact List.contains_iff_mem.mp this
theorem pe_callF {P : Prg} {k i : Nat} {c : Cc} {sc : Scope} (g : Good T P k c sc X W) {x : PySem.Str} {es : Exps} {l : List Expr} {p pos : Pos} (hf : c.fn[i]? = some x) (hg : glB sc x = true) (hn : nmOk x = true) (hs : chs c sc es l = true)
    (ha : PA X l (tA X.K T W (ctl P k) es)) : PE X (.Call (.Name x p) l [] pos) (tE X.K T W (ctl P k) (.call i es)) := by
  obtain ⟨f, fd, ps, hm, hk, hb, F⟩ := g.fns i x hf
  cases l with
  | nil =>
    have := chs_nil hs
    subst this
    refine PE.imp (pe_callG0 F g.gd g.room (glB_of g.sc hg) hm hk hb g.tk (nmOk_of hn).1) fun σ H Q h => ?_
    have h2 := read_call h
    exact read_nil h2
  | cons e r =>
    have st := chs_star hs
    rw [List.all_cons, Bool.and_eq_true, Bool.not_eq_true'] at st
    exact PE.imp (pe_callG F g.gd g.room (glB_of g.sc hg) hm hk hb g.tk ha (nmOk_of hn).1 (starB_se st.1) (stars_none st.2)) fun σ H Q h => read_call h
end
end VM
set_option maxHeartbeats 4000000
namespace VM
open PySem L2 PySem.Spec PyProof.Rows
theorem one_order {α : Type} {r : α → α → Prop} (as : ∀ a b, r a b → ¬ r b a) : ∀ (A B : List α), A.Pairwise r → B.Pairwise r → (∀ x, x ∈ A ↔ x ∈ B) → A = B
  | [], [], _, _, _ => rfl
  | [], b :: B, _, _, h => by have := (h b).mpr (.head _); cases this
  | a :: A, [], _, _, h => by have := (h a).mp (.head _); cases this
  | a :: A, b :: B, p, q, h => by
    obtain ⟨p1, p2⟩ := List.pairwise_cons.mp p
    obtain ⟨q1, q2⟩ := List.pairwise_cons.mp q
    have ab : a = b := by
      rcases List.mem_cons.mp ((h a).mp (.head _)) with e | e
      · exact e
      · rcases List.mem_cons.mp ((h b).mpr (.head _)) with y | y
        · exact y.symm
        · exact absurd (q1 a e) (as _ _ (p1 b y))
    subst ab
    rw [one_order as A B p2 q2 fun x => ?_]
    constructor
    · intro hx
      rcases List.mem_cons.mp ((h x).mp (.tail _ hx)) with e | e
      · subst e; exact absurd (p1 x hx) (fun z => as _ _ z z)
      · exact e
    · intro hx
      rcases List.mem_cons.mp ((h x).mpr (.tail _ hx)) with e | e
      · subst e; exact absurd (q1 x hx) (fun z => as _ _ z z)
      · exact e
theorem insT_mem (w : List Nat) : ∀ (l : List (List Nat)) (x : List Nat), x ∈ insT w l ↔ x = w ∨ x ∈ l
  | [], x => by simp [insT]
  | y :: l, x => by
    unfold insT
    split
    · rename_i e
      rw [e, List.mem_cons]
      exact ⟨.inr, fun h => h.elim .inl id⟩
    · split
      · rw [List.mem_cons]
      · rw [List.mem_cons, insT_mem w l, List.mem_cons]
        exact ⟨fun h => h.elim (fun e => .inr (.inl e)) fun h => h.elim .inl fun h => .inr (.inr h), fun h => h.elim (fun e => .inr (.inl e)) fun h => h.elim .inl fun h => .inr (.inr h)⟩
theorem insT_up (w : List Nat) : ∀ l : List (List Nat), l.Pairwise (· < ·) → (insT w l).Pairwise (· < ·)
  | [], _ => List.pairwise_cons.mpr ⟨fun _ h => (by cases h), .nil⟩
  | y :: l, h => by
    obtain ⟨h1, h2⟩ := List.pairwise_cons.mp h
    unfold insT
    split
    · exact h
    · rename_i ne
      split
      · rename_i lt
        exact List.pairwise_cons.mpr ⟨fun z hz => by
          rcases List.mem_cons.mp hz with rfl | hz
          · exact lt
          · exact List.lt_trans lt (h1 z hz), h⟩
      · rename_i nlt
        refine List.pairwise_cons.mpr ⟨fun z hz => ?_, insT_up w l h2⟩
        rcases (insT_mem w l z).mp hz with rfl | hz
        · rcases List.le_iff_lt_or_eq.mp (List.not_lt.mp nlt) with q | q
          · exact q
          · exact absurd q.symm ne
        · exact h1 z hz
theorem sortW_mem (ws : List (List Nat)) (x : List Nat) : x ∈ sortW ws ↔ x ∈ ws := by
  induction ws with
  | nil => exact Iff.rfl
  | cons w ws ih =>
    show x ∈ insT w (sortW ws) ↔ _
    rw [insT_mem, ih, List.mem_cons]
theorem sortW_up (ws : List (List Nat)) : (sortW ws).Pairwise (· < ·) := by
  induction ws with
  | nil => exact .nil
  | cons w ws ih => exact insT_up w _ ih
theorem rising_all : ∀ (p : Str) (l : List Str), risingS p l = true → (∀ x ∈ l, ¬ x.cps.toList < p.cps.toList) ∧ l.Pairwise fun a b => ¬ b.cps.toList < a.cps.toList
  | p, [], _ => ⟨fun _ h => (by cases h), .nil⟩
  | p, x :: r, h => by
    have h : (!ltCps x.cps.toList p.cps.toList && risingS x r) = true := h
    rw [Bool.and_eq_true] at h
    have h1 : ¬ x.cps.toList < p.cps.toList := by
      have := h.1
      rw [ltCps_eq] at this
      intro z
      rw [decide_eq_true z] at this
      cases this
    obtain ⟨a1, a2⟩ := rising_all x r h.2
    refine ⟨fun y hy => ?_, List.pairwise_cons.mpr ⟨a1, a2⟩⟩
    rcases List.mem_cons.mp hy with rfl | hy
    · exact h1
    · exact List.not_lt.mpr (List.le_trans (List.not_lt.mp h1) (List.not_lt.mp (a1 y hy)))
theorem texts_are {ys : List Str} (nd : ys.Nodup) (so : sortedS ys = true) {ws : List (List Nat)} (mem : ∀ z, z ∈ ys ↔ z ∈ ws.map st) : ys = (sortW ws).map st := by
  have back : ∀ x : Str, st x.cps.toList = x := fun x => TL.mk_tl x
  have e1 : ys = (ys.map fun x => x.cps.toList).map st := by
    rw [List.map_map]
    exact (List.map_id'' (fun x => back x) ys).symm
  have pw : (ys.map fun x => x.cps.toList).Pairwise (· < ·) := by
    rw [List.pairwise_map]
    have le : ys.Pairwise fun a b => ¬ b.cps.toList < a.cps.toList := by
      cases ys with
      | nil => exact .nil
      | cons x r => exact List.pairwise_cons.mpr (rising_all x r so)
    refine (le.and nd).imp fun {a b} h => ?_
    rcases List.le_iff_lt_or_eq.mp (List.not_lt.mp h.1) with q | q
    · exact q
    · exact absurd (by rw [← back a, ← back b, q]) h.2
  have e2 : (ys.map fun x => x.cps.toList) = sortW ws := one_order (fun a b => List.lt_asymm) _ _ pw (sortW_up ws) fun x => by
    rw [sortW_mem]
    constructor
    · intro hx
      obtain ⟨y, hy, rfl⟩ := List.mem_map.mp hx
      obtain ⟨u, hu, e⟩ := List.mem_map.mp ((mem y).mp hy)
      rw [← e]
      exact hu
    · intro hx
      exact List.mem_map.mpr ⟨st x, (mem _).mpr (List.mem_map.mpr ⟨x, hx, rfl⟩), rfl⟩
  rw [e1, e2]
theorem reps_texts {K : PySem.W.Frag} {μ : List Addr} {H : Hp} : ∀ us : List (List Nat), Reps K μ H (us.map .str) ((us.map st).map V.str)
  | [] => .nil
  | u :: us => .cons (.str u) (reps_texts us)
theorem nox_srsR (x : VM.D) : NoX (srsR x) := by
  unfold srsR
  split
  · refine nox_bnd (nox_lstOf _) fun _ => nox_bnd (nox_lft _) fun _ => ?_
    split <;> first | exact nox_new _ | exact nox_bad
  · exact nox_bad
theorem strD_key {d : VM.D} {u : List Nat} (h : strD d = some u) : d = .str u ∧ keyOf d = some (.inr u) := by
  cases d <;> first | (cases h; done) | skip
  cases h
  exact ⟨rfl, rfl⟩
section
variable {T : Tab} {W : WX} {C : Ctl}
theorem read_srs {X : Cx} {a : Exp} {σ : L2.St} {H : Hp} {Q : VK} (h : tE X.K T W C (.srs a) σ H Q) : tCB (rSortG X.prog X.w) (tCons (tCB (rSetL X.K X.prog X.w) (tCons (tE X.K T W C a) tNil)) tNil) σ H Q := by
  obtain ⟨μ, S, ρ, c, er, h⟩ := h
  refine ⟨μ, S, ρ, c, er, Pst.then h fun x S1 μ1 H1 c1 e1 h1 xv rx => ?_⟩
  have h1 : Pst X.K μ1 H1 (srsR x S1) _ W0 := Pst.nox (nox_srsR _) h1
  cases rx with
  | @ref n a hn =>
    obtain ⟨l, vs, q, r, h2⟩ := pst_lst c1 hn h1
    obtain ⟨ws, hw, h2⟩ := Pst.lft c1 (Pst.bnd h2)
    obtain ⟨few, h3⟩ := Pst.ite h2
    have hz : Paired (fun d z => keyOf d = some z) l (ws.map fun u => (.inr u : Key)) := by
      have key : ∀ (l : List VM.D) (ws : List (List Nat)), Paired (fun d u => strD d = some u) l ws → Paired (fun d z => keyOf d = some z) l (ws.map fun u => (.inr u : Key)) := by
        intro l ws p
        induction p with
        | nil => exact .nil
        | cons h _ ih => exact .cons (strD_key h).2 ih
      exact key l ws (mapM_some hw)
    have := keys_vals hz r
    subst this
    have s1 := seenK_le (ws.map fun u => (.inr u : Key))
    rw [List.length_map] at s1
    refine ⟨a, ws.map fun u => (.inr u : Key), rfl, q, by rw [List.length_map]; omega, fun a2 F hn2 hF => ⟨a2, F, _, ws.map st, rfl, upd_same, by omega, fun k => ?_, fun ys p nd mem so hp => ?_⟩⟩
    · rw [hF]
      constructor
      · rintro ⟨z, hz, rfl⟩
        obtain ⟨u, hu, rfl⟩ := List.mem_map.mp hz
        exact ⟨st u, List.mem_map.mpr ⟨u, hu, rfl⟩, rfl⟩
      · rintro ⟨z, hz, rfl⟩
        obtain ⟨u, hu, rfl⟩ := List.mem_map.mp hz
        exact ⟨.inr u, List.mem_map.mpr ⟨u, hu, rfl⟩, rfl⟩
    · obtain ⟨e2, c2⟩ := c1.side (u := SetG X.prog X.w a2 F (seenK (ws.map fun u => (.inr u : Key))).length) hn2
      rw [texts_are nd so mem]
      exact Pst.newO c2 hp (Pst.ext h3 e2) fun μ' H' e z => ⟨_, z, reps_texts _⟩
  | _ => exact h1.elim
structure CS (P : Program) (w : World) (K : PySem.W.Frag) (q : Seq) (step : VM.D → List (List Nat) → M (List (List Nat))) (l : List (List Nat)) (Sl : Store) (μ1 : List Addr) (H1 : Hp) (Dl : Addr) (i f : Nat) (H' : Hp) : Prop where
  ex : ∃ μ' S' acc F n, Cor K μ' S' H' ∧ Ext K μ1 H1 μ' H' ∧ Dl ∉ μ' ∧ acc.length ≤ 63 ∧ n ≤ acc.length ∧ H' Dl = some (SetG P w Dl F n) ∧ (∀ j, F j = true ↔ ∃ u ∈ acc, j = kS (.inr u)) ∧ cmpI q step f i acc S' = .ok l Sl
theorem read_srtc {P : Program} {w : World} {K : PySem.W.Frag} {own : List Nat} {tg : Tg} {src : Src} {ifs : Exps} {elt : Exp} {σ : L2.St} {H : Hp} {Q : VK} (hsub : ∀ i ∈ tgs tg, i ∈ own) (h : tE K T W C (.srtc own tg src ifs elt) σ H Q) :
    tCB (rSortG P w) (tCons (tSk P w (tSr K T W C src) (tG K tg) (tI K T WF C ifs) (tE K T WF C elt) own) tNil) σ H Q := by
  obtain ⟨μ, S, ρ, c, er, h⟩ := h
  refine ⟨μ, S, ρ, c, er, Pst.then h fun q S1 μ1 H1 c1 e1 h1 J hJ Dl hD => ?_⟩
  obtain ⟨l, Sl, hl, h1⟩ := pst_noExc (m := cmpI q _ (q.size S1 + 1) 0 []) h1
  have hmD : Dl ∉ μ1 := c1.out hD
  refine ⟨fun i m H' => CS P w K q _ l Sl μ1 H1 Dl i m H', ⟨q.size S1 + 1, ⟨μ1, S1, [], fun _ => false, 0, (c1.side hD).2, (c1.side hD).1, hmD, Nat.zero_le _, Nat.le_refl _, upd_same, fun j => ⟨fun z => (by cases z), fun ⟨k, hk, _⟩ => (by cases hk)⟩, hl⟩⟩, ?_⟩
  rintro i m H' ⟨μ', S', acc, F, n, c', e', hm', hle, hn, hH', hF, hc⟩
  obtain ⟨f', rfl, ⟨hi, rfl, rfl⟩ | ⟨d, acc', S2, hi, hst, hc'⟩⟩ := cmpI_ok hc
  · refine .inl ⟨(hJ μ' _ H' i c' e'.mon).2 hi, Dl, F, n, l.map st, rfl, hH', by omega, fun k => ?_, fun ys p nd mem so hp => ?_⟩
    · rw [hF]
      constructor
      · rintro ⟨u, hu, rfl⟩
        exact ⟨st u, List.mem_map.mpr ⟨u, hu, rfl⟩, rfl⟩
      · rintro ⟨z, hz, rfl⟩
        obtain ⟨u, hu, rfl⟩ := List.mem_map.mp hz
        exact ⟨u, hu, rfl⟩
    · rw [texts_are nd so mem]
      exact Pst.newO c' hp (Pst.ext h1 e') fun μ2 H2 e z => ⟨_, z, reps_texts _⟩
  · obtain ⟨go, yl⟩ := (hJ μ' _ H' i c' e'.mon).1 d hi
    refine .inr ⟨go, fun H2 => CS P w K q _ l Sl μ1 H1 Dl (i + 1) f' H2, fun H2 z => ⟨f', Nat.lt_succ_self _, z⟩, fun x H2 y => ?_⟩
    obtain ⟨e2, c2, rd⟩ := yl x H2 y
    obtain ⟨ρ', S3, hb, hst⟩ := ok_bnd hst
    obtain ⟨hb, e3⟩ := ok_lft hb
    rw [e3] at hst
    obtain ⟨b, S4, hk, hst⟩ := ok_bnd hst
    have er2 : EnvR K μ' H2 (wip ρ own) (wipe σ own) := (((er.ext e1).ext e').ext e2).wip own
    refine ⟨μ', wip ρ own, d, ρ', er2, rd, hb, fun σ2 er3 fr hlen => ⟨?_, ?_⟩⟩
    · exact (wipe_eq (fun j hj => fr j fun z => hj (hsub j z)) hlen).trans wipe_wipe
    · refine ⟨μ', S', ρ', c2, er3, Pst.of_ok hk fun μ4 H4 c4 e4 => ?_⟩
      have hD2 : H2 Dl = some (SetG P w Dl F n) := e2.fr _ _ hm' hH'
      have hD4 : H4 Dl = some (SetG P w Dl F n) := e4.fr _ _ hm' hD2
      have hm4 : Dl ∉ μ4 := e4.out hD2 hm'
      have e14 : Ext K μ1 H1 μ4 H4 := (e'.trans e2).trans e4
      cases b with
      | false =>
        cases hst
        show CS P w K q _ l Sl μ1 H1 Dl (i + 1) f' H4
        exact ⟨μ4, _, _, F, n, c4, e14, hm4, hle, hn, hD4, hF, hc'⟩
      | true =>
        obtain ⟨yv, S5, hy, hst⟩ := ok_bnd hst
        obtain ⟨u, S6, hu, hst⟩ := ok_bnd hst
        obtain ⟨hu', e6⟩ := ok_lft hu
        rw [e6] at hst
        obtain ⟨hz, hst⟩ := ok_ite hst
        cases hst
        refine ⟨μ4, S4, ρ', c4, er3.ext e4, Pst.of_ok hy fun μ5 H5 c5 e5 v rv => ?_⟩
        have hD5 : H5 Dl = some (SetG P w Dl F n) := e5.fr _ _ hm4 hD4
        have hm5 : Dl ∉ μ5 := e5.out hD4 hm4
        refine ⟨kS (.inr u), F, n, key_rep rv (strD_key hu').2, hD5, by show _ < 4096; omega, ?_⟩
        obtain ⟨c6, mo⟩ := c5.over (u := SetG P w Dl (fun j => F j || decide (j = kS (.inr u))) (if F (kS (.inr u)) = true then n else n + 1)) hm5 (fun o u z => by rw [hD5] at z; cases z) fun xs z => by
          rcases z with z | ⟨o, z⟩
          · rw [hD5] at z; cases z
          · rw [hD5] at z; cases z
        refine ⟨μ5, _, acc ++ [u], fun j => F j || decide (j = kS (.inr u)), if F (kS (.inr u)) = true then n else n + 1, c6, ((e14.trans e5).over hD), hm5, by rw [List.length_append, List.length_singleton]; omega, ?_, upd_same, fun j => ?_, hc'⟩
        · rw [List.length_append, List.length_singleton]
          split <;> omega
        · rw [Bool.or_eq_true, decide_eq_true_eq, hF]
          constructor
          · rintro (⟨k', h1, h2⟩ | z)
            · exact ⟨k', List.mem_append_left _ h1, h2⟩
            · exact ⟨u, List.mem_append_right _ (List.mem_singleton.mpr rfl), z⟩
          · rintro ⟨k', h1, h2⟩
            rcases List.mem_append.mp h1 with h1 | h1
            · exact .inl ⟨k', h1, h2⟩
            · rw [List.mem_singleton.mp h1] at h2
              exact .inr h2
end
end VM
namespace VM
open PySem L2
section
variable {K : PySem.W.Frag} {μ μ' : List Addr} {H H' : Hp} {S S' : Store} {a : Addr} {od : PySem.Obj} {xs : List (NestedKey × Addr × Value)}
theorem freeN_tup (h : H a = some (.frz od (.ext (NdP a xs)))) (b : Addr) (ys : List V) (q : SqT K H b ys) : SqT K (upd H a (.ext (NdP a xs))) b ys := by
  rcases q with q | q
  · have ne : b ≠ a := fun z => by
      subst z
      rcases q with q | ⟨o, q⟩
      · rw [h] at q; cases q
      · rw [h] at q; cases q
    exact .inl (rd_ext (fun o z => by rw [upd_ne ne]; exact z) q)
  · exact .inr q
theorem freeN_exc (h : H a = some (.frz od (.ext (NdP a xs)))) (b : Addr) (o : PySem.Obj) (q : H b = some (.frz o (.own 0))) : upd H a (.ext (NdP a xs)) b = some (.frz o (.own 0)) := by
  rw [upd_ne (fun z => by rw [z, h] at q; cases q)]
  exact q
theorem Rep.freeN (h : H a = some (.frz od (.ext (NdP a xs)))) {d : D} {v : V} (r : Rep K μ H d v) : Rep K μ (upd H a (.ext (NdP a xs))) d v := r.sub (fun _ _ z => z) (freeN_tup h) (freeN_exc h)
theorem Reps.freeN (h : H a = some (.frz od (.ext (NdP a xs)))) {d : List D} {v : List V} (r : Reps K μ H d v) : Reps K μ (upd H a (.ext (NdP a xs))) d v := r.sub (fun _ _ z => z) (freeN_tup h) (freeN_exc h)
theorem Cor.freeN (c : Cor K μ S H) {n : Nat} {kvs : List (Nk × Int)} (ha : μ[n]? = some a) (h : H a = some (.frz od (.ext (NdP a xs)))) (hk : NRep K μ H kvs xs) (nn : (kvs.map (·.1)).Nodup) : Cor K μ (S.set n (.nd kvs)) (upd H a (.ext (NdP a xs))) := by
  refine ⟨by simp [c.len], c.nd, fun m ob b h1 h2 => ?_⟩
  by_cases hmn : m = n
  · subst hmn
    rw [ha] at h2
    cases h2
    have hl : m < S.length := by rw [← c.len]; exact (List.getElem?_eq_some_iff.mp ha).1
    rw [List.getElem?_set_self hl] at h1
    cases h1
    exact ⟨xs, upd_same, Paired.mapP hk fun _ _ z => ⟨z.1, z.2.1.freeN h, z.2.2⟩, nn⟩
  · rw [List.getElem?_set_ne (Ne.symm hmn)] at h1
    have hb : b ≠ a := fun z => hmn (nd_ix c.nd h2 (by rw [z]; exact ha))
    have q := c.obj m ob b h1 h2
    have f : ∀ o, H b = some o → upd H a (.ext (NdP a xs)) b = some o := fun o z => by rw [upd_ne hb]; exact z
    cases ob with
    | lst ds => obtain ⟨vs, q, r⟩ := q; exact ⟨vs, f _ q, r.freeN h⟩
    | ro ds => obtain ⟨vs, o, q, r⟩ := q; exact ⟨vs, o, f _ q, r.freeN h⟩
    | dk kvs => obtain ⟨vs, q, r⟩ := q; exact ⟨vs, f _ q, Paired.mapP r fun _ _ z => ⟨z.1, z.2.freeN h⟩⟩
    | fk kvs => obtain ⟨vs, o, q, r⟩ := q; exact ⟨vs, o, f _ q, Paired.mapP r fun _ _ z => ⟨z.1, z.2.freeN h⟩⟩
    | ins q c fs => obtain ⟨dx, vs, q, r⟩ := q; exact ⟨dx, vs, f _ q, Paired.mapP r fun _ _ z => ⟨z.1, z.2.freeN h⟩⟩
    | nd _ => obtain ⟨ys, q, r, n⟩ := q; exact ⟨ys, f _ q, Paired.mapP r fun _ _ z => ⟨z.1, z.2.1.freeN h, z.2.2⟩, n⟩
    | nf _ => obtain ⟨ys, o, q, r, n⟩ := q; exact ⟨ys, o, f _ q, Paired.mapP r fun _ _ z => ⟨z.1, z.2.1.freeN h, z.2.2⟩, n⟩
theorem Ext.freeN (e : Ext K μ H μ' H') {u : HO} (hm : a ∈ μ) (h : H a = some (.ext (NdP a xs))) : Ext K μ H μ' (upd H' a u) := by
  refine ⟨e.pre, e.new, fun b o n q => ?_, fun b ys q => ?_, fun b o u q => ?_⟩
  · rw [upd_ne (fun z => n (by rw [z]; exact hm))]
    exact e.fr b o n q
  · rcases q with q | q
    · have ne : b ≠ a := fun z => by
        subst z
        rcases q with q | ⟨o, q⟩
        · rw [h] at q; cases q
        · rw [h] at q; cases q
      exact sqt_ext (fun o z => by rw [upd_ne ne]; exact z) (e.tup b ys (.inl q))
    · exact .inr q
  · rw [upd_ne (fun z => by rw [z, h] at q; cases q)]
    exact e.exc b o u q
end
end VM
namespace VM
open PySem L2
section
variable {K : PySem.W.Frag} {T : Tab} {W : WX} {C : Ctl} {σ : L2.St} {H : Hp} {Q : VK}
theorem read_lkE {i : Nat} {e : Exp} (h : tE K T W C (.lkE i e) σ H Q) : tLockE (tE K T W C e) σ H Q := by
  obtain ⟨μ, S, ρ, c, er, h⟩ := h
  obtain ⟨x, hx, h⟩ := Pst.lft c (Pst.bnd' h)
  cases x with
  | ref n =>
    unfold lockN at h
    dsimp only at h
    cases hS : S[n]? with
    | none => rw [hS] at h; exact h.elim
    | some o =>
      rw [hS] at h
      cases o with
      | nd kvs =>
        obtain ⟨a, ha, xs, hd, r, nn⟩ := c.at_ hS
        dsimp only at h
        refine ⟨a, .ext (NdP a xs), hd, trivial, fun od => ?_⟩
        obtain ⟨e1, c1⟩ := c.write (u := .frz od (.ext (NdP a xs))) (o := .nf kvs) ha (fun ob u z => by rw [hd] at z; cases z) fun H' e z => ⟨xs, od, z, NRep.mon r e.mon, nn⟩
        have hm : a ∈ μ := List.mem_iff_getElem?.mpr ⟨n, ha⟩
        refine ⟨μ, S.set n (.nf kvs), ρ, c1, er.ext e1, ?_⟩
        cases hf : evE C e ρ (S.set n (.nf kvs)) with
        | exc _ _ => rw [hf] at h; exact h.elim
        | bad => rw [hf] at h; exact h.elim
        | ok d S' =>
          rw [hf] at h
          dsimp only at h
          intro μ' H' c' e' v rv
          have hz := e'.exc _ _ _ (show upd H a (.frz od (.ext (NdP a xs))) a = some (.frz od (.ext (NdP a xs))) from upd_same)
          cases hS' : S'[n]? with
          | none => rw [hS'] at h; exact h.elim
          | some o' =>
            rw [hS'] at h
            cases o' with
            | nf kvs' =>
              have ha' := e'.at_ ha
              obtain ⟨xs', od', hq, r', nn'⟩ := c'.obj n _ a hS' ha'
              have eq := hz.symm.trans hq
              injection eq with eq
              injection eq with eo eu
              have c3 := c'.freeN ha' hq r' nn'
              have rv3 := rv.freeN hq
              rw [← eu] at c3 rv3
              have e3 : Ext K μ H μ' (upd H' a (.ext (NdP a xs))) := (e1.trans e').freeN hm hd
              exact ⟨hz, h μ' _ c3 e3 v rv3⟩
            | _ => exact h.elim
      | dk kvs =>
        cases kvs with
        | nil =>
          obtain ⟨a, ha, ks, hd, r⟩ := c.at_ hS
          dsimp only at h
          refine ⟨a, .dK ks, hd, trivial, fun od => ?_⟩
          obtain ⟨e1, c1⟩ := c.write (u := .frz od (.dK ks)) (o := .fk []) ha (fun ob u z => by rw [hd] at z; cases z) fun H' e z => ⟨ks, od, z, r.ext e⟩
          have hm : a ∈ μ := List.mem_iff_getElem?.mpr ⟨n, ha⟩
          refine ⟨μ, S.set n (.fk []), ρ, c1, er.ext e1, ?_⟩
          cases hf : evE C e ρ (S.set n (.fk [])) with
          | exc _ _ => rw [hf] at h; exact h.elim
          | bad => rw [hf] at h; exact h.elim
          | ok d S' =>
            rw [hf] at h
            dsimp only at h
            intro μ' H' c' e' v rv
            have hz := e'.exc _ _ _ (show upd H a (.frz od (.dK ks)) a = some (.frz od (.dK ks)) from upd_same)
            cases hS' : S'[n]? with
            | none => rw [hS'] at h; exact h.elim
            | some o' =>
              rw [hS'] at h
              cases o' with
              | fk kvs' =>
                have ha' := e'.at_ ha
                obtain ⟨ks', ob', hq, r'⟩ := c'.obj n _ a hS' ha'
                rw [hz] at hq
                cases hq
                have c3 := c'.free ha' hz r'
                have e3 : Ext K μ H μ' (upd H' a (.dK ks)) := (e1.trans e').free hm hd
                exact ⟨hz, h μ' _ c3 e3 v (rv.free hz)⟩
              | _ => exact h.elim
        | cons _ _ => exact h.elim
      | _ => exact h.elim
  | _ => exact h.elim
end
end VM
namespace VM
open PySem L2
section
variable {K : PySem.W.Frag} {T : Tab} {W : WX} {C : Ctl} {σ : L2.St} {μ : List Addr} {H : Hp} {R : It → Hp → Prop}
theorem nd_fix {a : Addr} {od : PySem.Obj} {xs : List (NestedKey × Addr × Value)} {vs : List (Addr × Int)} {kvs : List (Nk × Int)} (hz : H a = some (.frz od (.ext (NdP a xs)))) (rp : Paired (fun (p : Nk × Int) (v : Addr × Int) => Rep K μ H (nkD p.1) (.ref v.1) ∧ v.2 = p.2) kvs vs) :
    SeqIt K (.fix (kvs.map fun p => .tup [nkD p.1, .int p.2])) (ItN a od xs vs) μ H := by
  intro μ' S' H' i c e
  have hz' := e.exc _ _ _ hz
  constructor
  · intro d hd
    have hd : (kvs.map fun p => VM.D.tup [nkD p.1, .int p.2])[i]? = some d := Option.some.inj hd
    rw [List.getElem?_map] at hd
    obtain ⟨p, hp, rfl⟩ := Option.map_eq_some_iff.mp hd
    obtain ⟨v, hv, r1, r2⟩ := paired_at rp hp
    refine ⟨⟨hz', (List.getElem?_eq_some_iff.mp hv).1⟩, ?_⟩
    rintro x H2 ⟨T, b, cc, hb, rfl, hT, rfl⟩
    rw [hv] at hb
    cases hb
    obtain ⟨e2, c2⟩ := c.side (u := .tup [.ref b, .int cc]) hT
    refine ⟨e2, c2, .tup (SqT.of upd_same) (.cons ((r1.mon e).ext e2) (.cons ?_ .nil))⟩
    rw [show cc = p.2 from r2]
    exact .int _
  · intro hd
    have hd : (kvs.map fun p => VM.D.tup [nkD p.1, .int p.2])[i]? = none := Option.some.inj hd
    have := List.getElem?_eq_none_iff.mp hd
    rw [List.length_map] at this
    refine ⟨hz', ?_⟩
    have l : kvs.length = vs.length := Paired.length rp
    omega
theorem nil_fix {a : Addr} {od : PySem.Obj} (hz : H a = some (.frz od (.dK []))) : SeqIt K (.fix []) (Iti a od []) μ H := by
  intro μ' S' H' i c e
  have hz' := e.exc _ _ _ hz
  exact ⟨fun d hd => (by cases Option.some.inj hd), fun _ => ⟨hz', Nat.zero_le _⟩⟩
theorem read_ndi {i : Nat} (h : ∃ μ S ρ, Cor K μ S H ∧ EnvR K μ H ρ σ ∧ Pst K μ H (bnd (lft (getV ρ i)) (fun x => bnd (itemsN x) fun l => ret (.fix l)) S) (fun q _ μ' H' => ∀ J, SeqIt K q J μ' H' → R J H') (wx T W σ)) : iItemsN (tE K T W C (.var i)) σ H R := by
  obtain ⟨μ, S, ρ, c, er, h⟩ := h
  obtain ⟨x, hx, h⟩ := Pst.lft c (Pst.bnd' h)
  have hv : evE C (.var i) ρ S = .ok x S := by
    show lft (getV ρ i) _ = _
    rw [hx]
    rfl
  refine ⟨μ, S, ρ, c, er, ?_⟩
  rw [hv]
  intro μ2 H2 c2 e2 v rv
  have h := Pst.ext h e2
  cases rv with
  | @ref n a hn =>
    unfold itemsN bnd at h
    dsimp only at h
    cases hS : S[n]? with
    | none => rw [hS] at h; exact h.elim
    | some o =>
      rw [hS] at h
      cases o with
      | nf kvs =>
        obtain ⟨xs, od, hd, r, nn⟩ := c2.obj n _ a hS hn
        obtain ⟨vs, h1, h2⟩ := nrep_vs r
        exact ⟨a, od, rfl, .inl ⟨xs, vs, hd, h1, Pst.now c2 h _ (nd_fix hd h2)⟩⟩
      | fk kvs =>
        cases kvs with
        | nil =>
          obtain ⟨ks, od, hd, r⟩ := c2.obj n _ a hS hn
          cases r
          exact ⟨a, od, rfl, .inr ⟨hd, Pst.now c2 h _ (nil_fix hd)⟩⟩
        | cons _ _ => exact h.elim
      | _ => exact h.elim
  | _ => exact h.elim
end
end VM
namespace VM
open PySem L2 PySem.Spec PyProof.Rows
section
variable {X : Cx}
theorem n_dSet {pins : List (Addr × PySem.Obj)} {σ : L2.St} {μ : List Addr} {H : Hp} {s : Shared} {a b : Addr} {kvs : List (Nk × Int)} {k : Nk} {c : Int} {u : Value} {A : Around} {E : Value → Shared → Prop} {Q : Unit → Shared → Prop}
    (hu : A.units + 60 < cLine) (I : Inv X pins σ H s) (N : NdAt X.K μ H a kvs) (rk : Rep X.K μ H (nkD k) (.ref b)) (rc : RelV (.int c) u) (hl : kvs.length < sizeLine)
    (h : ∀ s' xs, NRep X.K μ H (nput kvs k c) xs → Inv X pins σ (upd H a (.ext (NdP a xs))) s' → Q () s') : wpAny (model X.prog X.w) A (dictSet a (.ref b) u) Q E s := by
  obtain ⟨xs, r, dd, nd, l, m⟩ := N.dict (P := X.prog) (w := X.w) I.hok I.kIn
  refine wpAny_dictSet_heap (hsz := by rw [← NRep.length r]; exact l) (knd := nestedKind X.prog X.w) (k := nkK k) (show A.units + 8 < cLine by omega) (nk_is I.hok I.kIn rk) dd fun h' dd' hs => h _ _ (nrep_put rk rc r) ?_
  obtain ⟨q, es, ep, hq, _⟩ := id dd'
  refine d_write I N.mut hs ⟨q, hq⟩ (nd_to dd' m ?_)
  rw [← NRep.length (nrep_put rk rc r)]
  have := nput_len kvs k c
  omega
/-- such a dict at Dl grows; what fails a test is left out -/
def tDn (K : PySem.W.Frag) (wi : TI) (g : TG) (tt : TT) (tk tv : TE) (vs : List Nat) : TE := fun σ H Q => wi σ H fun J H1 => ∀ Dl, H1 Dl = none → ∃ V : Nat → Nat → Hp → Prop, (∃ m, V 0 m (upd H1 Dl (HO.ext (NdP Dl [])))) ∧ ∀ i m H, V i m H →
  (J.stop i H ∧ Q (.ref Dl) H) ∨ (J.go i H ∧ ∃ Z : Hp → Prop, (∀ H', Z H' → ∃ m', m' < m ∧ V (i + 1) m' H') ∧ ∀ x H', J.yld i H x H' → g x (wipe σ vs) H' fun σ2 H2 => wipe σ2 vs = wipe σ vs ∧
    tt σ2 H2 fun ok H3 => if ok = true then tk σ2 H3 fun y H4 => tv σ2 H4 fun z H5 => ∃ (a : Addr) (kvs : List (Nk × Int)) (xs : List (NestedKey × Addr × Value)) (k : Nk) (c : Int) (μ : List Addr), y = .ref a ∧ z = .int c ∧ Rep K μ H5 (nkD k) (.ref a) ∧
      H5 Dl = some (.ext (NdP Dl xs)) ∧ NRep K μ H5 kvs xs ∧ (kvs.map (·.1)).Nodup ∧ kvs.length < sizeLine ∧ ∀ xs', NRep K μ H5 (nput kvs k c) xs' → Z (upd H5 Dl (.ext (NdP Dl xs'))) else Z H3)
theorem dn_core {pins : List (Addr × PySem.Obj)} {s : Shared} {σ : L2.St} {H : Hp} {Q : VK} {kx vx t it : Expr} {ifs : List Expr} {scope : Scope} {own : List (PySem.Str × Nat)} {pos pos' : Pos} {wi : TI} {g : TG} {tt : TT} {tk tv : TE} {use : Option (Value → Sem Unit)} {Qf : Value → Shared → Prop}
    (hu : X.A.units + 60 < cLine) (calm : X.calm = true) (nd : X.N.Nodup) (I : Inv X pins σ H s) (hi : PI X t it wi) (ok : BlkOk X.N X.env.scope scope own)
    (hg : ∀ (s : Shared) (H : Hp) (C : Addr) (cl : List (PySem.Str × Addr)) (fp : List Addr), PG (X.blk s H scope (compEnvC scope cl C X.env) fp) t g)
    (htt : ∀ (s : Shared) (H : Hp) (C : Addr) (cl : List (PySem.Str × Addr)) (fp : List Addr), PTs (X.blk s H scope (compEnvC scope cl C X.env) fp) ifs tt)
    (hk : ∀ (s : Shared) (H : Hp) (C : Addr) (cl : List (PySem.Str × Addr)) (fp : List Addr), PE (X.blk s H scope (compEnvC scope cl C X.env) fp) kx tk)
    (hv : ∀ (s : Shared) (H : Hp) (C : Addr) (cl : List (PySem.Str × Addr)) (fp : List Addr), PE (X.blk s H scope (compEnvC scope cl C X.env) fp) vx tv) (hs : ∀ x, foldedSetIterable it X.env x = pure x)
    (h : tDn X.K wi g tt tk tv (own.map (·.2)) σ H Q)
    (out : ∀ Dl C s' m H', Inv X pins σ H' s' → Q (.ref Dl) H' → s'.heap.Ns C m → FpOk X pins H' C → compPost (model X.prog X.w) X.A X.xe use Qf (.ref Dl) C (.ok .next) s') :
    wpAny (model X.prog X.w) X.A (comprehension (.DictComp kx vx [⟨t, it, ifs, 0⟩] scope pos) scope X.env pos' newDict false (eval it X.env) use) Qf X.xe s := by
  have frees : ∀ y ∈ scope.names, y.2 = .free → ∃ c, X.env.cells.lookup y.1 = some c := by
    intro y hy e
    rcases ok.free y hy e with k | k
    · exact I.ok.has _ (Or.inl k)
    · exact I.ok.has _ (Or.inr k)
  refine wpAny_comprehension_free (use := use) rfl hs (closure_ok frees) ok.kind (fun y hy e => by rw [ok.uniq y hy, e])
    (thn (hi.run pins s σ H _ I h) fun xv s1 hx => thn hx fun itv s2 ⟨ia, fp, tn, J, H2, e0, I2, Tn, st2, f2, q⟩ => ?_)
  subst e0
  refine wpAny_newObj_type (newEnv_comp ?_)
  generalize hDl : s2.heap.objs.size = Dl
  have freeD : H2 Dl = none := I2.hok.fresh (Nat.le_of_eq hDl)
  obtain ⟨V, ⟨m0, v0⟩, turn⟩ := q Dl freeD
  generalize es3 : ({ s2 with heap := s2.heap.push { cls := .type "dict", data := .dict #[] } } : Shared) = s3
  have I3 : Inv X pins σ (upd H2 Dl (HO.ext (NdP Dl []))) s3 := by
    rw [← es3]
    refine I2.laid (t' := s2.toks) (fun b o e => Heap.get?_push_of_some _ e) (Nat.le_of_eq hDl) ?_
    rw [← hDl]
    exact nd_to (Heap.DictOfH.new _) (beq_eq_false_iff_ne.mpr (Nat.ne_of_gt I2.big)) (Nat.zero_le _)
  have h3 : s3.heap = s2.heap.push { cls := .type "dict", data := .dict #[] } := by rw [← es3]
  have below : ∀ b ∈ fp, b < s2.heap.objs.size := fun b hb => let ⟨o, e, _⟩ := Tn.obj _ _ st2 b hb; Heap.lt_size e
  have f3 : ∀ b ∈ fp, FpOk X pins (upd H2 Dl (HO.ext (NdP Dl []))) b ∧ b < s3.heap.objs.size := by
    intro b hb
    have lt := below b hb
    refine ⟨⟨?_, (f2 b hb).2⟩, by rw [h3, Heap.size_push]; exact Nat.lt_succ_of_lt lt⟩
    rw [upd_ne (by rw [← hDl]; exact Nat.ne_of_lt lt)]
    exact (f2 b hb).1
  have st3 : tn 0 s3.heap := Tn.keep _ _ _ st2 fun b _ o e => by rw [h3]; exact Heap.get?_push_of_some _ e
  have I4 := block_start I3 ok nd f3
  have pg := hg s3 (upd H2 Dl (HO.ext (NdP Dl []))) s3.heap.objs.size (cellsFrom (s3.heap.objs.size + 1) scope.names (cloFrom X.env.cells scope.names [])) fp
  have ptt := htt s3 (upd H2 Dl (HO.ext (NdP Dl []))) s3.heap.objs.size (cellsFrom (s3.heap.objs.size + 1) scope.names (cloFrom X.env.cells scope.names [])) fp
  have pk := hk s3 (upd H2 Dl (HO.ext (NdP Dl []))) s3.heap.objs.size (cellsFrom (s3.heap.objs.size + 1) scope.names (cloFrom X.env.cells scope.names [])) fp
  have pv := hv s3 (upd H2 Dl (HO.ext (NdP Dl []))) s3.heap.objs.size (cellsFrom (s3.heap.objs.size + 1) scope.names (cloFrom X.env.cells scope.names [])) fp
  show codeAny _ _ (.compStart (.DictComp kx vx [⟨t, it, ifs, 0⟩] scope pos) 0 (.ref ia) (.ref Dl) (compEnvC scope (cellsFrom (s3.heap.objs.size + 1) scope.names (cloFrom X.env.cells scope.names [])) s3.heap.objs.size X.env)) (compPost (model X.prog X.w) X.A X.xe use Qf (.ref Dl) s3.heap.objs.size) { s3 with heap := pushCells (s3.heap.push { cls := .type "dict", data := .dict #[] }) scope.names }
  have frfp : ∀ b ∈ fp, (upd H2 Dl (HO.ext (NdP Dl []))) b = none := fun b hb => (f3 b hb).1.1
  generalize ece : compEnvC scope (cellsFrom (s3.heap.objs.size + 1) scope.names (cloFrom X.env.cells scope.names [])) s3.heap.objs.size X.env = ce at I4 pg ptt pk pv ⊢
  have eL : ce.locals = s3.heap.objs.size := by subst ece; rfl
  generalize eH3 : upd H2 Dl (HO.ext (NdP Dl [])) = H3 at I3 I4 pg ptt pk pv v0 frfp f3
  generalize es4 : ({ s3 with heap := pushCells (s3.heap.push { cls := .type "dict", data := .dict #[] }) scope.names } : Shared) = s4 at I4 ⊢
  have st4 : tn 0 s4.heap := Tn.keep _ _ _ st3 fun b _ o e => by rw [← es4]; exact pushCells_keeps _ _ _ _ (Heap.get?_push_of_some _ e)
  have stat : ∀ {σ' : L2.St} {H' : Hp} {s' : Shared}, Inv (X.blk s3 H3 scope ce fp) [] σ' H' s' → (∀ b ∈ fp, H' b = none) → ∀ b ∈ fp, FpOk (X.blk s3 H3 scope ce fp) [] H' b := by
    intro σ' H' s' I' hn b hb
    exact ⟨hn b hb, (I'.ok.exf b hb).1, I'.ok.exfs b hb, Or.inl hb, fun x c e => (I'.ok.exf b hb).2 x c e, fun p hp => absurd (show p ∈ ([] : List (Addr × PySem.Obj)) ++ [] from hp) (by simp)⟩
  have loop : codeAny (model X.prog X.w) X.A (.compLoop (.DictComp kx vx [⟨t, it, ifs, 0⟩] scope pos) 0 (.ref ia) (.ref Dl) ce) (compPost (model X.prog X.w) X.A X.xe use Qf (.ref Dl) s3.heap.objs.size) s4 := by
    refine compLoop_anyD (fun n s' => ∃ i H', Inv (X.blk s3 H3 scope ce fp) [] (wipe σ (own.map (·.2))) H' s' ∧ tn i s'.heap ∧ (∀ b ∈ fp, H' b = none) ∧ V i n H') ?_ m0 ⟨0, H3, I4, st4, frfp, v0⟩
    rintro n s5 ⟨i, H5, I5, st5, n5, w5⟩
    rcases turn i n H5 w5 with ⟨stop, qq⟩ | ⟨go, Z, hZ, step⟩
    · refine thnF (Tn.done (X.blk s3 H3 scope ce fp) rfl rfl rfl calm i [] s5 _ H5 (fun _ _ => False) I5 (stat I5 n5) st5 stop) fun r s6 ⟨hr, I6⟩ => ?_
      subst hr
      have I7 : Inv X pins σ H5 s6 := I3.call' (ch := fp) I6.os I6.base I6.hok I6.bare fun b hb => ⟨(f3 b hb).1.2.2.2.1, (f3 b hb).1.2.1, (f3 b hb).1.2.2.2.2.1, (f3 b hb).1.2.2.2.2.2⟩
      have nC : H5 s3.heap.objs.size = none := by
        have z : H5 ce.locals = none := I6.free
        rw [eL] at z
        exact z
      obtain ⟨m, hn, _⟩ := I6.loc
      have hn : s6.heap.Ns ce.locals m := hn
      rw [eL] at hn
      exact out Dl s3.heap.objs.size s6 m H5 I7 qq hn (I3.fpOk (Nat.le_refl _) nC)
    · refine thnF (Tn.item (X.blk s3 H3 scope ce fp) rfl rfl rfl calm i [] s5 _ H5 (fun _ _ => False) I5 (stat I5 n5) st5 go) fun r s6 ⟨u, hr, h6⟩ => ?_
      subst hr
      refine thnF h6 fun _ s7 ⟨x, H7, I7, r7, y7, st7, n7⟩ => ?_
      have I7' := I7.pinned (stat I7 n7) (Tn.obj _ _ st7)
      refine thnF (pg.run _ s7 _ H7 x u _ I7' r7 (step x H7 y7)) fun _ s8 ⟨σ8, H8, I8, hw8, q8⟩ => ?_
      refine thnF (ptt.run _ s8 σ8 H8 _ I8 q8) fun good s9 ⟨H9, I9, q9⟩ => ?_
      have fin : ∀ {s' : Shared} {H' : Hp}, Inv (X.blk s3 H3 scope ce fp) ([] ++ pinsAt fp s7.heap) σ8 H' s' → Z H' → ∃ m, m < n ∧ ∃ i H', Inv (X.blk s3 H3 scope ce fp) [] (wipe σ (own.map (·.2))) H' s' ∧ tn i s'.heap ∧ (∀ b ∈ fp, H' b = none) ∧ V i m H' := by
        intro s' H' I' z
        obtain ⟨m', hm, w'⟩ := hZ H' z
        have kept : ∀ b ∈ fp, ∀ o, s7.heap.get? b = some o → s'.heap.get? b = some o ∧ H' b = none := fun b hb o e =>
          let z := I'.pin (b, o) (List.mem_append_right _ (List.mem_append_right _ (mem_pinsAt hb e)))
          ⟨z.1, z.2.1⟩
        have el : (wipe σ (own.map (·.2))).length = σ8.length := by rw [← hw8, wipe_length]
        refine ⟨m', hm, i + 1, H', (I'.unpinned (pins := [])).weak el (fun j v e => ?_), Tn.keep _ _ _ st7 fun b hb o e => (kept b hb o e).1, fun b hb => ?_, w'⟩
        · rw [← hw8] at e
          exact (wipe_some e).1
        · obtain ⟨o, e, _⟩ := Tn.obj _ _ st7 b hb
          exact (kept b hb o e).2
      cases good with
      | false => exact fin I9 (show Z H9 from q9)
      | true =>
        refine (show wpAny _ _ _ _ _ _ from thnF (pk.run _ s9 σ8 H9 _ I9 q9) fun z s10 ⟨yv, H10, I10, r10, q10⟩ => ?_)
        refine thnF (pv.run _ s10 σ8 H10 _ I10 q10) fun z2 s11 ⟨y2, H11, I11, r11, a, kvs, xs, k, c, μ, ey, ez, rk, hD11, rn, nn, hl, nx⟩ => ?_
        subst ey ez
        cases (show z = Value.ref a from r10)
        exact n_dSet (X := X.blk s3 H3 scope ce fp) hu I11 (.inl ⟨xs, hD11, rn, nn⟩) rk r11 hl fun s12 xs2 rn2 I12 => fin I12 (nx xs2 rn2)
  exact codeAny_compStart_dict loop (Tn.self X.A 0 _ _ _ st4 loop)
theorem pe_dn {kx vx t it : Expr} {ifs : List Expr} {scope : Scope} {own : List (PySem.Str × Nat)} {pos : Pos} {wi : TI} {g : TG} {tt : TT} {tk tv : TE} (hu : X.A.units + 60 < cLine) (calm : X.calm = true) (nd : X.N.Nodup) (hi : PI X t it wi) (ok : BlkOk X.N X.env.scope scope own)
    (hg : ∀ (s : Shared) (H : Hp) (C : Addr) (cl : List (PySem.Str × Addr)) (fp : List Addr), PG (X.blk s H scope (compEnvC scope cl C X.env) fp) t g)
    (htt : ∀ (s : Shared) (H : Hp) (C : Addr) (cl : List (PySem.Str × Addr)) (fp : List Addr), PTs (X.blk s H scope (compEnvC scope cl C X.env) fp) ifs tt)
    (hk : ∀ (s : Shared) (H : Hp) (C : Addr) (cl : List (PySem.Str × Addr)) (fp : List Addr), PE (X.blk s H scope (compEnvC scope cl C X.env) fp) kx tk)
    (hv : ∀ (s : Shared) (H : Hp) (C : Addr) (cl : List (PySem.Str × Addr)) (fp : List Addr), PE (X.blk s H scope (compEnvC scope cl C X.env) fp) vx tv) (hs : ∀ x, foldedSetIterable it X.env x = pure x) :
    PE X (.DictComp kx vx [⟨t, it, ifs, 0⟩] scope pos) (tDn X.K wi g tt tk tv (own.map (·.2))) := by
  refine ⟨fun pins s σ H Q I h => ?_⟩
  rw [arm_eval_DictComp]
  refine dn_core hu calm nd I hi ok hg htt hk hv hs h fun Dl C s' m H' I' q hn f => ⟨m, hn, fun h'' sb => ?_⟩
  obtain ⟨f0, f1, f2, f3, f4, f5⟩ := f
  exact ⟨.ref Dl, H', I'.turned (t' := s'.toks) (fun b o hb e => (sb.2 b hb).trans e) f0 f1 f3 f4 f5, rfl, q⟩
end
section
variable {T : Tab} {K : PySem.W.Frag} {W : WX} {C : Ctl} {σ : L2.St} {H : Hp} {Q : VK}
structure CDn (K : PySem.W.Frag) (q : Seq) (step : D → List (Nk × Int) → M (List (Nk × Int))) (l : List (Nk × Int)) (Sl : Store) (μ1 : List Addr) (H1 : Hp) (Dl : Addr) (i f : Nat) (H' : Hp) : Prop where
  ex : ∃ μ' S' acc xs, Cor K μ' S' H' ∧ Ext K μ1 H1 μ' H' ∧ Dl ∉ μ' ∧ H' Dl = some (.ext (NdP Dl xs)) ∧ NRep K μ' H' acc xs ∧ (acc.map (·.1)).Nodup ∧ cmpI q step f i acc S' = .ok l Sl
theorem nk_refK {K : PySem.W.Frag} {μ : List Addr} {H : Hp} {k : Nk} {y : V} (r : Rep K μ H (nkD k) y) : ∃ b, y = .ref b := by
  have r' : Rep K μ H (.tup [.int k.1, .tup (k.2.map .int)]) y := r
  cases r'
  exact ⟨_, rfl⟩
theorem read_dcn {own : List Nat} {tg : Tg} {src : Src} {ifs : Exps} {ek ev : Exp} (hsub : ∀ i ∈ tgs tg, i ∈ own) (h : tE K T W C (.dcn own tg src ifs ek ev) σ H Q) :
    tDn K (tSr K T W C src) (tG K tg) (tI K T WF C ifs) (tE K T WF C ek) (tE K T WF C ev) own σ H Q := by
  obtain ⟨μ, S, ρ, c, er, h⟩ := h
  refine ⟨μ, S, ρ, c, er, Pst.then h fun q S1 μ1 H1 c1 e1 h1 J hJ Dl hD => ?_⟩
  obtain ⟨l, Sl, hl, h1⟩ := pst_noExc (m := cmpI q _ (q.size S1 + 1) 0 []) h1
  have hmD : Dl ∉ μ1 := c1.out hD
  refine ⟨fun i m H' => CDn K q _ l Sl μ1 H1 Dl i m H', ⟨q.size S1 + 1, ⟨μ1, S1, [], [], (c1.side hD).2, (c1.side hD).1, hmD, upd_same, .nil, List.nodup_nil, hl⟩⟩, ?_⟩
  rintro i m H' ⟨μ', S', acc, xs, c', e', hm', hH', r', nn, hc⟩
  obtain ⟨f', rfl, ⟨hi, rfl, rfl⟩ | ⟨d, acc', S2, hi, hst, hc'⟩⟩ := cmpI_ok hc
  · refine .inl ⟨(hJ μ' _ H' i c' e'.mon).2 hi, ?_⟩
    have c2 := c'.adopt (o := .nd l) hm' fun μ2 mo => ⟨xs, hH', NRep.mon r' mo, nn⟩
    exact h1 _ _ c2 (e'.adopt hD) _ c'.adopt_ref
  · obtain ⟨go, yl⟩ := (hJ μ' _ H' i c' e'.mon).1 d hi
    refine .inr ⟨go, fun H2 => CDn K q _ l Sl μ1 H1 Dl (i + 1) f' H2, fun H2 z => ⟨f', Nat.lt_succ_self _, z⟩, fun x H2 y => ?_⟩
    obtain ⟨e2, c2, rd⟩ := yl x H2 y
    obtain ⟨ρ', S3, hb, hst⟩ := ok_bnd hst
    obtain ⟨hb, e3⟩ := ok_lft hb
    rw [e3] at hst
    obtain ⟨b, S4, hk, hst⟩ := ok_bnd hst
    have er2 : EnvR K μ' H2 (wip ρ own) (wipe σ own) := (((er.ext e1).ext e').ext e2).wip own
    refine ⟨μ', wip ρ own, d, ρ', er2, rd, hb, fun σ2 er3 fr hlen => ⟨?_, ?_⟩⟩
    · exact (wipe_eq (fun j hj => fr j fun z => hj (hsub j z)) hlen).trans wipe_wipe
    · refine ⟨μ', S', ρ', c2, er3, Pst.of_ok hk fun μ4 H4 c4 e4 => ?_⟩
      have hD2 := e2.fr _ _ hm' hH'
      have hD4 : H4 Dl = some (.ext (NdP Dl xs)) := e4.fr _ _ hm' hD2
      have hm4 : Dl ∉ μ4 := e4.out hD2 hm'
      have e14 : Ext K μ1 H1 μ4 H4 := (e'.trans e2).trans e4
      have r4 : NRep K μ4 H4 acc xs := NRep.mon (NRep.mon r' e2.mon) e4.mon
      cases b with
      | false =>
        cases hst
        show CDn K q _ l Sl μ1 H1 Dl (i + 1) f' H4
        exact ⟨μ4, _, _, xs, c4, e14, hm4, hD4, r4, nn, hc'⟩
      | true =>
        obtain ⟨kd, S5, hkd, hst⟩ := ok_bnd hst
        obtain ⟨kk, S6, hkk, hst⟩ := ok_bnd hst
        obtain ⟨hk2, e6⟩ := ok_lft hkk
        rw [e6] at hst
        obtain ⟨yd, S7, hyd, hst⟩ := ok_bnd hst
        obtain ⟨cc, S8, hcc, hst⟩ := ok_bnd hst
        obtain ⟨hc2, e8⟩ := ok_lft hcc
        rw [e8] at hst
        obtain ⟨hz, hst⟩ := ok_ite hst
        cases hst
        have ek := nkOf_eq hk2
        have ec := intD_eq hc2
        subst ek ec
        refine ⟨μ4, S4, ρ', c4, er3.ext e4, Pst.of_ok hkd fun μ5 H5 c5 e5 kv rk => ?_⟩
        have hD5 := e5.fr _ _ hm4 hD4
        have hm5 : Dl ∉ μ5 := e5.out hD4 hm4
        refine ⟨μ5, S5, ρ', c5, (er3.ext e4).ext e5, Pst.of_ok hyd fun μ6 H6 c6 e6 yv ry => ?_⟩
        have hD6 : H6 Dl = some (.ext (NdP Dl xs)) := e6.fr _ _ hm5 hD5
        have hm6 : Dl ∉ μ6 := e6.out hD5 hm5
        have r6 : NRep K μ6 H6 acc xs := NRep.mon (NRep.mon r4 e5.mon) e6.mon
        obtain ⟨a, rfl⟩ := nk_refK rk
        cases ry
        refine ⟨a, acc, xs, kk, cc, μ6, rfl, rfl, rk.ext e6, hD6, r6, nn, by rw [← big_eq]; exact hz, fun xs2 r7 => ?_⟩
        obtain ⟨c7, mo⟩ := c6.over (u := .ext (NdP Dl xs2)) hm6 (fun o u z => by rw [hD6] at z; cases z) fun ys z => by
          rcases z with z | ⟨o, z⟩
          · rw [hD6] at z; cases z
          · rw [hD6] at z; cases z
        exact ⟨μ6, _, _, xs2, c7, ((e14.trans e5).trans e6).over hD, hm6, upd_same, NRep.mon r7 mo, nput_keys _ _ _ nn, hc'⟩
end
end VM
namespace VM
open PySem L2 PySem.Spec PyProof.Rows
section
variable {X : Cx}
def tNM (K : PySem.W.Frag) (r : V → List V → Hp → VK → Prop) (to : TE) (t : TA) : TE := fun σ H Q => to σ H fun x H1 => (∃ a kvs μ, x = .ref a ∧ NdAt K μ H1 a kvs) ∧ t σ H1 fun xs H2 => r x xs H2 Q
def tNM0 (K : PySem.W.Frag) (r : V → List V → Hp → VK → Prop) (to : TE) : TE := fun σ H Q => to σ H fun x H1 => (∃ a kvs μ, x = .ref a ∧ NdAt K μ H1 a kvs) ∧ r x [] H1 Q
theorem nd_dict {pins : List (Addr × PySem.Obj)} {σ : L2.St} {H : Hp} {s : Shared} {a : Addr} {kvs : List (Nk × Int)} {μ : List Addr} (I : Inv X pins σ H s) (N : NdAt X.K μ H a kvs) :
    s.TypeIs (.ref a) "dict" ∧ ∀ b, Value.ref a = .ref b → ∃ o, s.heap.get? b = some o ∧ o.dict = none := by
  obtain ⟨xs, _, dd, _⟩ := N.dict (P := X.prog) (w := X.w) I.hok I.kIn
  refine ⟨dd.typeIs, fun b e => ?_⟩
  cases e
  obtain ⟨o, es, ep, h1, h2, _⟩ := dd
  exact ⟨o, h1, h2.2.1⟩
variable {o e : Expr} {es : List Expr} {to : TE} {t : TA} {name : PySem.Str} {apos cpos : Pos} {id : String} {r : V → List V → Hp → VK → Prop}
theorem pe_nm0 (slot : Slot "dict" name id) (hty : typeOf (.builtin id) = pure (.type "method_descriptor")) (hm : MtR X id r) (ho : PE X o to) (hb : attributeBase o name X.env (eval o X.env) = eval o X.env) (hl : (apos.endLine == cpos.line) = true) :
    PE X (.Call (.Attribute o name apos) [] [] cpos) (tNM0 X.K r to) := by
  refine ⟨fun pins s σ H Q I h => wpAny_Call_method0_late hb hl (thn (ho.run pins s σ H _ I h) fun v s1 ⟨x, H1, I1, r1, ⟨a, kvs, μ, ex, N⟩, q1⟩ => ?_)⟩
  subst ex
  cases (show v = Value.ref a from r1)
  obtain ⟨h1, h2⟩ := nd_dict I1 N
  exact ⟨"dict", id, PySem.F.plainAttrs_dict, slot, hty, h1, h2, Calls.callWith_builtin rfl (PySem.evalArgs_none (hm pins s1 σ H1 (.ref a) [] _ [] Q I1 (show L2.RelV (V.ref a) (Value.ref a) from rfl) .nil q1))⟩
theorem pe_nm (slot : Slot "dict" name id) (hty : typeOf (.builtin id) = pure (.type "method_descriptor")) (hm : MtR X id r) (ho : PE X o to) (ha : PA X (e :: es) t) (hb : attributeBase o name X.env (eval o X.env) = eval o X.env)
    (few : ((backTo cpos (starEach (e :: es) X.env)).all (fun x => !x.1) && (backToKw cpos (keywordEach [] X.env)).all (fun x => x.1.isSome) && decide ((e :: es).length + ([] : List Keyword).length + (if ([] : List Keyword).isEmpty then 0 else 1) < 30)) = true)
    (hl : (apos.endLine == cpos.line) = true) (hs : starEach (e :: es) X.env = (false, eval e X.env) :: starEach es X.env) (hp : (backTo cpos (starEach es X.env)).any (·.1) = false) :
    PE X (.Call (.Attribute o name apos) (e :: es) [] cpos) (tNM X.K r to t) := by
  refine ⟨fun pins s σ H Q I h => wpAny_Call_method_late hb few hl rfl (thn (ho.run pins s σ H _ I h) fun v s1 ⟨x, H1, I1, r1, ⟨a, kvs, μ, ex, N⟩, q1⟩ => ?_)⟩
  subst ex
  cases (show v = Value.ref a from r1)
  obtain ⟨h1, h2⟩ := nd_dict I1 N
  refine ⟨"dict", id, PySem.F.plainAttrs_dict, slot, hty, h1, h2, ?_⟩
  have hA := ha.run cpos pins s1 σ H1 _ I1 q1
  rw [hs] at hA ⊢
  exact Calls.callWith_builtin (by show (false || (backTo cpos (starEach es X.env)).any (·.1)) = false; rw [hp]; rfl) (Calls.evalArgs_plain (thn hA fun us s2 ⟨vs, H2, I2, r2, q2⟩ => hm pins s2 σ H2 (.ref a) vs _ us Q I2 (show L2.RelV (V.ref a) (Value.ref a) from rfl) r2 q2))
/-- d.get(k, c) -/
def rGetN (K : PySem.W.Frag) : V → List V → Hp → VK → Prop := fun x xs H Q => ∃ (a b : Addr) (kvs : List (Nk × Int)) (k : Nk) (c : Int) (μ : List Addr), x = .ref a ∧ xs = [.ref b, .int c] ∧ NdAt K μ H a kvs ∧ Rep K μ H (nkD k) (.ref b) ∧ Q (.int ((nget kvs k).getD c)) H
theorem mt_getN (hu : X.A.units + 60 < cLine) : MtR X "dict.get" (rGetN X.K) := by
  rintro pins s σ H x xs v us Q I rx rxs ⟨a, b, kvs, k, c, μ, rfl, rfl, N, rk, q⟩
  cases (show v = Value.ref a from rx)
  obtain ⟨u1, u2, rfl, r1, r2⟩ := Vals.two rxs
  cases (show u1 = Value.ref b from r1)
  exact n_get2 hu I N rk r2 fun w' s' I' rw' => ⟨_, H, I', rw', q⟩
theorem eqv_nk (a b : Nk) : PyData.eqv (encK a) (encK b) = decide (a = b) := by
  obtain ⟨m, r⟩ := a
  obtain ⟨n, q⟩ := b
  have h := PySem.W.ked_eqvAll r q
  simp only [encK, PyData.eqv, PyData.eqvAll, h]
  by_cases h1 : m = n <;> by_cases h2 : r = q <;> simp [h1, h2]
theorem plain_nums : ∀ r : List Int, PyData.plainAll (r.map .int) = true
  | [] => by simp [PyData.plainAll]
  | _ :: r => by simp [PyData.plainAll, PyData.plain, plain_nums r]
theorem plain_nk (k : Nk) : (encK k).plain = true := by simp [encK, PyData.plain, PyData.plainAll, plain_nums]
theorem plain_nks : ∀ l : List Nk, PyData.plainAll (l.map encK) = true
  | [] => by simp [PyData.plainAll]
  | k :: l => by simp [PyData.plainAll, plain_nk, plain_nks l]
theorem depth_nk (k : Nk) : (encK k).depth ≤ 2 := by
  have h : PyData.depthAll (k.2.map .int) = 0 := PySem.W.depth_ints _
  simp [encK, PyData.depth, PyData.depthAll, h]
theorem nks_reads {P : Program} {w : World} {K : PySem.W.Frag} {μ : List Addr} {H : Hp} {h : Heap} (hok : HOk P w H h) (KX : K.In h) : ∀ {l : List Nk} {vs : List V} {us : List Value}, Reps K μ H (l.map nkD) vs → Vals vs us → ReadsAll h us (l.map encK) []
  | [], _, _, .nil, .nil => .nil
  | k :: l, _, _, .cons r t, .cons q u => by
    obtain ⟨b, rfl⟩ := nk_refK r
    cases (show _ = Value.ref b from q)
    exact .cons (as := []) (bs := []) (nk_reads hok KX r) (nks_reads hok KX t u)
/-- l.count(k) -/
def rCountN (K : PySem.W.Frag) : V → List V → Hp → VK → Prop := fun x xs H Q => ∃ (a b : Addr) (l : List Nk) (vs : List V) (k : Nk) (μ : List Addr), x = .ref a ∧ xs = [.ref b] ∧ SqL K H a vs ∧ Reps K μ H (l.map nkD) vs ∧ Rep K μ H (nkD k) (.ref b) ∧ Q (.int (l.count k)) H
theorem mt_countN (hu : X.A.units + 60 < cLine) : MtR X "list.count" (rCountN X.K) := by
  rintro pins s σ H x xs v us Q I rx rxs ⟨a, b, l, vs, k, μ, rfl, rfl, hs, rs, rk, q⟩
  cases (show v = Value.ref a from rx)
  obtain ⟨u1, rfl, r1⟩ := Vals.one rxs
  cases (show u1 = Value.ref b from r1)
  obtain ⟨its, rv, hl, _⟩ := I.list hs
  have hd := depth_nk k
  refine PySem.SeqAt.count_list_data (d := encK k) (xs := l.map encK) (bs := []) hl.isList (nks_reads I.hok I.kIn rs rv) (nk_reads I.hok I.kIn rk) (plain_nks l) (plain_nk k) (show X.A.units + 1 + min _ _ < cLine by omega) ?_
  have e : (l.map encK).countP (fun y => PyData.eqv y (encK k)) = l.count k := by
    rw [List.countP_map]
    refine List.countP_congr fun y _ => ?_
    show PyData.eqv (encK y) (encK k) = true ↔ (y == k) = true
    rw [eqv_nk, decide_eq_true_eq, beq_iff_eq]
  rw [e]
  exact ⟨.int _, H, I.tok _, ⟨_, rfl⟩, q⟩
/-- dict(pairs) -/
def rDictN (K : PySem.W.Frag) : List V → Hp → VK → Prop := fun xs H Q => ∃ (a : Addr) (ps : List Addr) (kvs : List (Nk × Int)) (μ : List Addr), xs = [.ref a] ∧ SqL K H a (ps.map V.ref) ∧
  Paired (fun (p : Addr) (kv : Nk × Int) => ∃ b, SqT K H p [.ref b, .int kv.2] ∧ Rep K μ H (nkD kv.1) (.ref b)) ps kvs ∧ ∀ D xs, H D = none → NRep K μ H (mergeN kvs) xs → Q (.ref D) (upd H D (.ext (NdP D xs)))
theorem pairs_nk {pins : List (Addr × PySem.Obj)} {σ : L2.St} {H : Hp} {s : Shared} {μ : List Addr} (I : Inv X pins σ H s) : ∀ {ps : List Addr} {kvs : List (Nk × Int)}, Paired (fun (p : Addr) (kv : Nk × Int) => ∃ b, SqT X.K H p [.ref b, .int kv.2] ∧ Rep X.K μ H (nkD kv.1) (.ref b)) ps kvs →
    ∃ xs : List (NestedKey × Addr × Value), NRep X.K μ H kvs xs ∧ Paired (fun (p : Addr) (x : NestedKey × Addr × Value) => IsTup s.heap p #[.ref x.2.1, x.2.2]) ps xs
  | _, _, .nil => ⟨[], .nil, .nil⟩
  | _, _, .cons (b := kv) ⟨b, h1, h2⟩ t => by
    obtain ⟨xs, r, q⟩ := pairs_nk I t
    obtain ⟨its, rv, ht, _⟩ := I.tuple h1
    obtain ⟨u, y, rfl, ru, ry⟩ := Vals.two rv
    cases (show u = Value.ref b from ru)
    exact ⟨(nkK kv.1, b, y) :: xs, .cons ⟨rfl, h2, ry⟩ r, .cons ht q⟩
theorem merge_nrep {K : PySem.W.Frag} {μ : List Addr} {H : Hp} : ∀ {kvs : List (Nk × Int)} {xs : List (NestedKey × Addr × Value)} {acc : List (Nk × Int)} {ys : List (NestedKey × Addr × Value)}, NRep K μ H kvs xs → NRep K μ H acc ys →
    NRep K μ H (kvs.foldl (fun acc p => nput acc p.1 p.2) acc) (xs.foldl (fun acc p => storedH acc p.1 p.2.1 p.2.2) ys)
  | [], [], _, _, _, h => h
  | [], _ :: _, _, _, r, h => by cases r
  | _ :: _, [], _, _, r, h => by cases r
  | p :: kvs, x :: xs, acc, ys, r, h => by
    cases r with
    | cons q t =>
      obtain ⟨q1, q2, q3⟩ := q
      have := nrep_put q2 q3 h
      rw [← q1] at this
      exact merge_nrep (kvs := kvs) (xs := xs) t this
theorem refs_nk : ∀ {ps : List Addr} {us : List Value}, Vals (ps.map V.ref) us → us = ps.map Value.ref
  | [], us, r => by
    cases r
    rfl
  | p :: ps, us, r => by
    cases r with
    | cons h t => rw [List.map_cons, ← refs_nk t, show _ = Value.ref p from h]
theorem mergeN_len (kvs : List (Nk × Int)) : (mergeN kvs).length ≤ kvs.length := by
  have key : ∀ (l acc : List (Nk × Int)), (l.foldl (fun acc p => nput acc p.1 p.2) acc).length ≤ acc.length + l.length := by
    intro l
    induction l with
    | nil => intro acc; exact Nat.le_refl _
    | cons p l ih =>
      intro acc
      refine Nat.le_trans (ih (nput acc p.1 p.2)) ?_
      have := nput_len acc p.1 p.2
      rw [List.length_cons]
      omega
  have := key kvs []
  rw [List.length_nil, Nat.zero_add] at this
  exact this
theorem cr_dictN (hc : X.calm = true) (hu : X.A.units + 60 < cLine) : CallR X (.type "dict") (rDictN X.K) := by
  rintro pins s σ H xs us Q I rr ⟨a, ps, kvs, μ, rfl, hq, hp, q⟩
  obtain ⟨u, rfl, rx⟩ := Vals.one rr
  cases (show u = Value.ref a from rx)
  obtain ⟨its, rv, pl, hz⟩ := I.list hq
  have ei := refs_nk rv
  subst ei
  rw [List.length_map] at hz
  obtain ⟨xs, rn, pt⟩ := pairs_nk I hp
  have l1 : ps.length = xs.length := Paired.length pt
  have gx : ∀ {j : Nat} {x : NestedKey × Addr × Value}, xs[j]? = some x → ∃ p, ps[j]? = some p ∧ IsTup s.heap p #[.ref x.2.1, x.2.2] := by
    intro j x hx
    have hj : j < ps.length := by rw [l1]; exact (List.getElem?_eq_some_iff.mp hx).1
    obtain ⟨y, hy, t⟩ := paired_at pt (List.getElem?_eq_getElem hj)
    rw [hx] at hy
    cases hy
    exact ⟨_, List.getElem?_eq_getElem hj, t⟩
  obtain ⟨i1, i2, i3⟩ := nrep_all (P := X.prog) (w := X.w) I.hok I.kIn X.w rn
  have P := PairArg.list (prog := X.prog) (w := X.w) a (ps.map Value.ref).toArray (fun j => (ps[j]?).getD 0) (xs.map fun x => (Value.ref x.2.1, x.2.2))
  rw [List.length_map] at P
  have okh : PlainSeq "list" s.heap a (ps.map Value.ref).toArray ∧ PairItems s.heap (ps.map Value.ref).toArray (fun j => (ps[j]?).getD 0) (xs.map fun x => (Value.ref x.2.1, x.2.2)) := by
    refine ⟨?_, by simp [l1], fun j k v hj => ?_⟩
    · obtain ⟨o, n, h1, h2, h3, h4⟩ := pl
      exact ⟨o, n, h1, h2, h3, h4⟩
    · rw [List.getElem?_map] at hj
      obtain ⟨x, hx, ex⟩ := Option.map_eq_some_iff.mp hj
      cases ex
      obtain ⟨p, hp1, t⟩ := gx hx
      refine ⟨by simp [hp1], .inl ?_⟩
      simp only [hp1, Option.getD_some]
      exact t
  refine call_dict_pairsH (knd := nestedKind X.prog X.w) (ps := xs) P (I.ok.hd hc) (show X.A.units + 1 + 1 + 8 < cLine by omega) okh ⟨rfl, fun i key v hv => ?_⟩ (fun h' hk x hx => ?_) (by omega) fun h' tk dd hk => ?_
  · have hv : (xs.map fun x => (Value.ref x.2.1, x.2.2))[i]? = some (key, v) := hv
    rw [List.getElem?_map] at hv
    obtain ⟨x, hx, ex⟩ := Option.map_eq_some_iff.mp hv
    cases ex
    exact ⟨x.1, x.2.1, hx, rfl⟩
  · exact nestedKind_stays.stays (fun b o _ _ e _ => hk b o (Nat.ne_of_lt (Heap.lt_size e)) (by simp) e) (i1 x hx)
  · have hm : (s.heap.objs.size == sysModules) = false := beq_eq_false_iff_ne.mpr (Nat.ne_of_gt I.big)
    have rn2 : NRep X.K μ H (mergeN kvs) (storedAllH [] xs) := merge_nrep rn .nil
    have hlen : (storedAllH [] xs).length ≤ sizeLine := by
      rw [← NRep.length rn2]
      have := mergeN_len kvs
      have := NRep.length rn
      omega
    exact ⟨.ref s.heap.objs.size, upd H s.heap.objs.size (.ext (NdP s.heap.objs.size (storedAllH [] xs))), I.laid (t' := tk) (fun b o e => hk b o (by simp) e) (Nat.le_refl _) (nd_to dd hm hlen), rfl, q _ _ (I.hok.fresh (Nat.le_refl _)) rn2⟩
end
section
variable {T : Tab} {K : PySem.W.Frag} {W : WX} {C : Ctl} {σ : L2.St} {H : Hp} {Q : VK}
theorem nks_of : ∀ {l : List D} {ks : List Nk}, l.mapM nkOf = some ks → l = ks.map nkD
  | [], ks, h => by
    have h : some [] = some ks := by simpa using h
    cases h
    rfl
  | d :: l, ks, h => by
    rw [List.mapM_cons] at h
    cases q : nkOf d with
    | none => rw [q] at h; cases h
    | some k =>
      cases q2 : l.mapM nkOf with
      | none => rw [q, q2] at h; cases h
      | some ks' =>
        rw [q, q2] at h
        have h : some (k :: ks') = some ks := h
        cases h
        rw [List.map_cons, nks_of q2, nkOf_eq q]
theorem NdAt.ext {μ μ' : List Addr} {H H' : Hp} {a : Addr} {kvs : List (Nk × Int)} (N : NdAt K μ H a kvs) (e : Mon (K := K) μ H μ' H') (f : ∀ o, H a = some o → H' a = some o) : NdAt K μ' H' a kvs := by
  rcases N with ⟨xs, h, r, nd⟩ | ⟨h1, h⟩
  · exact .inl ⟨xs, f _ h, NRep.mon r e, nd⟩
  · exact .inr ⟨h1, f _ h⟩
theorem ndM_V {α : Type} {μ : List Addr} {S : Store} {H : Hp} {d : D} {x : V} {f : List (Nk × Int) → M α} {R : α → Store → List Addr → Hp → Prop} {Wx : Nat → Hp → Prop} (c : Cor K μ S H) (rd : Rep K μ H d x) (h : Pst K μ H (bnd (ndM d) f S) R Wx) :
    ∃ a kvs, x = .ref a ∧ NdAt K μ H a kvs ∧ Pst K μ H (f kvs S) R Wx := by
  cases rd with
  | @ref n a hn =>
    obtain ⟨o, h1, h2⟩ := c.obj' hn
    unfold bnd ndM bnd VM.rd at h
    dsimp only at h
    rw [h1] at h
    cases o with
    | nd kvs => obtain ⟨xs, q, r, nd⟩ := h2; exact ⟨a, kvs, rfl, .inl ⟨xs, q, r, nd⟩, h⟩
    | dk kvs =>
      cases kvs with
      | nil =>
        obtain ⟨ks, q, r⟩ := h2
        cases r
        exact ⟨a, [], rfl, .inr ⟨rfl, q⟩, h⟩
      | cons _ _ => exact h.elim
    | _ => exact h.elim
  | _ => exact h.elim
theorem read_nget {a k x : Exp} (h : tE K T W C (.nget a k x) σ H Q) : tNM K (rGetN K) (tE K T W C a) (tCons (tE K T W C k) (tCons (tE K T W C x) tNil)) σ H Q := by
  obtain ⟨μ, S, ρ, c, er, h⟩ := h
  refine ⟨μ, S, ρ, c, er, Pst.then h fun d S1 μ1 H1 c1 e1 h1 v rv => ?_⟩
  obtain ⟨p, kvs, rfl, N, h2⟩ := ndM_V c1 rv h1
  refine ⟨⟨p, kvs, μ1, rfl, N⟩, μ1, S1, ρ, c1, er.ext e1, Pst.then h2 fun y S2 μ2 H2 c2 e2 h3 yv ry => ⟨μ2, S2, ρ, c2, (er.ext e1).ext e2, Pst.then h3 fun z S3 μ3 H3 c3 e3 h4 zv rz => ?_⟩⟩
  unfold ngetR at h4
  obtain ⟨p', kvs', ep, N', h5⟩ := ndM_V c3 ((rv.ext e2).ext e3) h4
  cases ep
  obtain ⟨kk, hk, h6⟩ := Pst.lft c3 (Pst.bnd h5)
  obtain ⟨cc, hc, h7⟩ := Pst.lft c3 (Pst.bnd h6)
  have ek := nkOf_eq hk
  have ec := intD_eq hc
  subst ek ec
  obtain ⟨b, rfl⟩ := nk_refK ry
  cases rz
  exact ⟨p, b, kvs', kk, cc, μ3, rfl, rfl, N', ry.ext e3, Pst.now c3 h7 _ (.int _)⟩
theorem read_srn {a : Exp} {X : Cx} (hK : X.K = K) (h : tE K T W C (.srn a) σ H Q) : tCB (rSortN X) (tCons (tNM0 X.K (rItemsN X) (tE K T W C a)) tNil) σ H Q := by
  subst hK
  obtain ⟨μ, S, ρ, c, er, h⟩ := h
  refine ⟨μ, S, ρ, c, er, Pst.then h fun d S1 μ1 H1 c1 e1 h1 v rv => ?_⟩
  unfold srnR at h1
  obtain ⟨a, kvs, rfl, N, h2⟩ := ndM_V c1 rv h1
  refine ⟨⟨a, kvs, μ1, rfl, N⟩, a, kvs, μ1, rfl, rfl, N, fun p hp => ?_⟩
  obtain ⟨e2, c2⟩ := c1.side (u := DX.itemsO p a) hp
  have N2 : NdAt X.K μ1 (upd H1 p (DX.itemsO p a)) a kvs := N.ext e2.mon fun o q => by rw [upd_ne (ne_of_none q hp)]; exact q
  refine ⟨p, a, kvs, μ1, rfl, upd_same, N2, fun H' l ps ext eps hl0 hL hz => ?_⟩
  obtain ⟨e3, c3⟩ := c2.keep (H' := H') ext
  have nl : H1 l = none := by
    by_cases q : l = p
    · rw [q]; exact hp
    · rw [upd_ne q] at hl0; exact hl0
  have key : ∀ {ps : List (Addr × (Nk × Int))} {kvs : List (Nk × Int)} {μ' : List Addr}, Mon (K := X.K) μ1 H' μ' H' → ps.map (·.2) = kvs → (∀ z ∈ ps, ∃ q, H' z.1 = some (.tup [.ref q, .int z.2.2]) ∧ Rep X.K μ1 (upd H1 p (DX.itemsO p a)) (nkD z.2.1) (.ref q)) →
      Reps X.K μ' H' (kvs.map fun p => VM.D.tup [nkD p.1, .int p.2]) (ps.map fun z => V.ref z.1) := by
    intro ps
    induction ps with
    | nil =>
      intro kvs μ' mo e _
      cases e
      exact .nil
    | cons z ps ih =>
      intro kvs μ' mo e hz
      cases e
      obtain ⟨q, h1, h2⟩ := hz z (.head _)
      exact .cons (.tup (.inl (.inl h1)) (.cons ((h2.ext e3).mon mo) (.cons (.int _) .nil))) (ih mo rfl fun y hy => hz y (.tail _ hy))
  have c4 := c3.adopt (o := .lst ((sortI kvs).map fun p => VM.D.tup [nkD p.1, .int p.2])) (c1.out nl) fun μ' mo => ⟨_, hL, key mo eps hz⟩
  exact h2 _ _ c4 ((e2.trans e3).adopt nl) _ c3.adopt_ref
theorem read_count {a b : Exp} {X : Cx} (hK : X.K = K) (h : tE K T W C (.cnt a b) σ H Q) : tBM K "list" (rCountN K) (tE K T W C a) (tCons (tE K T W C b) tNil) σ H Q := by
  subst hK
  obtain ⟨μ, S, ρ, c, er, h⟩ := h
  refine ⟨μ, S, ρ, c, er, Pst.then h fun x S1 μ1 H1 c1 e1 h1 xv rx => ?_⟩
  obtain ⟨ht, h2⟩ := mthTy_V c1 rx h1
  refine ⟨ht, μ1, S1, ρ, c1, er.ext e1, Pst.then h2 fun y S2 μ2 H2 c2 e2 h3 yv ry => ?_⟩
  have rx2 := rx.ext e2
  cases rx2 with
  | @ref n a hn =>
    obtain ⟨l, vs, q, r, h4⟩ := pst_lst c2 hn h3
    obtain ⟨ks, hk, h5⟩ := Pst.lft c2 (Pst.bnd h4)
    obtain ⟨k, hy, h6⟩ := Pst.lft c2 (Pst.bnd h5)
    have ek := nkOf_eq hy
    have el := nks_of hk
    subst ek el
    obtain ⟨b, rfl⟩ := nk_refK ry
    exact ⟨a, b, ks, vs, k, μ2, rfl, rfl, q, r, ry, Pst.now c2 h6 _ (.int _)⟩
  | _ => exact h3.elim
theorem np_rep {μ : List Addr} {H : Hp} : ∀ {l : List D} {vs : List V} {kvs : List (Nk × Int)}, Paired (fun d kv => npOf d = some kv) l kvs → Reps K μ H l vs →
    ∃ ps : List Addr, vs = ps.map V.ref ∧ Paired (fun (p : Addr) (kv : Nk × Int) => ∃ b, SqT K H p [.ref b, .int kv.2] ∧ Rep K μ H (nkD kv.1) (.ref b)) ps kvs
  | [], _, _, .nil, .nil => ⟨[], rfl, .nil⟩
  | d :: l, _, _, .cons h t, .cons r rs => by
    obtain ⟨ps, e, hp⟩ := np_rep t rs
    unfold npOf at h
    split at h
    · rename_i k v
      cases r with
      | @tup a vs ds q r =>
        cases r with
        | cons r1 r =>
          cases r with
          | cons r2 r =>
            cases r
            cases q2 : nkOf k with
            | none => rw [q2] at h; cases h
            | some k' =>
              cases q3 : intD v with
              | none => rw [q2, q3] at h; cases h
              | some c' =>
                rw [q2, q3] at h
                cases h
                have ek := nkOf_eq q2
                have ec := intD_eq q3
                subst ek ec
                obtain ⟨b, rfl⟩ := nk_refK r1
                cases r2
                exact ⟨a :: ps, by rw [e]; rfl, .cons ⟨b, q, r1⟩ hp⟩
    · cases h
theorem mergeN_nd (kvs : List (Nk × Int)) : ((mergeN kvs).map (·.1)).Nodup := by
  have key : ∀ (l acc : List (Nk × Int)), (acc.map (·.1)).Nodup → ((l.foldl (fun acc p => nput acc p.1 p.2) acc).map (·.1)).Nodup := by
    intro l
    induction l with
    | nil => intro acc h; exact h
    | cons p l ih => intro acc h; exact ih _ (nput_keys _ _ _ h)
  exact key kvs [] List.nodup_nil
theorem read_dnp {a : Exp} (h : tE K T W C (.dnp a) σ H Q) : tCB (rDictN K) (tCons (tE K T W C a) tNil) σ H Q := by
  obtain ⟨μ, S, ρ, c, er, h⟩ := h
  refine ⟨μ, S, ρ, c, er, Pst.then h fun x S1 μ1 H1 c1 e1 h1 xv rx => ?_⟩
  cases rx with
  | @ref n a hn =>
    obtain ⟨l, vs, q, r, h4⟩ := pst_lst c1 hn h1
    obtain ⟨kvs, hk, h5⟩ := Pst.lft c1 (Pst.bnd h4)
    obtain ⟨ps, rfl, hp⟩ := np_rep (mapM_some hk) r
    exact ⟨a, ps, kvs, μ1, rfl, q, hp, fun p xs hD rn => Pst.newO c1 hD (Pst.nox (nox_new _) h5) fun μ' H' e z => ⟨xs, z, NRep.mon rn e.mon, mergeN_nd kvs⟩⟩
  | _ => exact h1.elim
theorem ints_v {μ : List Addr} {H : Hp} : ∀ {r : List Int} {vs : List V}, Reps K μ H (r.map VM.D.int) vs → vs = r.map V.int
  | [], _, .nil => rfl
  | x :: r, _, .cons (.int _) t => by rw [List.map_cons, ← ints_v t]
theorem read_sm {a : Exp} (h : tE K T W C (.sm a) σ H Q) : tCB (rSum K) (tCons (tE K T W C a) tNil) σ H Q := by
  obtain ⟨μ, S, ρ, c, er, h⟩ := h
  refine ⟨μ, S, ρ, c, er, Pst.then h fun x S1 μ1 H1 c1 e1 h1 xv rx => ?_⟩
  cases rx with
  | @ref n a hn =>
    obtain ⟨l, vs, q, r, h4⟩ := pst_lst c1 hn h1
    obtain ⟨ns, hk, h5⟩ := Pst.lft c1 (Pst.bnd h4)
    have el := ints_of hk
    subst el
    have ev := ints_v r
    subst ev
    exact ⟨a, ns, rfl, q, Pst.now c1 h5 _ (.int _)⟩
  | _ => exact h1.elim
theorem isi_N {α : Type} {i : Nat} {S : Store} {μ : List Addr} {H : Hp} {d : D} {f : Bool → M α} {R : α → Store → List Addr → Hp → Prop} {Wx : Nat → Hp → Prop} (h : Pst K μ H (bnd (isiB i d) f S) R Wx) :
    ∃ t, tyN S d = some t ∧ i < 6 ∧ Pst K μ H (f (t == i || (t == 1 && i == 0)) S) R Wx := by
  unfold bnd isiB at h
  cases q : tyN S d with
  | none => rw [q] at h; exact h.elim
  | some t =>
    rw [q] at h
    simp only at h
    by_cases hb : i < 6
    · rw [if_pos hb] at h
      exact ⟨t, rfl, hb, h⟩
    · rw [if_neg hb] at h
      exact h.elim
theorem read_isp {a : Exp} {i j : Nat} {X : Cx} (hK : X.K = K) (h : tE K T W C (.isp a i j) σ H Q) : tCB (rIsiP K) (tCons (tE K T W C a) (tCons (tTup (tCons (tC (.ty (tyNm i))) (tCons (tC (.ty (tyNm j))) tNil))) tNil)) σ H Q := by
  subst hK
  obtain ⟨μ, S, ρ, c, er, h⟩ := h
  refine ⟨μ, S, ρ, c, er, Pst.then h fun d S1 μ1 H1 c1 e1 h1 v rv => ?_⟩
  unfold ispR at h1
  obtain ⟨t, ht, hi, h2⟩ := isi_N h1
  obtain ⟨t', ht', hj, h3⟩ := isi_N h2
  rw [ht] at ht'
  cases ht'
  refine ⟨by rw [sizeLine_eq]; show 2 ≤ _; omega, fun p hp => ?_⟩
  obtain ⟨e2, c2⟩ := c1.side (u := .tup [.ty (tyNm i), .ty (tyNm j)]) hp
  exact ⟨v, p, [.ty (tyNm i), .ty (tyNm j)], _, [.type (tyNm i), .type (tyNm j)], _, upd_same, .cons (.ty _) (.cons (.ty _) .nil), tyX_of c2 (rv.ext e2) ht, kit_two (kit_ty (kit_all t (tyN_lt ht) i hi)) (kit_ty (kit_all t (tyN_lt ht) j hj)), rfl, Pst.now c2 (Pst.ext h3 e2) _ (.bl _)⟩
end
end VM
set_option maxHeartbeats 8000000
namespace VM
open PySem L2 PySem.Spec PyProof.Rows
section
variable {T : Tab} {P : Prg} {k : Nat} {c : Cc}
mutual
theorem chE_ok : ∀ (a : Exp) (sc : Scope) (X : Cx) (W : WX) (e : Expr), Good T P k c sc X W → chE c sc a e = true → EOk T X W (ctl P k) e a
  | .var i, sc, X, W, e, g, h => by
    unfold chE at h
    split at h
    · obtain ⟨h, h3⟩ := and2 h
      obtain ⟨h1, h2⟩ := and2 h
      refine EOk.plain rfl rfl (PE.imp (pe_var (i := i) (by rw [g.hN]; exact of_decide_eq_true h1) ?_ (nmOk_of h3).1 (nmOk_of h3).2) fun σ H Q z => read_var z)
      have := visB_or h2
      rw [← g.sc] at this
      exact this
    · cases h
  | .lit d, sc, X, W, e, g, h => by
    unfold chE at h
    split at h
    · split at h
      · have := of_decide_eq_true h
        subst this
        exact EOk.plain rfl rfl (PE.imp pe_int fun σ H Q z => read_lit (fun _ _ => .int _) z)
      · cases h
    · split at h
      · have := of_decide_eq_true h
        subst this
        exact EOk.plain rfl rfl (PE.imp pe_str fun σ H Q z => read_lit (fun _ _ => .str _) z)
      · cases h
    · split at h
      · have := eq_of_beq h
        subst this
        exact EOk.plain rfl rfl (PE.imp pe_bl fun σ H Q z => read_lit (fun _ _ => .bl _) z)
      · cases h
    · split at h
      · exact EOk.plain rfl rfl (PE.imp pe_non fun σ H Q z => read_lit (fun _ _ => .non) z)
      · cases h
    · cases h
  | .glob n, sc, X, W, e, g, h => by
    unfold chE at h
    split at h
    · obtain ⟨h, h3⟩ := and2 h
      obtain ⟨h1, h2⟩ := and2 h
      obtain ⟨u, v, d, hm, rv, hd, r⟩ := g.globs n _ (of_decide_eq_true h1)
      exact EOk.plain rfl rfl (PE.imp (pe_glob (glB_of g.sc h2) hm rv (nmOk_of h3).1) fun σ H Q z => read_glob (C := ctl P k) hd r z)
    · cases h
  | .bin o a b, sc, X, W, e, g, h => by
    unfold chE at h
    split at h
    · obtain ⟨h, h3⟩ := and2 h
      obtain ⟨h1, h2⟩ := and2 h
      have := bopE_eq h1
      subst this
      exact EOk.plain rfl rfl (PE.imp (pe_op (opB_ok o) (chE_ok a sc X W _ g h2).pe (chE_ok b sc X W _ g h3).pe) fun σ H Q z => read_bin (nox_opB o) (fun _ => rfl) z)
    · cases h
  | .neg a, sc, X, W, e, g, h => by
    unfold chE at h
    split at h
    · exact EOk.plain rfl rfl (PE.imp (pe_un un_neg (chE_ok a sc X W _ g h).pe) fun σ H Q z => read_neg z)
    · cases h
  | .nt a, sc, X, W, e, g, h => by
    unfold chE at h
    split at h
    · obtain ⟨h1, h2⟩ := and2 h
      have ih := chE_ok a sc X W _ g h2
      exact ⟨PE.imp (pe_notT ih.pe) fun σ H Q z => read_nt rfl z, fun _ => PT.imp (pt_not (ih.pt (not1 h1))) fun σ H Q z => read_ntT z, fun z => by cases z⟩
    · cases h
  | .cmp o a b, sc, X, W, e, g, h => by
    unfold chE at h
    split at h
    · obtain ⟨h, h4⟩ := and2 h
      obtain ⟨h, h3⟩ := and2 h
      obtain ⟨h1, h2⟩ := and2 h
      have := copE_eq h1
      subst this
      have pa := (chE_ok a sc X W _ g h3).pe
      have pb := (chE_ok b sc X W _ g h4).pe
      exact ⟨PE.imp (pe_cmpR (opC_ok g.u65 o) pa pb (marks_set (not1 h2))) fun σ H Q z => read_bin (nox_opC o) (fun _ => rfl) z,
        fun _ => PT.imp (pt_cmpR (opC_ok g.u65 o) pa pb (marks_set (not1 h2))) fun σ H Q z => read_bin (nox_opC o) (fun _ => rfl) (tt_bl (fun _ _ _ _ => cmp_bl) z), fun z => by cases z⟩
    · cases h
  | .cmp2 o p a b d, sc, X, W, e, g, h => by
    unfold chE at h
    split at h
    · obtain ⟨h, h6⟩ := and2 h
      obtain ⟨h, h5⟩ := and2 h
      obtain ⟨h, h4⟩ := and2 h
      obtain ⟨h, h3⟩ := and2 h
      obtain ⟨h1, h2⟩ := and2 h
      have := copE_eq h1
      subst this
      have := copE_eq h2
      subst this
      have pa := (chE_ok a sc X W _ g h4).pe
      have pb := (chE_ok b sc X W _ g h5).pe
      have pd := (chE_ok d sc X W _ g h6).pe
      exact ⟨PE.imp (pe_chain (opC_ok g.u65 o) (opC_ok g.u65 p) pa pb pd (marks2 (not1 h3))) fun σ H Q z => read_cmp2 z,
        fun _ => PT.imp (pt_chain (opC_ok g.u65 o) (opC_ok g.u65 p) pa pb pd (marks2 (not1 h3))) fun σ H Q z => read_cmp2 (tt_bl (fun _ _ _ _ => cmp2_bl) z), fun z => by cases z⟩
    · cases h
  | .and a b, sc, X, W, e, g, h => by
    unfold chE at h
    split at h
    · rename_i x y r pos
      obtain ⟨h, h3⟩ := and2 h
      obtain ⟨h1, h2⟩ := and2 h
      have ia := chE_ok a sc X W _ g h2
      have key : PE X (.BoolOp .And (y :: r) pos) (tE X.K T W (ctl P k) b) ∧ PW X (.BoolOp .And (y :: r) pos) (tT X.K T W (ctl P k) b) := by
        cases r with
        | nil =>
          obtain ⟨h4, h5⟩ := and2 h3
          have ib := chE_ok b sc X W _ g h5
          exact ⟨pe_one ib.pe, pw_and1 (ib.pt (not1 h4))⟩
        | cons z r' =>
          have ib := chE_ok b sc X W _ g h3
          exact ⟨ib.pe, ib.pw rfl⟩
      have w := PW.imp (pw_and (ia.pt (not1 h1)) key.2) fun σ H Q z => read_andT z
      exact ⟨PE.imp (pe_andT ia.pe key.1) fun σ H Q z => read_and rfl z, fun _ => w.pt, fun _ => w⟩
    · cases h
  | .or a b, sc, X, W, e, g, h => by
    unfold chE at h
    split at h
    · rename_i x y r pos
      obtain ⟨h, h3⟩ := and2 h
      obtain ⟨h1, h2⟩ := and2 h
      have ia := chE_ok a sc X W _ g h2
      have key : PE X (.BoolOp .Or (y :: r) pos) (tE X.K T W (ctl P k) b) ∧ PW X (.BoolOp .Or (y :: r) pos) (tT X.K T W (ctl P k) b) := by
        cases r with
        | nil =>
          obtain ⟨h4, h5⟩ := and2 h3
          have ib := chE_ok b sc X W _ g h5
          exact ⟨pe_one ib.pe, pw_or1 (ib.pt (not1 h4))⟩
        | cons z r' =>
          have ib := chE_ok b sc X W _ g h3
          exact ⟨ib.pe, ib.pw rfl⟩
      have w := PW.imp (pw_or (ia.pt (not1 h1)) key.2) fun σ H Q z => read_orT z
      exact ⟨PE.imp (pe_orT ia.pe key.1) fun σ H Q z => read_or rfl z, fun _ => w.pt, fun _ => w⟩
    · cases h
  | .ife a b d, sc, X, W, e, g, h => by
    unfold chE at h
    split at h
    · obtain ⟨h, h4⟩ := and2 h
      obtain ⟨h, h3⟩ := and2 h
      obtain ⟨h1, h2⟩ := and2 h
      exact ⟨PE.imp (pe_ifExp ((chE_ok a sc X W _ g h2).pt (not1 h1)) (chE_ok b sc X W _ g h3).pe (chE_ok d sc X W _ g h4).pe) fun σ H Q z => read_ife z, fun z => (by cases z), fun z => by cases z⟩
    · cases h
  | .tup es, sc, X, W, e, g, h => by
    unfold chE at h
    split at h
    · exact EOk.plain rfl rfl (PE.imp (pe_tup (chs_ok es sc X W _ g h)) fun σ H Q z => read_tup z)
    · cases h
  | .lst es, sc, X, W, e, g, h => by
    unfold chE at h
    split at h
    · exact EOk.plain rfl rfl (PE.imp (pe_lst (chs_ok es sc X W _ g h)) fun σ H Q z => read_lst z)
    · cases h
  | .dct es, sc, X, W, e, g, h => by
    unfold chE at h
    split at h
    · obtain ⟨h, h5⟩ := and2 h
      obtain ⟨h, h4⟩ := and2 h
      obtain ⟨h, h3⟩ := and2 h
      obtain ⟨h1, h2⟩ := and2 h
      obtain ⟨hp, he⟩ := chD_ok es sc X W _ _ _ g h1
      refine EOk.plain rfl rfl (PE.imp (pe_disp hp h5 (of_decide_eq_true h4) (fun z => ?_) (of_decide_eq_true h3)) fun σ H Q z => read_dct he z)
      rw [z] at h2
      cases h2
    · cases h
  | .dct0, sc, X, W, e, g, h => by
    unfold chE at h
    split at h
    · exact EOk.plain rfl rfl (PE.imp pe_dnewK fun σ H Q z => read_dct0 z)
    · cases h
  | .idx a b, sc, X, W, e, g, h => by
    unfold chE at h
    split at h
    · obtain ⟨h, h3⟩ := and2 h
      obtain ⟨h1, h2⟩ := and2 h
      exact EOk.plain rfl rfl (PE.imp (pe_ix (opIx_ok g.u65) (chE_ok a sc X W _ g h2).pe (chE_ok b sc X W _ g h3).pe (plainIx (not1 h1))) fun σ H Q z => read_bin nox_opIx (fun _ => rfl) z)
    · cases h
  | .sl a lo hi, sc, X, W, e, g, h => by
    unfold chE at h
    split at h
    · obtain ⟨h, h3⟩ := and2 h
      obtain ⟨h1, h2⟩ := and2 h
      exact EOk.plain rfl rfl (PE.imp (pe_slice opSl_ok (chE_ok a sc X W _ g h1).pe (chP_ok lo sc X W _ g h2) (chP_ok hi sc X W _ g h3)) fun σ H Q z => read_sl z)
    · cases h
  | .call f es, sc, X, W, e, g, h => by
    unfold chE at h
    split at h
    · obtain ⟨h, h4⟩ := and2 h
      obtain ⟨h, h3⟩ := and2 h
      obtain ⟨h1, h2⟩ := and2 h
      exact EOk.plain rfl rfl (pe_callF g (of_decide_eq_true h1) h2 h3 h4 (chs_ok es sc X W _ g h4))
    · cases h
  | .bif b es, sc, X, W, e, g, h => by
    unfold chE at h
    split at h
    · obtain ⟨h, h3⟩ := and2 h
      obtain ⟨h1, h2⟩ := and2 h
      have hx := of_decide_eq_true h1
      have st := chs_star h3
      rw [List.all_cons, Bool.and_eq_true, Bool.not_eq_true'] at st
      refine EOk.plain rfl rfl (PE.imp (pe_bif (bif_call g b) (glB_of g.sc h2) hx ?_ (chs_ok es sc X W _ g h3) (starB_se st.1) (stars_none st.2)) fun σ H Q z => read_bif (nox_bif b) (fun _ => rfl) z)
      rw [hx]
      exact g.blt _ (bif_nm b)
    · cases h
  | .mth m o es, sc, X, W, e, g, h => by
    unfold chE at h
    split at h
    · obtain ⟨h, h6⟩ := and2 h
      obtain ⟨h, h5⟩ := and2 h
      obtain ⟨h, h4⟩ := and2 h
      obtain ⟨h, h3⟩ := and2 h
      obtain ⟨h1, h2⟩ := and2 h
      exact EOk.plain rfl rfl (pe_mth (of_decide_eq_true h1) (chE_ok o sc X W _ g h4).pe (chs_ok es sc X W _ g h5) (fun z => by rw [z] at h5; exact chs_nil h5) (notsuper (not1 h3)) h2 (chs_star h5) (of_decide_eq_true h6))
    · cases h
  | .isi a ty, sc, X, W, e, g, h => by
    unfold chE at h
    split at h
    · obtain ⟨h, h7⟩ := and2 h
      obtain ⟨h, h6⟩ := and2 h
      obtain ⟨h, h5⟩ := and2 h
      obtain ⟨h, h4⟩ := and2 h
      obtain ⟨h, h3⟩ := and2 h
      obtain ⟨h1, h2⟩ := and2 h
      have hx := of_decide_eq_true h1
      have hy := of_decide_eq_true h3
      have tb := ty_boot ty (of_decide_eq_true h5)
      subst hx hy
      have hm : X.mg "isinstance" = none := g.blt _ (by decide +kernel)
      have pt : ∀ pos, PE X (.Name (tyStr ty) pos) (tC (.ty (tyNm ty))) := fun pos => pe_bltn (glB_of g.sc h4) (g.blt _ tb.2.1) tb.1 rfl tb.2.2.1 tb.2.2.2
      exact EOk.plain rfl rfl (PE.imp (pe_callB call_isiN (glB_of g.sc h2) hm boot_isinstance (pa_cons (chE_ok a sc X W _ g h7).pe (pa_cons (pt _) pa_nil rfl) (starB_se (not1 h6))) (by decide) (by decide) (starB_se (not1 h6)) rfl) fun σ H Q z => read_isi rfl z)
    · cases h
  | .isx a j, sc, X, W, e, g, h => by
    unfold chE at h
    split at h
    · rename_i x p l y p2 pos
      obtain ⟨h, h7⟩ := and2 h
      obtain ⟨h, h6⟩ := and2 h
      obtain ⟨h, h5⟩ := and2 h
      obtain ⟨h, h4⟩ := and2 h
      obtain ⟨h, h3⟩ := and2 h
      obtain ⟨h1, h2⟩ := and2 h
      have hx := of_decide_eq_true h1
      subst hx
      have hm : X.mg "isinstance" = none := g.blt _ (by decide +kernel)
      have pt : ∀ pos, PE X (.Name y pos) (tC (vCls T j)) := fun pos => by
        unfold vCls
        rw [Bool.or_eq_true] at h5
        rcases h5 with h5 | h5
        · obtain ⟨h5, h8⟩ := and2 h5
          obtain ⟨q1, q2, q3, q4⟩ := g.clss j _ (of_decide_eq_true h5)
          rw [if_neg (Nat.ne_of_lt (of_decide_eq_true h8))]
          exact pe_glob (glB_of g.sc h3) q1 rfl (nmOk_of h4).1
        · obtain ⟨h9, h10⟩ := and2 h5
          have hy := of_decide_eq_true h10
          have hj := of_decide_eq_true h9
          subst hy
          rw [if_pos hj]
          exact pe_bltn (u := .type "ValueError") (glB_of g.sc h3) (g.blt _ (by decide +kernel)) (by decide +kernel) rfl (by decide) (by decide)
      exact EOk.plain rfl rfl (PE.imp (pe_callB call_isX (glB_of g.sc h2) hm boot_isinstance (pa_cons (chE_ok a sc X W _ g h7).pe (pa_cons (pt _) pa_nil rfl) (starB_se (not1 h6))) (by decide) (by decide) (starB_se (not1 h6)) rfl) fun σ H Q z => read_isx g.excs z)
    · cases h
  | .spl a b, sc, X, W, e, g, h => by
    unfold chE at h
    split at h
    · obtain ⟨h, h6⟩ := and2 h
      obtain ⟨h, h5⟩ := and2 h
      obtain ⟨h, h4⟩ := and2 h
      obtain ⟨h, h3⟩ := and2 h
      obtain ⟨h1, h2⟩ := and2 h
      have hx := of_decide_eq_true h1
      subst hx
      exact EOk.plain rfl rfl (PE.imp (pe_split (chE_ok a sc X W _ g h5).pe (chE_ok b sc X W _ g h6).pe (starB_se (not1 h4)) (notsuper (not1 h3)) h2) fun σ H Q z => read_spl z)
    · cases h
  | .lc own tg src ifs elt, sc, X, W, e, g, h => by
    unfold chE at h
    split at h
    · obtain ⟨h, h6⟩ := and2 h
      obtain ⟨h, h5⟩ := and2 h
      obtain ⟨h, h4⟩ := and2 h
      obtain ⟨h, h3⟩ := and2 h
      obtain ⟨h1, h2⟩ := and2 h
      obtain ⟨ho, hb⟩ := and2 h1
      have ho := of_decide_eq_true ho
      have bo := blkOk_by hb
      rw [← g.hN, ← g.sc] at bo
      have pe := fun pos => pe_lc (pos := pos) (g := tG X.K tg) (tt := tI X.K T WF (ctl P k) ifs) (te := tE X.K T WF (ctl P k) elt) g.calm g.nd (chSrc_ok src sc X W _ _ g h2) bo (fun s H C cl fp => chG_ok (X := X.blk s H _ (compEnvC _ cl C X.env) fp) g.hN g.nd g.calm (stOk_block s H C cl fp) tg _ h4)
        (fun s H C cl fp => chI_ok ifs _ (X.blk s H _ (compEnvC _ cl C X.env) fp) WF _ (g.block s H C cl fp) h5) (fun s H C cl fp => (chE_ok elt _ (X.blk s H _ (compEnvC _ cl C X.env) fp) WF _ (g.block s H C cl fp) h6).pe) (fsi (src_nset h2))
      simp only [ho] at pe
      exact EOk.plain rfl rfl (PE.imp (pe _) fun σ H Q z => read_lc (all_mem h3) z)
    · cases h
  | .lc2 own own1 tg src ifs tg1 src1 ifs1 elt, sc, X, W, e, g, h => by
    unfold chE at h
    split at h
    · obtain ⟨h, h11⟩ := and2 h
      obtain ⟨h, h10⟩ := and2 h
      obtain ⟨h, h9⟩ := and2 h
      obtain ⟨h, h8⟩ := and2 h
      obtain ⟨h, h7⟩ := and2 h
      obtain ⟨h, h6⟩ := and2 h
      obtain ⟨h, h5⟩ := and2 h
      obtain ⟨h, h4⟩ := and2 h
      obtain ⟨h, h3⟩ := and2 h
      obtain ⟨h1, h2⟩ := and2 h
      obtain ⟨ho, hb⟩ := and2 h1
      have ho := of_decide_eq_true ho
      have bo := blkOk_by hb
      rw [← g.hN, ← g.sc] at bo
      have pe := fun pos => pe_lc2 (pos := pos) (g := tG X.K tg) (tt := tI X.K T WF (ctl P k) ifs) (wi1 := tSr X.K T WF (ctl P k) src1) (g1 := tG X.K tg1) (tt1 := tI X.K T WF (ctl P k) ifs1) (te := tE X.K T WF (ctl P k) elt) (vs1 := own1) g.calm g.nd (chSrc_ok src sc X W _ _ g h2) bo (by rw [ho]; exact all_mem h6) (fun s H C cl fp => chG_ok (X := X.blk s H _ (compEnvC _ cl C X.env) fp) g.hN g.nd g.calm (stOk_block s H C cl fp) tg _ h4)
        (fun s H C cl fp => chI_ok ifs _ (X.blk s H _ (compEnvC _ cl C X.env) fp) WF _ (g.block s H C cl fp) h5)
        (fun s H C cl fp => chSrc_ok src1 _ (X.blk s H _ (compEnvC _ cl C X.env) fp) WF _ _ (g.block s H C cl fp) h7)
        (fun s H C cl fp => chG_ok (X := X.blk s H _ (compEnvC _ cl C X.env) fp) g.hN g.nd g.calm (stOk_block s H C cl fp) tg1 _ h9)
        (fun s H C cl fp => chI_ok ifs1 _ (X.blk s H _ (compEnvC _ cl C X.env) fp) WF _ (g.block s H C cl fp) h10)
        (fun s H C cl fp => (chE_ok elt _ (X.blk s H _ (compEnvC _ cl C X.env) fp) WF _ (g.block s H C cl fp) h11).pe) (fsi (src_nset h2)) (fun env => fsi (src_nset h7))
      simp only [ho] at pe
      exact EOk.plain rfl rfl (PE.imp (pe _) fun σ H Q z => read_lc2 (all_mem h3) (all_mem h8) z)
    · cases h
  | .srt a, sc, X, W, e, g, h => by
    unfold chE at h
    split at h
    · obtain ⟨h, h6⟩ := and2 h
      obtain ⟨h, h5⟩ := and2 h
      obtain ⟨h, h4⟩ := and2 h
      obtain ⟨h, h3⟩ := and2 h
      obtain ⟨h1, h2⟩ := and2 h
      have hx := of_decide_eq_true h1
      have hy := of_decide_eq_true h3
      subst hx hy
      have m1 : X.mg "sorted" = none := g.blt _ (by decide +kernel)
      have m2 : X.mg "set" = none := g.blt _ (by decide +kernel)
      have b1 : bootBuiltins "sorted" = some (.builtin "sorted") := by decide +kernel
      have b2 : bootBuiltins "set" = some (.type "set") := by decide +kernel
      have pe := (chE_ok a sc X W _ g h6).pe
      exact EOk.plain rfl rfl (PE.imp (pe_callB (cr_sortedT g.calm) (glB_of g.sc h2) m1 b1 (pa_cons (pe_callTy (cr_setOfT g.calm (by have := g.room.un; omega)) (glB_of g.sc h4) m2 b2 (pa_cons pe pa_nil (starB_se (not1 h5))) (by decide) (by decide) (starB_se (not1 h5)) rfl) pa_nil rfl) (by decide) (by decide) rfl rfl) fun σ H Q z => read_srt z)
    · cases h
  | .srs a, sc, X, W, e, g, h => by
    unfold chE at h
    split at h
    · obtain ⟨h, h6⟩ := and2 h
      obtain ⟨h, h5⟩ := and2 h
      obtain ⟨h, h4⟩ := and2 h
      obtain ⟨h, h3⟩ := and2 h
      obtain ⟨h1, h2⟩ := and2 h
      have hx := of_decide_eq_true h1
      have hy := of_decide_eq_true h3
      subst hx hy
      have m1 : X.mg "sorted" = none := g.blt _ (by decide +kernel)
      have m2 : X.mg "set" = none := g.blt _ (by decide +kernel)
      have b1 : bootBuiltins "sorted" = some (.builtin "sorted") := by decide +kernel
      have b2 : bootBuiltins "set" = some (.type "set") := by decide +kernel
      have pe := (chE_ok a sc X W _ g h6).pe
      exact EOk.plain rfl rfl (PE.imp (pe_callB (cr_sortG g.calm) (glB_of g.sc h2) m1 b1 (pa_cons (pe_callTy (cr_setL g.calm) (glB_of g.sc h4) m2 b2 (pa_cons pe pa_nil (starB_se (not1 h5))) (by decide) (by decide) (starB_se (not1 h5)) rfl) pa_nil rfl) (by decide) (by decide) rfl rfl) fun σ H Q z => read_srs z)
    · cases h
  | .lset a, sc, X, W, e, g, h => by
    unfold chE at h
    split at h
    · obtain ⟨h, h6⟩ := and2 h
      obtain ⟨h, h5⟩ := and2 h
      obtain ⟨h, h4⟩ := and2 h
      obtain ⟨h, h3⟩ := and2 h
      obtain ⟨h1, h2⟩ := and2 h
      have hx := of_decide_eq_true h1
      have hy := of_decide_eq_true h3
      subst hx hy
      have m1 : X.mg "len" = none := g.blt _ (by decide +kernel)
      have m2 : X.mg "set" = none := g.blt _ (by decide +kernel)
      have b2 : bootBuiltins "set" = some (.type "set") := by decide +kernel
      have pe := (chE_ok a sc X W _ g h6).pe
      exact EOk.plain rfl rfl (PE.imp (pe_callB cr_lk (glB_of g.sc h2) m1 PySem.boot_len (pa_cons (pe_callTy (cr_setL g.calm) (glB_of g.sc h4) m2 b2 (pa_cons pe pa_nil (starB_se (not1 h5))) (by decide) (by decide) (starB_se (not1 h5)) rfl) pa_nil rfl) (by decide) (by decide) rfl rfl) fun σ H Q z => read_lset z)
    · cases h
  | .rev a, sc, X, W, e, g, h => by
    unfold chE at h
    split at h
    · obtain ⟨h1, h2⟩ := and2 h
      have hj := of_decide_eq_true h1
      subst hj
      exact EOk.plain rfl rfl (PE.imp (pe_revT (chE_ok a sc X W _ g h2).pe) fun σ H Q z => read_rev z)
    · cases h
  | .rvl a, sc, X, W, e, g, h => by
    unfold chE at h
    split at h
    · obtain ⟨h1, h2⟩ := and2 h
      have hj := of_decide_eq_true h1
      subst hj
      exact EOk.plain rfl rfl (PE.imp (pe_revL (chE_ok a sc X W _ g h2).pe) fun σ H Q z => read_rvl z)
    · cases h
  | .mx a b, sc, X, W, e, g, h => by
    unfold chE at h
    split at h
    · obtain ⟨h, h6⟩ := and2 h
      obtain ⟨h, h5⟩ := and2 h
      obtain ⟨h, h4⟩ := and2 h
      obtain ⟨h, h3⟩ := and2 h
      obtain ⟨h1, h2⟩ := and2 h
      have hx := of_decide_eq_true h1
      subst hx
      have m1 : X.mg "max" = none := g.blt _ (by decide +kernel)
      have b1 : bootBuiltins "max" = some (.builtin "max") := by decide +kernel
      exact EOk.plain rfl rfl (PE.imp (pe_callB (call_max2 g.calm) (glB_of g.sc h2) m1 b1 (pa_cons (chE_ok a sc X W _ g h5).pe (pa_cons (chE_ok b sc X W _ g h6).pe pa_nil (starB_se (not1 h4))) (starB_se (not1 h3))) (by decide) (by decide) (starB_se (not1 h3)) (by rw [starB_se (not1 h4)]; rfl)) fun σ H Q z => read_mx z)
    · cases h
  | .mn a b, sc, X, W, e, g, h => by
    unfold chE at h
    split at h
    · obtain ⟨h, h6⟩ := and2 h
      obtain ⟨h, h5⟩ := and2 h
      obtain ⟨h, h4⟩ := and2 h
      obtain ⟨h, h3⟩ := and2 h
      obtain ⟨h1, h2⟩ := and2 h
      have hx := of_decide_eq_true h1
      subst hx
      have m1 : X.mg "min" = none := g.blt _ (by decide +kernel)
      exact EOk.plain rfl rfl (PE.imp (pe_callB (call_min2 g.calm) (glB_of g.sc h2) m1 boot_min0 (pa_cons (chE_ok a sc X W _ g h5).pe (pa_cons (chE_ok b sc X W _ g h6).pe pa_nil (starB_se (not1 h4))) (starB_se (not1 h3))) (by decide) (by decide) (starB_se (not1 h3)) (by rw [starB_se (not1 h4)]; rfl)) fun σ H Q z => read_mn z)
    · cases h
  | .kget d a, sc, X, W, e, g, h => by
    unfold chE at h
    split at h
    · rename_i y yp x ap r pos
      obtain ⟨h, h7⟩ := and2 h
      obtain ⟨h, h6⟩ := and2 h
      obtain ⟨h, h5⟩ := and2 h
      obtain ⟨h, h4⟩ := and2 h
      obtain ⟨h, h3⟩ := and2 h
      obtain ⟨h1, h2⟩ := and2 h
      have hx := of_decide_eq_true h1
      have hy := of_decide_eq_true h2
      subst hx hy
      cases hk : P.kds.lookup d with
      | none =>
        refine EOk.plain rfl rfl ⟨fun pins s σ H Q I q => ?_⟩
        obtain ⟨μ, S, ρ, c, er, q⟩ := q
        obtain ⟨z, hz, _⟩ := Pst.lft c (Pst.bnd q)
        have hz : P.kds.lookup d = some z := hz
        rw [hk] at hz
        cases hz
      | some kvs =>
        obtain ⟨a', ks, vs, ep, hm, mod, rel, D, rk⟩ := g.kds d kvs hk
        have hst : [r].all (fun e => !starB e) = true := by rw [List.all_cons, h6]; rfl
        have hse := starB_se (es := []) (env := X.env) (not1 h6)
        exact EOk.plain rfl rfl (PE.imp (pe_kget (glB_of g.sc h3) hm (nmOk_of h4).1 mod rel (fun h z => (D X.prog h z).dictOf) (chE_ok a sc X W _ g h7).pe ⟨notsuper rfl, few_of hst (by show 1 < 20; decide), h5, by rw [hse]; rfl⟩) fun σ H Q z => read_kget (C := ctl P k) hk rk z)
    · cases h
  | .kidx d a, sc, X, W, e, g, h => by
    unfold chE at h
    split at h
    · obtain ⟨h, h5⟩ := and2 h
      obtain ⟨h, h4⟩ := and2 h
      obtain ⟨h, h3⟩ := and2 h
      obtain ⟨h1, h2⟩ := and2 h
      have hy := of_decide_eq_true h1
      subst hy
      cases hk : P.kds.lookup d with
      | none =>
        refine EOk.plain rfl rfl ⟨fun pins s σ H Q I q => ?_⟩
        obtain ⟨μ, S, ρ, c, er, q⟩ := q
        obtain ⟨z, hz, _⟩ := Pst.lft c (Pst.bnd q)
        have hz : P.kds.lookup d = some z := hz
        rw [hk] at hz
        cases hz
      | some kvs =>
        obtain ⟨a', ks, vs, ep, hm, mod, rel, D, rk⟩ := g.kds d kvs hk
        exact EOk.plain rfl rfl (PE.imp (pe_kidx (glB_of g.sc h2) hm (nmOk_of h3).1 rel (fun h z => (D X.prog h z).dictOf) (chE_ok a sc X W _ g h5).pe (plainIx (not1 h4))) fun σ H Q z => read_kidx (C := ctl P k) hk rk z)
    · cases h
  | .lzip a b, sc, X, W, e, g, h => by
    unfold chE at h
    split at h
    · obtain ⟨h, h8⟩ := and2 h
      obtain ⟨h, h7⟩ := and2 h
      obtain ⟨h, h6⟩ := and2 h
      obtain ⟨h, h5⟩ := and2 h
      obtain ⟨h, h4⟩ := and2 h
      obtain ⟨h, h3⟩ := and2 h
      obtain ⟨h1, h2⟩ := and2 h
      have hx := of_decide_eq_true h1
      have hy := of_decide_eq_true h3
      subst hx hy
      exact EOk.plain rfl rfl (PE.imp (VZ.pe_lz g.calm (glB_of g.sc h2) (g.blt _ (by decide +kernel)) (glB_of g.sc h4) (g.blt _ (by decide +kernel)) (pa_cons (chE_ok a sc X W _ g h7).pe (pa_cons (chE_ok b sc X W _ g h8).pe pa_nil (starB_se (not1 h6))) (starB_se (not1 h5))) (starB_se (not1 h5)) (by rw [starB_se (not1 h6)]; rfl)) fun σ H Q z => read_lzip z)
    · cases h
  | .dzip a b, sc, X, W, e, g, h => by
    unfold chE at h
    split at h
    · obtain ⟨h, h8⟩ := and2 h
      obtain ⟨h, h7⟩ := and2 h
      obtain ⟨h, h6⟩ := and2 h
      obtain ⟨h, h5⟩ := and2 h
      obtain ⟨h, h4⟩ := and2 h
      obtain ⟨h, h3⟩ := and2 h
      obtain ⟨h1, h2⟩ := and2 h
      have hx := of_decide_eq_true h1
      have hy := of_decide_eq_true h3
      subst hx hy
      exact EOk.plain rfl rfl (PE.imp (VZ.pe_dz g.calm (glB_of g.sc h2) (g.blt _ (by decide +kernel)) (glB_of g.sc h4) (g.blt _ (by decide +kernel)) (pa_cons (chE_ok a sc X W _ g h7).pe (pa_cons (chE_ok b sc X W _ g h8).pe pa_nil (starB_se (not1 h6))) (starB_se (not1 h5))) (starB_se (not1 h5)) (by rw [starB_se (not1 h6)]; rfl)) fun σ H Q z => read_dzip z)
    · cases h
  | .ixm a b, sc, X, W, e, g, h => by
    unfold chE at h
    split at h
    · rename_i l x ap r pos
      obtain ⟨h, h6⟩ := and2 h
      obtain ⟨h, h5⟩ := and2 h
      obtain ⟨h, h4⟩ := and2 h
      obtain ⟨h, h3⟩ := and2 h
      obtain ⟨h1, h2⟩ := and2 h
      have hx := of_decide_eq_true h1
      subst hx
      have hst : [r].all (fun e => !starB e) = true := by rw [List.all_cons, h4]; rfl
      exact EOk.plain rfl rfl (PE.imp (pe_bm PySem.F.plainAttrs_list PySem.F.slot_list_index PySem.F.type_list_index (mt_indexD g.u65) (chE_ok a sc X W _ g h5).pe (pa_cons (chE_ok b sc X W _ g h6).pe pa_nil (starB_se (not1 h4))) (notsuper (not1 h3)) (few_of hst (by show 1 < 20; decide)) h2 (starB_se (not1 h4)) (by rfl)) fun σ H Q z => read_ixm rfl z)
    · cases h
  | .swi a b d, sc, X, W, e, g, h => by
    unfold chE at h
    split at h
    · rename_i l x ap r r2 pos
      obtain ⟨h, h8⟩ := and2 h
      obtain ⟨h, h7⟩ := and2 h
      obtain ⟨h, h6⟩ := and2 h
      obtain ⟨h, h5⟩ := and2 h
      obtain ⟨h, h4⟩ := and2 h
      obtain ⟨h, h3⟩ := and2 h
      obtain ⟨h1, h2⟩ := and2 h
      have hx := of_decide_eq_true h1
      subst hx
      have hst : [r, r2].all (fun e => !starB e) = true := by rw [List.all_cons, List.all_cons, h4, h5]; rfl
      exact EOk.plain rfl rfl (PE.imp (pe_bm PySem.F.plainAttrs_str PySem.F.slot_str_startswith PySem.F.type_str_startswith mt_startswith3 (chE_ok a sc X W _ g h6).pe (pa_cons (chE_ok b sc X W _ g h7).pe (pa_cons (chE_ok d sc X W _ g h8).pe pa_nil (starB_se (not1 h5))) (starB_se (not1 h4))) (notsuper (not1 h3)) (few_of hst (by show 2 < 20; decide)) h2 (starB_se (not1 h4)) (by rw [starB_se (not1 h5)]; rfl)) fun σ H Q z => read_swi z)
    · cases h
  | .jn a b, sc, X, W, e, g, h => by
    unfold chE at h
    split at h
    · rename_i l x ap r pos
      obtain ⟨h, h6⟩ := and2 h
      obtain ⟨h, h5⟩ := and2 h
      obtain ⟨h, h4⟩ := and2 h
      obtain ⟨h, h3⟩ := and2 h
      obtain ⟨h1, h2⟩ := and2 h
      have hx := of_decide_eq_true h1
      subst hx
      exact EOk.plain rfl rfl (PE.imp (pe_join (chE_ok a sc X W _ g h5).pe (chE_ok b sc X W _ g h6).pe (starB_se (not1 h4)) (notsuper (not1 h3)) h2) fun σ H Q z => read_jn z)
    · cases h
  | .fnv f, sc, X, W, e, g, h => by
    unfold chE at h
    split at h
    · rename_i x pos
      obtain ⟨h, h3⟩ := and2 h
      obtain ⟨h1, h2⟩ := and2 h
      cases hk : P.fA f with
      | none =>
        refine EOk.plain rfl rfl ⟨fun pins s σ H Q I q => ?_⟩
        obtain ⟨μ, S, ρ, c, er, q⟩ := q
        obtain ⟨z, hz, _⟩ := Pst.lft c (Pst.bnd q)
        have hz : P.fA f = some z := hz
        rw [hk] at hz
        cases hz
      | some a =>
        obtain ⟨x', fd, ps, hc, hm, _⟩ := g.fas f a hk
        have hc2 := of_decide_eq_true h1
        rw [hc2] at hc
        cases hc
        exact EOk.plain rfl rfl (PE.imp (pe_glob (u := .ref a) (v := .ref a) (glB_of g.sc h2) hm rfl (nmOk_of h3).1) fun σ H Q z => read_fnv (C := ctl P k) hk z)
    · cases h
  | .cll i es, sc, X, W, e, g, h => by
    unfold chE at h
    split at h
    · rename_i x p y l pos
      obtain ⟨h, h4⟩ := and2 h
      obtain ⟨h, h3⟩ := and2 h
      obtain ⟨h1, h2⟩ := and2 h
      have st := chs_star h4
      rw [List.all_cons, Bool.and_eq_true, Bool.not_eq_true'] at st
      have hv := visB_or h2
      rw [← g.sc] at hv
      exact EOk.plain rfl rfl (PE.imp (pe_cllG (i := i) (S := fun a sp => ∃ j, P.fA j = some a ∧ sp = spOf T X.K P k j) (fun f sp ⟨j, hj, e⟩ => by
        obtain ⟨x', fd, ps, _, _, q1, q2, q3⟩ := g.fas j f hj
        rw [e]
        exact ⟨fd, ps, q1, q2, q3⟩) g.gd g.room (by rw [g.hN]; exact of_decide_eq_true h1) hv g.tk (chs_ok es sc X W _ g h4) (nmOk_of h3).1 (nmOk_of h3).2 (starB_se st.1) (stars_none st.2)) fun σ H Q z => read_cll z)
    · cases h
  | .cld f es, sc, X, W, e, g, h => by
    unfold chE at h
    split at h
    · rename_i x p y l pos
      obtain ⟨h, h4⟩ := and2 h
      obtain ⟨h, h3⟩ := and2 h
      obtain ⟨h1, h2⟩ := and2 h
      have st := chs_star h4
      rw [List.all_cons, Bool.and_eq_true, Bool.not_eq_true'] at st
      cases hk : P.dfs.lookup f with
      | none =>
        refine EOk.plain rfl rfl ⟨fun pins s σ H Q I q => ?_⟩
        obtain ⟨μ, S, ρ, c, er, q⟩ := q
        obtain ⟨z, hz, _⟩ := Pst.lft c (Pst.bnd q)
        have hz : P.dfs.lookup f = some z := hz
        rw [hk] at hz
        cases hz
      | some ds =>
        obtain ⟨x', f', fd, ps, us, vs, hc, hm, hkp, hb, hv, hr, F⟩ := g.dfs f ds hk
        have hc2 := of_decide_eq_true h1
        rw [hc2] at hc
        cases hc
        exact EOk.plain rfl rfl (PE.imp (pe_callGD F g.gd g.room (glB_of g.sc h2) hm hkp hb hv g.tk (chs_ok es sc X W _ g h4) (nmOk_of h3).1 (starB_se st.1) (stars_none st.2)) fun σ H Q z => read_cld hk hr z)
    · cases h
  | .lss fl es, sc, X, W, e, g, h => by
    unfold chE at h
    split at h
    · exact EOk.plain rfl rfl (PE.imp (pe_lst (chsS_ok es fl sc X W _ g h)) fun σ H Q z => read_lss z)
    · cases h
  | .fld a x, sc, X, W, e, g, h => by
    unfold chE at h
    split at h
    · obtain ⟨h, h3⟩ := and2 h
      obtain ⟨h1, h2⟩ := and2 h
      have hy := of_decide_eq_true h1
      subst hy
      exact EOk.plain rfl rfl (PE.imp (pe_fld (chE_ok a sc X W _ g h3).pe (notsuper (not1 h2))) fun σ H Q z => read_fld g.cls z)
    · cases h
  | .mk q x es, sc, X, W, e, g, h => by
    unfold chE at h
    split at h
    · rename_i y p l pos
      obtain ⟨h, h4⟩ := and2 h
      obtain ⟨h, h3⟩ := and2 h
      obtain ⟨h1, h2⟩ := and2 h
      have hy := of_decide_eq_true h1
      have st := chs_star h4
      cases hk : P.cls.lookup q with
      | none =>
        refine EOk.plain rfl rfl ⟨fun pins s σ H Q I q => ?_⟩
        obtain ⟨μ, S, ρ, c, er, q⟩ := q
        obtain ⟨m, hm, q⟩ := Pst.lft c (Pst.bnd q)
        obtain ⟨z, hz, _⟩ := Pst.lft c (Pst.bnd q)
        have hz : P.cls.lookup _ = some z := hz
        rw [hk] at hz
        cases hz
      | some ce =>
        have G := g.cls q ce hk
        rcases Nat.eq_zero_or_pos k with k0 | k1
        · refine EOk.plain rfl rfl ⟨fun pins s σ H Q I q => ?_⟩
          obtain ⟨μ, S, ρ, c, er, q⟩ := q
          obtain ⟨m, hm, q⟩ := Pst.lft c (Pst.bnd q)
          have e0 : (ctl P k).mkc = none := by rw [k0]; rfl
          rw [e0] at hm
          cases hm
        · obtain ⟨j, hj⟩ : ∃ j, k = j + 1 := ⟨k - 1, by omega⟩
          obtain ⟨f, fd, ps, M, hb, F⟩ := G.mak
          have F := F j hj
          have room : Room (j + 1) X.A := by rw [← hj]; exact g.room
          by_cases hn : ce.nm = x
          · have hm := G.mg
            rw [hn, ← hy] at hm
            cases l with
            | nil =>
              cases es with
              | nil => exact EOk.plain rfl rfl (PE.imp (pe_makeG0 M F g.gd room (glB_of g.sc h2) hm hb g.tk (nmOk_of h3).1) fun σ H Q z => by
                  obtain ⟨_, z⟩ := read_mk g.cls hk hj z
                  obtain ⟨μ, S, ρ, c, er, z⟩ := z
                  exact Pst.now c z [] .nil)
              | cons _ _ => cases h4
            | cons e1 l1 =>
              rw [List.all_cons, Bool.and_eq_true, Bool.not_eq_true'] at st
              exact EOk.plain rfl rfl (PE.imp (pe_makeG M F g.gd room (glB_of g.sc h2) hm hb g.tk (chs_ok es sc X W _ g h4) (nmOk_of h3).1 (starB_se st.1) (stars_none st.2)) fun σ H Q z => (read_mk g.cls hk hj z).2)
          · exact EOk.plain rfl rfl ⟨fun pins s σ H Q I z => absurd (read_mk g.cls hk hj z).1 hn⟩
    · cases h
  | .cm a x es, sc, X, W, e, g, h => by
    unfold chE at h
    split at h
    · rename_i l y ap r pos
      obtain ⟨h, h6⟩ := and2 h
      obtain ⟨h, h5⟩ := and2 h
      obtain ⟨h, h4⟩ := and2 h
      obtain ⟨h, h3⟩ := and2 h
      obtain ⟨h1, h2⟩ := and2 h
      have hy := of_decide_eq_true h1
      subst hy
      have sta := chs_star h5
      exact EOk.plain rfl rfl (PE.imp (pe_cmG g.gd g.room g.tk (chE_ok a sc X W _ g h4).pe (chs_ok es sc X W _ g h5) (fun hn σ H Q z => by
          subst hn
          cases es with
          | nil =>
            obtain ⟨μ, S, ρ, c, er, z⟩ := z
            exact Pst.now c z [] .nil
          | cons _ _ => cases h5) (notsuper (not1 h3)) h2 sta (of_decide_eq_true h6) (fun e1 r1 he => by
          subst he
          rw [List.all_cons, Bool.and_eq_true, Bool.not_eq_true'] at sta
          exact starB_se sta.1) (fun e1 r1 he => by
          subst he
          rw [List.all_cons, Bool.and_eq_true, Bool.not_eq_true'] at sta
          exact stars_none sta.2) (few_of sta (of_decide_eq_true h6))) fun σ H Q z => read_cm g.cls z)
    · cases h
  | .dc own tg src ifs ek ev, sc, X, W, e, g, h => by
    unfold chE at h
    split at h
    · obtain ⟨h, h7⟩ := and2 h
      obtain ⟨h, h6⟩ := and2 h
      obtain ⟨h, h5⟩ := and2 h
      obtain ⟨h, h4⟩ := and2 h
      obtain ⟨h, h3⟩ := and2 h
      obtain ⟨h1, h2⟩ := and2 h
      obtain ⟨ho, hb⟩ := and2 h1
      have ho := of_decide_eq_true ho
      have bo := blkOk_by hb
      rw [← g.hN, ← g.sc] at bo
      have pe := fun pos => pe_dc (pos := pos) (g := tG X.K tg) (tt := tI X.K T WF (ctl P k) ifs) (tk := tE X.K T WF (ctl P k) ek) (tv := tE X.K T WF (ctl P k) ev) g.calm g.nd (chSrc_ok src sc X W _ _ g h2) bo (fun s H C cl fp => chG_ok (X := X.blk s H _ (compEnvC _ cl C X.env) fp) g.hN g.nd g.calm (stOk_block s H C cl fp) tg _ h4)
        (fun s H C cl fp => chI_ok ifs _ (X.blk s H _ (compEnvC _ cl C X.env) fp) WF _ (g.block s H C cl fp) h5) (fun s H C cl fp => (chE_ok ek _ (X.blk s H _ (compEnvC _ cl C X.env) fp) WF _ (g.block s H C cl fp) h6).pe)
        (fun s H C cl fp => (chE_ok ev _ (X.blk s H _ (compEnvC _ cl C X.env) fp) WF _ (g.block s H C cl fp) h7).pe) (fsi (src_nset h2))
      simp only [ho] at pe
      exact EOk.plain rfl rfl (PE.imp (pe _) fun σ H Q z => read_dc (all_mem h3) z)
    · cases h
  | .dcn own tg src ifs ek ev, sc, X, W, e, g, h => by
    unfold chE at h
    split at h
    · obtain ⟨h, h7⟩ := and2 h
      obtain ⟨h, h6⟩ := and2 h
      obtain ⟨h, h5⟩ := and2 h
      obtain ⟨h, h4⟩ := and2 h
      obtain ⟨h, h3⟩ := and2 h
      obtain ⟨h1, h2⟩ := and2 h
      obtain ⟨ho, hb⟩ := and2 h1
      have ho := of_decide_eq_true ho
      have bo := blkOk_by hb
      rw [← g.hN, ← g.sc] at bo
      have pe := fun pos => pe_dn (pos := pos) (g := tG X.K tg) (tt := tI X.K T WF (ctl P k) ifs) (tk := tE X.K T WF (ctl P k) ek) (tv := tE X.K T WF (ctl P k) ev) (by have := g.u65; omega) g.calm g.nd (chSrc_ok src sc X W _ _ g h2) bo (fun s H C cl fp => chG_ok (X := X.blk s H _ (compEnvC _ cl C X.env) fp) g.hN g.nd g.calm (stOk_block s H C cl fp) tg _ h4)
        (fun s H C cl fp => chI_ok ifs _ (X.blk s H _ (compEnvC _ cl C X.env) fp) WF _ (g.block s H C cl fp) h5) (fun s H C cl fp => (chE_ok ek _ (X.blk s H _ (compEnvC _ cl C X.env) fp) WF _ (g.block s H C cl fp) h6).pe)
        (fun s H C cl fp => (chE_ok ev _ (X.blk s H _ (compEnvC _ cl C X.env) fp) WF _ (g.block s H C cl fp) h7).pe) (fsi (src_nset h2))
      simp only [ho] at pe
      exact EOk.plain rfl rfl (PE.imp (pe _) fun σ H Q z => read_dcn (all_mem h3) z)
    · cases h
  | .nget a k' x, sc, X, W, e, g, h => by
    unfold chE at h
    split at h
    · rename_i l y ap r r2 pos
      obtain ⟨h, h8⟩ := and2 h
      obtain ⟨h, h7⟩ := and2 h
      obtain ⟨h, h6⟩ := and2 h
      obtain ⟨h, h5⟩ := and2 h
      obtain ⟨h, h4⟩ := and2 h
      obtain ⟨h, h3⟩ := and2 h
      obtain ⟨h1, h2⟩ := and2 h
      have hy := of_decide_eq_true h1
      subst hy
      have hst : [r, r2].all (fun e => !starB e) = true := by rw [List.all_cons, List.all_cons, h4, h5]; rfl
      exact EOk.plain rfl rfl (PE.imp (pe_nm PySem.F.slot_dict_get PySem.F.type_dict_get (mt_getN (by have := g.u65; omega)) (chE_ok a sc X W _ g h6).pe (pa_cons (chE_ok k' sc X W _ g h7).pe (pa_cons (chE_ok x sc X W _ g h8).pe pa_nil (starB_se (not1 h5))) (starB_se (not1 h4))) (notsuper (not1 h3)) (few_of hst (by show 2 < 20; decide)) h2 (starB_se (not1 h4)) (by rw [starB_se (not1 h5)]; rfl)) fun σ H Q z => read_nget z)
    · cases h
  | .srn a, sc, X, W, e, g, h => by
    unfold chE at h
    split at h
    · obtain ⟨h, h6⟩ := and2 h
      obtain ⟨h, h5⟩ := and2 h
      obtain ⟨h, h4⟩ := and2 h
      obtain ⟨h, h3⟩ := and2 h
      obtain ⟨h1, h2⟩ := and2 h
      have hx := of_decide_eq_true h1
      have hy := of_decide_eq_true h3
      subst hx hy
      have hm : X.mg "sorted" = none := g.blt _ (by decide +kernel)
      exact EOk.plain rfl rfl (PE.imp (pe_callB (cr_sortedN g.calm (by have := g.u65; omega)) (glB_of g.sc h2) hm boot_sorted (pa_cons (pe_nm0 PySem.F.slot_dict_items PySem.F.type_dict_items mt_itemsN (chE_ok a sc X W _ g h6).pe (notsuper (not1 h5)) h4) pa_nil rfl) (by decide) (by decide) rfl rfl) fun σ H Q z => read_srn rfl z)
    · cases h
  | .isp a i j, sc, X, W, e, g, h => by
    unfold chE at h
    split at h
    · obtain ⟨h, h10⟩ := and2 h
      obtain ⟨h, h9⟩ := and2 h
      obtain ⟨h, h8⟩ := and2 h
      obtain ⟨h, h7⟩ := and2 h
      obtain ⟨h, h6⟩ := and2 h
      obtain ⟨h, h5⟩ := and2 h
      obtain ⟨h, h4⟩ := and2 h
      obtain ⟨h, h3⟩ := and2 h
      obtain ⟨h1, h2⟩ := and2 h
      have hx := of_decide_eq_true h1
      have hy := of_decide_eq_true h3
      have hz := of_decide_eq_true h5
      have tb := ty_boot i (of_decide_eq_true h7)
      have tc := ty_boot j (of_decide_eq_true h8)
      subst hx hy hz
      have hm : X.mg "isinstance" = none := g.blt _ (by decide +kernel)
      have pt : ∀ pos, PE X (.Name (tyStr i) pos) (tC (.ty (tyNm i))) := fun pos => pe_bltn (glB_of g.sc h4) (g.blt _ tb.2.1) tb.1 rfl tb.2.2.1 tb.2.2.2
      have pu : ∀ pos, PE X (.Name (tyStr j) pos) (tC (.ty (tyNm j))) := fun pos => pe_bltn (glB_of g.sc h6) (g.blt _ tc.2.1) tc.1 rfl tc.2.2.1 tc.2.2.2
      exact EOk.plain rfl rfl (PE.imp (pe_callB call_isiP (glB_of g.sc h2) hm boot_isinstance (pa_cons (chE_ok a sc X W _ g h10).pe (pa_cons (pe_tup (pa_cons (pt _) (pa_cons (pu _) pa_nil rfl) rfl)) pa_nil rfl) (starB_se (not1 h9))) (by decide) (by decide) (starB_se (not1 h9)) rfl) fun σ H Q z => read_isp rfl z)
    · cases h
  | .cnt a b, sc, X, W, e, g, h => by
    unfold chE at h
    split at h
    · rename_i l x ap r pos
      obtain ⟨h, h6⟩ := and2 h
      obtain ⟨h, h5⟩ := and2 h
      obtain ⟨h, h4⟩ := and2 h
      obtain ⟨h, h3⟩ := and2 h
      obtain ⟨h1, h2⟩ := and2 h
      have hx := of_decide_eq_true h1
      subst hx
      have hst : [r].all (fun e => !starB e) = true := by rw [List.all_cons, h4]; rfl
      exact EOk.plain rfl rfl (PE.imp (pe_bm PySem.F.plainAttrs_list PySem.F.slot_list_count PySem.F.type_list_count (mt_countN (by have := g.u65; omega)) (chE_ok a sc X W _ g h5).pe (pa_cons (chE_ok b sc X W _ g h6).pe pa_nil (starB_se (not1 h4))) (notsuper (not1 h3)) (few_of hst (by show 1 < 20; decide)) h2 (starB_se (not1 h4)) (by rfl)) fun σ H Q z => read_count rfl z)
    · cases h
  | .dnp a, sc, X, W, e, g, h => by
    unfold chE at h
    split at h
    · obtain ⟨h, h4⟩ := and2 h
      obtain ⟨h, h3⟩ := and2 h
      obtain ⟨h1, h2⟩ := and2 h
      have hx := of_decide_eq_true h1
      subst hx
      have hm : X.mg "dict" = none := g.blt _ (by decide +kernel)
      exact EOk.plain rfl rfl (PE.imp (pe_callTy (cr_dictN g.calm (by have := g.u65; omega)) (glB_of g.sc h2) hm (bif_boot .dict) (pa_cons (chE_ok a sc X W _ g h4).pe pa_nil (starB_se (not1 h3))) (by decide) (by decide) (starB_se (not1 h3)) rfl) fun σ H Q z => read_dnp z)
    · cases h
  | .sm a, sc, X, W, e, g, h => by
    unfold chE at h
    split at h
    · obtain ⟨h, h4⟩ := and2 h
      obtain ⟨h, h3⟩ := and2 h
      obtain ⟨h1, h2⟩ := and2 h
      have hx := of_decide_eq_true h1
      subst hx
      have hm : X.mg "sum" = none := g.blt _ (by decide +kernel)
      exact EOk.plain rfl rfl (PE.imp (pe_callB (cr_sum g.calm) (glB_of g.sc h2) hm (by decide +kernel) (pa_cons (chE_ok a sc X W _ g h4).pe pa_nil (starB_se (not1 h3))) (by decide) (by decide) (starB_se (not1 h3)) rfl) fun σ H Q z => read_sm z)
    · cases h
  | .lenset own tg src elt, sc, X, W, e, g, h => by
    unfold chE at h
    split at h
    · obtain ⟨h, h6⟩ := and2 h
      obtain ⟨h, h5⟩ := and2 h
      obtain ⟨h, h4⟩ := and2 h
      obtain ⟨h, h3⟩ := and2 h
      obtain ⟨h, h2⟩ := and2 h
      obtain ⟨h0, h1⟩ := and2 h
      obtain ⟨ho, hb⟩ := and2 h2
      have ho := of_decide_eq_true ho
      have hx := of_decide_eq_true h0
      subst hx
      have bo := blkOk_by hb
      rw [← g.hN, ← g.sc] at bo
      have hm : X.mg "len" = none := g.blt _ (by decide +kernel)
      have pe := fun pos => pe_sk (pos := pos) (g := tG X.K tg) (tt := tYes) (te := tE X.K T WF (ctl P k) elt) g.calm g.nd (chSrc_ok src sc X W _ _ g h3) bo (fun s H C cl fp => chG_ok (X := X.blk s H _ (compEnvC _ cl C X.env) fp) g.hN g.nd g.calm (stOk_block s H C cl fp) tg _ h5)
        (fun s H C cl fp => pts_nil)
        (fun s H C cl fp => (chE_ok elt _ (X.blk s H _ (compEnvC _ cl C X.env) fp) WF _ (g.block s H C cl fp) h6).pe) (fsi (src_nset h3))
      simp only [ho] at pe
      exact EOk.plain rfl rfl (PE.imp (pe_callB cr_lk (glB_of g.sc h1) hm PySem.boot_len (pa_cons (pe _) pa_nil rfl) (by decide) (by decide) rfl rfl) fun σ H Q z => read_lenset (all_mem h4) z)
    · cases h
  | .lkE i a, sc, X, W, e, g, h => by
    unfold chE at h
    obtain ⟨h, h3⟩ := and2 h
    obtain ⟨h1, h2⟩ := and2 (and2 h).1
    exact EOk.plain (not1 h1) (not1 h2) (PE.imp (pe_lock (chE_ok a sc X W e g h3).pe) fun σ H Q z => read_lkE z)
  | .srtc own tg src ifs elt, sc, X, W, e, g, h => by
    unfold chE at h
    split at h
    · obtain ⟨h, h7⟩ := and2 h
      obtain ⟨h, h6⟩ := and2 h
      obtain ⟨h, h5⟩ := and2 h
      obtain ⟨h, h4⟩ := and2 h
      obtain ⟨h, h3⟩ := and2 h
      obtain ⟨h, h2⟩ := and2 h
      obtain ⟨h0, h1⟩ := and2 h
      obtain ⟨ho, hb⟩ := and2 h2
      have ho := of_decide_eq_true ho
      have hx := of_decide_eq_true h0
      subst hx
      have bo := blkOk_by hb
      rw [← g.hN, ← g.sc] at bo
      have m1 : X.mg "sorted" = none := g.blt _ (by decide +kernel)
      have b1 : bootBuiltins "sorted" = some (.builtin "sorted") := by decide +kernel
      have pe := fun pos => pe_sk (pos := pos) (g := tG X.K tg) (tt := tI X.K T WF (ctl P k) ifs) (te := tE X.K T WF (ctl P k) elt) g.calm g.nd (chSrc_ok src sc X W _ _ g h3) bo (fun s H C cl fp => chG_ok (X := X.blk s H _ (compEnvC _ cl C X.env) fp) g.hN g.nd g.calm (stOk_block s H C cl fp) tg _ h5)
        (fun s H C cl fp => chI_ok ifs _ (X.blk s H _ (compEnvC _ cl C X.env) fp) WF _ (g.block s H C cl fp) h6)
        (fun s H C cl fp => (chE_ok elt _ (X.blk s H _ (compEnvC _ cl C X.env) fp) WF _ (g.block s H C cl fp) h7).pe) (fsi (src_nset h3))
      simp only [ho] at pe
      exact EOk.plain rfl rfl (PE.imp (pe_callB (cr_sortG g.calm) (glB_of g.sc h1) m1 b1 (pa_cons (pe _) pa_nil rfl) (by decide) (by decide) rfl rfl) fun σ H Q z => read_srtc (all_mem h4) z)
    · cases h
theorem chs_ok : ∀ (es : Exps) (sc : Scope) (X : Cx) (W : WX) (l : List Expr), Good T P k c sc X W → chs c sc es l = true → PA X l (tA X.K T W (ctl P k) es)
  | .nil, sc, X, W, l, g, h => by
    cases l with
    | nil => exact PA.imp pa_nil fun σ H Q z => read_nil z
    | cons _ _ => cases h
  | .cons a r, sc, X, W, l, g, h => by
    cases l with
    | nil => cases h
    | cons e l =>
      unfold chs at h
      obtain ⟨h, h3⟩ := and2 h
      obtain ⟨h1, h2⟩ := and2 h
      exact PA.imp (pa_cons (chE_ok a sc X W _ g h2).pe (chs_ok r sc X W _ g h3) (starB_se (not1 h1))) fun σ H Q z => read_cons z
theorem chsS_ok : ∀ (es : Exps) (fl : List Bool) (sc : Scope) (X : Cx) (W : WX) (l : List Expr), Good T P k c sc X W → chsS c sc es fl l = true → PA X l (tAS X.K T W (ctl P k) es fl)
  | .nil, fl, sc, X, W, l, g, h => by
    cases l with
    | nil => exact PA.imp pa_nil fun σ H Q z => read_nilS z
    | cons _ _ => cases h
  | .cons a r, fl, sc, X, W, l, g, h => by
    cases l with
    | nil => cases h
    | cons e l =>
      unfold chsS at h
      obtain ⟨h, h3⟩ := and2 h
      split at h
      · obtain ⟨h1, h2⟩ := and2 h
        exact PA.imp (StX.pa_star (chE_ok a sc X W _ g h2).pe (chsS_ok r fl.tail sc X W _ g h3)) fun σ H Q z => read_starS h1 z
      · obtain ⟨h, h2⟩ := and2 h
        obtain ⟨h0, h1⟩ := and2 h
        exact PA.imp (pa_cons (chE_ok a sc X W _ g h2).pe (chsS_ok r fl.tail sc X W _ g h3) (starB_se (not1 h1))) fun σ H Q z => read_consS (not1 h0) z
theorem chD_ok : ∀ (es : Exps) (sc : Scope) (X : Cx) (W : WX) (ks : List (Option Expr)) (vs : List Expr) (pos : Pos), Good T P k c sc X W → chD c sc es ks vs = true → PPs X pos ks vs (tPs X.K T W (ctl P k) es) ∧ evenE es = true
  | .nil, sc, X, W, ks, vs, pos, g, h => by
    cases ks <;> cases vs <;> first | (cases h; done) | exact ⟨pps_nil, rfl⟩
  | .cons a .nil, sc, X, W, ks, vs, pos, g, h => by
    cases ks with
    | nil => cases h
    | cons ko ks =>
      cases ko with
      | none => cases h
      | some ke =>
        unfold chD at h
        have h := (and2 h).2
        cases h
  | .cons a (.cons b r), sc, X, W, ks, vs, pos, g, h => by
    cases ks with
    | nil => cases h
    | cons ko ks =>
      cases ko with
      | none => cases h
      | some ke =>
        unfold chD at h
        obtain ⟨h1, h2⟩ := and2 h
        cases vs with
        | nil => cases h2
        | cons v vs =>
          unfold chV at h2
          obtain ⟨h2, h3⟩ := and2 h2
          obtain ⟨i1, i2⟩ := chD_ok r sc X W ks vs pos g h3
          exact ⟨pps_cons (chE_ok a sc X W _ g h1).pe (chE_ok b sc X W _ g h2).pe i1, i2⟩
theorem chP_ok : ∀ (p : Part) (sc : Scope) (X : Cx) (W : WX) (e : Option Expr), Good T P k c sc X W → chP c sc p e = true → PO X e (tP X.K T W (ctl P k) p)
  | .no, sc, X, W, e, g, h => by
    cases e with
    | none => exact PO.imp po_none fun σ H Q z => read_poN z
    | some _ => cases h
  | .at_ a, sc, X, W, e, g, h => by
    cases e with
    | none => cases h
    | some e =>
      unfold chP at h
      exact PO.imp (po_some (chE_ok a sc X W _ g h).pe) fun σ H Q z => read_poS z
theorem chI_ok : ∀ (es : Exps) (sc : Scope) (X : Cx) (W : WX) (l : List Expr), Good T P k c sc X W → chI c sc es l = true → PTs X l (tI X.K T W (ctl P k) es)
  | .nil, sc, X, W, l, g, h => by
    cases l with
    | nil => exact ⟨fun pins s σ H Q I q => pts_nil.run pins s σ H Q I (read_if0 q)⟩
    | cons _ _ => cases h
  | .cons a .nil, sc, X, W, l, g, h => by
    cases l with
    | nil => cases h
    | cons e l =>
      cases l with
      | cons _ _ => cases h
      | nil =>
        unfold chI at h
        obtain ⟨h1, h2⟩ := and2 h
        have p := pts_one ((chE_ok a sc X W e g h2).pt (not1 h1))
        exact ⟨fun pins s σ H Q I q => p.run pins s σ H Q I (read_if1 q)⟩
  | .cons a (.cons _ _), sc, X, W, l, g, h => by
    cases l with
    | nil => cases h
    | cons x l => cases l <;> cases h
theorem chSrc_ok : ∀ (s : Src) (sc : Scope) (X : Cx) (W : WX) (t it : Expr), Good T P k c sc X W → chSrc c sc s t it = true → PI X t it (tSr X.K T W (ctl P k) s)
  | .seq a, sc, X, W, t, it, g, h => by
    unfold chSrc at h
    obtain ⟨h1, h2⟩ := and2 h
    exact pi_seq (chE_ok a sc X W _ g h2).pe
  | .rng1 a, sc, X, W, t, it, g, h => by
    unfold chSrc at h
    split at h
    · obtain ⟨h, h4⟩ := and2 h
      obtain ⟨h, h3⟩ := and2 h
      obtain ⟨h1, h2⟩ := and2 h
      have hx := of_decide_eq_true h1
      subst hx
      exact PI.imp (pi_range1 (glB_of g.sc h2) (g.blt _ (by decide +kernel)) (pa_cons (chE_ok a sc X W _ g h4).pe pa_nil (starB_se (not1 h3))) (starB_se (not1 h3))) fun σ H Q z => read_rng1 z
    · cases h
  | .rng2 a b, sc, X, W, t, it, g, h => by
    unfold chSrc at h
    split at h
    · obtain ⟨h, h6⟩ := and2 h
      obtain ⟨h, h5⟩ := and2 h
      obtain ⟨h, h4⟩ := and2 h
      obtain ⟨h, h3⟩ := and2 h
      obtain ⟨h1, h2⟩ := and2 h
      have hx := of_decide_eq_true h1
      subst hx
      exact PI.imp (pi_range2 (glB_of g.sc h2) (g.blt _ (by decide +kernel)) (pa_cons (chE_ok a sc X W _ g h5).pe (pa_cons (chE_ok b sc X W _ g h6).pe pa_nil (starB_se (not1 h4))) (starB_se (not1 h3))) (by rw [starB_se (not1 h3), starB_se (not1 h4)]; rfl) (starB_se (not1 h4))) fun σ H Q z => read_rng2 z
    · cases h
  | .zip a b, sc, X, W, t, it, g, h => by
    unfold chSrc at h
    split at h
    · obtain ⟨h, h7⟩ := and2 h
      obtain ⟨h, h6⟩ := and2 h
      obtain ⟨h, h5⟩ := and2 h
      obtain ⟨h, h4⟩ := and2 h
      obtain ⟨h, h3⟩ := and2 h
      obtain ⟨h1, h2⟩ := and2 h
      have hx := of_decide_eq_true h1
      subst hx
      cases t with
      | Tuple els kk tpos =>
        exact PI.imp (VZ.pi_zipM (glB_of g.sc h2) (g.blt _ (by decide +kernel)) (pa_cons (chE_ok a sc X W _ g h6).pe (pa_cons (chE_ok b sc X W _ g h7).pe pa_nil (starB_se (not1 h5))) (starB_se (not1 h4))) (starB_se (not1 h4)) (by rw [starB_se (not1 h5)]; rfl)) fun σ H Q z => read_zip z
      | _ => cases h3
    · cases h
  | .revl a, sc, X, W, t, it, g, h => by
    unfold chSrc at h
    split at h
    · obtain ⟨h, h4⟩ := and2 h
      obtain ⟨h, h3⟩ := and2 h
      obtain ⟨h1, h2⟩ := and2 h
      have hx := of_decide_eq_true h1
      subst hx
      exact PI.imp (pi_reversed (glB_of g.sc h2) (g.blt _ (by decide +kernel)) (pa_cons (chE_ok a sc X W _ g h4).pe pa_nil (starB_se (not1 h3))) (starB_se (not1 h3))) fun σ H Q z => read_revl z
    · cases h
  | .itm d, sc, X, W, t, it, g, h => by
    unfold chSrc at h
    split at h
    · rename_i y yp x ap pos
      obtain ⟨h, h6⟩ := and2 h
      obtain ⟨h, h5⟩ := and2 h
      obtain ⟨h, h4⟩ := and2 h
      obtain ⟨h, h3⟩ := and2 h
      obtain ⟨h1, h2⟩ := and2 h
      have hx := of_decide_eq_true h1
      have hy := of_decide_eq_true h2
      subst hx hy
      cases t with
      | Tuple els kk tpos =>
        cases hk : P.kds.lookup d with
        | none =>
          refine ⟨fun pins s σ H R I q => ?_⟩
          obtain ⟨μ, S, ρ, c, er, q⟩ := q
          obtain ⟨z, hz, _⟩ := Pst.lft c (Pst.bnd q)
          have hz : P.kds.lookup d = some z := hz
          rw [hk] at hz
          cases hz
        | some kvs =>
          obtain ⟨a', ks, vs, ep, hm, mod, rel, D, rk⟩ := g.kds d kvs hk
          exact PI.imp (pi_itms (glB_of g.sc h3) hm (nmOk_of h4).1 mod rel (fun h => D X.prog h) h5 (notsuper rfl)) fun σ H Q z => read_itm (C := ctl P k) hk rk z
      | _ => cases h6
    · cases h
  | .ndi i, sc, X, W, t, it, g, h => by
    unfold chSrc at h
    split at h
    · rename_i y yp x ap pos
      obtain ⟨h, h6⟩ := and2 h
      obtain ⟨h, h5⟩ := and2 h
      obtain ⟨h, h4⟩ := and2 h
      obtain ⟨h, h3⟩ := and2 h
      obtain ⟨h1, h2⟩ := and2 h
      have hx := of_decide_eq_true h1
      subst hx
      have hv := visB_or h5
      rw [← g.sc] at hv
      have pv : PE X (.Name y yp) (tE X.K T W (ctl P k) (.var i)) := PE.imp (pe_var (i := i) (by rw [g.hN]; exact of_decide_eq_true h4) hv (nmOk_of h6).1 (nmOk_of h6).2) fun σ H Q z => read_var z
      cases t with
      | Tuple els kk tpos => exact PI.imp (pi_itemsN pv (notsuper rfl) h2) fun σ H Q z => read_ndi z
      | _ => cases h3
    · cases h
end
end
end VM
namespace VM
open PySem L2 PySem.Spec PyProof.Rows
def endsR (K : PySem.W.Frag) (D : Ends) : Flow → List Addr → Hp → Prop
  | .nx ρ, μ, H => ∀ σ, EnvR K μ H ρ σ → D.nx σ H
  | .rt d, μ, H => ∀ v, Rep K μ H d v → D.rt v H
  | .bk ρ, μ, H => ∀ σ, EnvR K μ H ρ σ → D.bk σ H
  | .ct ρ, μ, H => ∀ σ, EnvR K μ H ρ σ → D.ct σ H
section
variable (K : PySem.W.Frag) (T : Tab) (W : WX)
def tS (C : Ctl) (f : Nat) (s : Stm) : TS := fun D σ H => ∃ μ S ρ, Cor K μ S H ∧ EnvR K μ H ρ σ ∧ Pst K μ H (evS C f s ρ S) (fun fl _ μ' H' => endsR K D fl μ' H') (wx T W σ)
def tSs (C : Ctl) (f : Nat) (s : Stms) : TS := fun D σ H => ∃ μ S ρ, Cor K μ S H ∧ EnvR K μ H ρ σ ∧ Pst K μ H (evSs C f s ρ S) (fun fl _ μ' H' => endsR K D fl μ' H') (wx T W σ)
end
/-- the wish of an exception does not look at the locals -/
def WConst (W : WX) : Prop := ∀ v d σ σ' H, W v d σ H → W v d σ' H
section
variable {K : PySem.W.Frag} {T : Tab} {W : WX} {C : Ctl} {σ : L2.St} {H : Hp} {D : Ends} {f : Nat}
theorem wx_const (w : WConst W) {σ σ' : L2.St} {c : Nat} {H : Hp} (h : wx T W σ c H) : wx T W σ' c H := w _ _ _ _ _ h
theorem reads_nil (h : tSs K T W C f .nil D σ H) : tNext D σ H := by
  obtain ⟨μ, S, ρ, c, er, h⟩ := h
  exact Pst.now c h _ er
theorem reads_cons (w : WConst W) {s : Stm} {r : Stms} (h : tSs K T W C f (.cons s r) D σ H) : tSeq (tS K T W C f s) (tSs K T W C f r) D σ H := by
  obtain ⟨μ, S, ρ, c, er, h⟩ := h
  refine ⟨μ, S, ρ, c, er, Pst.then h fun fl S1 μ1 H1 c1 e1 h1 => ?_⟩
  cases fl with
  | nx ρ1 => exact fun σ1 er1 => ⟨μ1, S1, ρ1, c1, er1, h1.imp (fun _ _ _ _ _ _ z => z) fun _ _ z => wx_const w z⟩
  | rt d => exact Pst.now c1 h1
  | bk ρ1 => exact Pst.now c1 h1
  | ct ρ1 => exact Pst.now c1 h1
theorem read_expr {a : Exp} (h : tS K T W C f (.expr a) D σ H) : tDrop (tE K T W C a) D σ H := by
  obtain ⟨μ, S, ρ, c, er, h⟩ := h
  exact ⟨μ, S, ρ, c, er, Pst.then h fun d S1 μ1 H1 c1 e1 h1 v rv => Pst.now c1 h1 _ (er.ext e1)⟩
theorem read_asg {tg : Tg} {a : Exp} (h : tS K T W C f (.asg tg a) D σ H) : tAsg (tE K T W C a) (tG K tg) D σ H := by
  obtain ⟨μ, S, ρ, c, er, h⟩ := h
  refine ⟨μ, S, ρ, c, er, Pst.then h fun d S1 μ1 H1 c1 e1 h1 v rv => ?_⟩
  obtain ⟨ρ', hb, q⟩ := Pst.lft c1 (Pst.bnd' h1)
  exact ⟨μ1, ρ, d, ρ', er.ext e1, rv, hb, fun σ' er' _ _ => Pst.now c1 q _ er'⟩
theorem read_asgN {i : Nat} {a : Exp} (h : tS K T W C f (.asg (.name i) a) D σ H) : tAsg (tE K T W C a) (gName i) D σ H := by
  obtain ⟨μ, S, ρ, c, er, h⟩ := h
  refine ⟨μ, S, ρ, c, er, Pst.then h fun d S1 μ1 H1 c1 e1 h1 v rv => ?_⟩
  obtain ⟨ρ', hb, q⟩ := Pst.lft c1 (Pst.bnd' h1)
  cases hb
  exact Pst.now c1 q _ ((er.ext e1).set rv i)
theorem read_par {i j : Nat} {a b : Exp} (h : tS K T W C f (.par i j a b) D σ H) : tPar i j (tCons (tE K T W C a) (tCons (tE K T W C b) tNil)) D σ H := by
  obtain ⟨μ, S, ρ, c, er, h⟩ := h
  refine ⟨μ, S, ρ, c, er, Pst.then h fun x S1 μ1 H1 c1 e1 h1 xv rx => ⟨μ1, S1, ρ, c1, er.ext e1, Pst.then h1 fun y S2 μ2 H2 c2 e2 h2 yv ry => ?_⟩⟩
  exact ⟨xv, yv, rfl, Pst.now c2 h2 _ ((((er.ext e1).ext e2).set (rx.ext e2) i).set ry j)⟩
theorem read_par3 {i j l : Nat} {a b d : Exp} (h : tS K T W C f (.par3 i j l a b d) D σ H) : tPar3 i j l (tCons (tE K T W C a) (tCons (tE K T W C b) (tCons (tE K T W C d) tNil))) D σ H := by
  obtain ⟨μ, S, ρ, c, er, h⟩ := h
  refine ⟨μ, S, ρ, c, er, Pst.then h fun x S1 μ1 H1 c1 e1 h1 xv rx => ⟨μ1, S1, ρ, c1, er.ext e1, Pst.then h1 fun y S2 μ2 H2 c2 e2 h2 yv ry => ⟨μ2, S2, ρ, c2, (er.ext e1).ext e2, Pst.then h2 fun z S3 μ3 H3 c3 e3 h3 zv rz => ?_⟩⟩⟩
  exact ⟨xv, yv, zv, rfl, Pst.now c3 h3 _ ((((((er.ext e1).ext e2).ext e3).set ((rx.ext e2).ext e3) i).set (ry.ext e3) j).set rz l)⟩
theorem read_sub {o i v : Exp} (h : tS K T W C f (.sub o i v) D σ H) : tAsg (tE K T W C v) (gSub (tE K T W C o) (tE K T W C i) (rSetM K)) D σ H := by
  obtain ⟨μ, S, ρ, c, er, h⟩ := h
  refine ⟨μ, S, ρ, c, er, Pst.then h fun d S1 μ1 H1 c1 e1 h1 dv rd => ⟨μ1, S1, ρ, c1, er.ext e1, Pst.then h1 fun x S2 μ2 H2 c2 e2 h2 xv rx => ⟨μ2, S2, ρ, c2, (er.ext e1).ext e2, Pst.then h2 fun y S3 μ3 H3 c3 e3 h3 yv ry => ?_⟩⟩⟩
  refine ⟨μ3, S3, x, y, d, c3, rx.ext e3, ry, (rd.ext e2).ext e3, Pst.nox (nox_opSet x y d) (Pst.then h3 fun _ S4 μ4 H4 c4 e4 h4 => ?_)⟩
  exact Pst.now c4 h4 _ ((((er.ext e1).ext e2).ext e3).ext e4)
theorem read_setf {X : Cx} {P : Prg} {k : Nat} (G : ∀ q ce, P.cls.lookup q = some ce → ClsG T P k X q ce) {o v : Exp} {x : List Nat} (h : tS X.K T W (ctl P k) f (.setf o x v) D σ H) : sFld X.K (tE X.K T W (ctl P k) o) (tE X.K T W (ctl P k) v) (st x) D σ H := by
  obtain ⟨μ, S, ρ, c, er, h⟩ := h
  refine ⟨μ, S, ρ, c, er, Pst.then h fun y S1 μ1 H1 c1 e1 h1 yv ry => ⟨μ1, S1, ρ, c1, er.ext e1, Pst.then h1 fun d S2 μ2 H2 c2 e2 h2 xv rx => ?_⟩⟩
  cases rx with
  | @ref n a hn =>
    have h2 : Pst X.K μ2 H2 (bnd (bnd (rd n) fun ob => match ob with
      | .ins q c fs => if c = P.iA q then bnd (lft (P.cls.lookup q)) fun ce => if ce.fl.contains x = true ∧ fs.length < 1000 then put n (.ins q c (fput x y fs)) else bad else bad
      | _ => bad) (fun _ => ret (VM.Flow.nx ρ)) S2) _ _ := h2
    rw [bnd_as] at h2
    obtain ⟨ob, ho, _, h2⟩ := pst_rd c2 hn h2
    cases ob with
    | ins q cc fs =>
      obtain ⟨dx, ks, q1, q2⟩ := ho
      have h2 : Pst X.K μ2 H2 (bnd (if cc = P.iA q then bnd (lft (P.cls.lookup q)) fun ce => if ce.fl.contains x = true ∧ fs.length < 1000 then put n (.ins q cc (fput x y fs)) else bad else bad) (fun _ => ret (VM.Flow.nx ρ)) S2) _ _ := h2
      by_cases e : cc = P.iA q
      · rw [if_pos e, bnd_as] at h2
        obtain ⟨ce, hce, h2⟩ := Pst.lft c2 (Pst.bnd h2)
        have g := G q ce hce
        by_cases hb : ce.fl.contains x = true ∧ fs.length < 1000
        · rw [if_pos hb] at h2
          have eT : cc = T.iA q := e.trans g.iA
          subst eT
          obtain ⟨e3, c3, h3⟩ := pst_put (u := .ins (T.iA q) dx (putF (st x) yv ks)) c2 hn h2 (fun ob u z => by rw [q1] at z; cases z) fun H' e z => ⟨dx, _, z, frep_put (q2.ext e) x ((ry.ext e2).ext e)⟩
          exact ⟨a, _, dx, ks, rfl, q1, g.c, g.fl x hb.1, by rw [← frep_len q2]; exact hb.2, Pst.now c3 h3 _ (((er.ext e1).ext e2).ext e3)⟩
        · rw [if_neg hb] at h2
          exact h2.elim
      · rw [if_neg e] at h2
        exact h2.elim
    | _ => exact h2.elim
  | _ => exact h2.elim
theorem read_ret {a : Exp} (h : tS K T W C f (.ret a) D σ H) : tRet (tE K T W C a) D σ H := by
  obtain ⟨μ, S, ρ, c, er, h⟩ := h
  exact ⟨μ, S, ρ, c, er, Pst.then h fun d S1 μ1 H1 c1 e1 h1 v rv => Pst.now c1 h1 v rv⟩
theorem read_retN (h : tS K T W C f .retN D σ H) : tRetN D σ H := by
  obtain ⟨μ, S, ρ, c, er, h⟩ := h
  exact Pst.now c h _ .non
theorem read_brk (h : tS K T W C f .brk D σ H) : tBreak D σ H := by
  obtain ⟨μ, S, ρ, c, er, h⟩ := h
  exact Pst.now c h _ er
theorem read_cnt (h : tS K T W C f .cnt D σ H) : tCont D σ H := by
  obtain ⟨μ, S, ρ, c, er, h⟩ := h
  exact Pst.now c h _ er
theorem read_pass (h : tS K T W C f .pass D σ H) : tNext D σ H := by
  obtain ⟨μ, S, ρ, c, er, h⟩ := h
  exact Pst.now c h _ er
theorem read_raise {n : Nat} (h : tS K T W C f (.raise n) D σ H) : W (.ref (T.cA n)) none σ H := by
  obtain ⟨μ, S, ρ, c, er, h⟩ := h
  exact h μ H c .refl
theorem evS_if {a : Exp} {b d : Stms} {ρ : VM.Env} : evS C f (.ife a b d) ρ = bnd (bnd (evE C a ρ) truth) fun k => if k then evSs C f b ρ else evSs C f d ρ := by
  show bnd (evE C a ρ) (fun x => bnd (truth x) fun k => if k then evSs C f b ρ else evSs C f d ρ) = _
  rw [bnd_assoc]
theorem read_ifS {a : Exp} {b d : Stms} (h : tS K T W C f (.ife a b d) D σ H) : tIfS (tT K T W C a) (tSs K T W C f b) (tSs K T W C f d) D σ H := by
  obtain ⟨μ, S, ρ, c, er, h⟩ := h
  rw [evS_if] at h
  refine ⟨μ, S, ρ, c, er, Pst.then h fun k S1 μ1 H1 c1 e1 h1 => ?_⟩
  cases k with
  | true => exact ⟨μ1, S1, ρ, c1, er.ext e1, h1⟩
  | false => exact ⟨μ1, S1, ρ, c1, er.ext e1, h1⟩
def rAug (K : PySem.W.Frag) (o : BOp) : TIp := fun x y H Q => ∃ μ S d e, Cor K μ S H ∧ Rep K μ H d x ∧ Rep K μ H e y ∧ Pst K μ H (augB o d e S) (fun z _ μ' H' => ∀ v, Rep K μ' H' z v → Q v H') W0
theorem nox_aug (o : BOp) (x y : VM.D) : NoX (augB o x y) := by
  unfold augB
  split <;> first | exact nox_ret _ | exact nox_bad
theorem aug_ok {X : Cx} (o : BOp) : PIp X (bopR o) (rAug X.K o) := by
  rintro pins s σ H x y v u Q I r1 r2 ⟨μ, S, d, e, c, rd, re, h⟩
  cases o with
  | add =>
    cases rd with
    | int i =>
      cases re with
      | int j => exact ip_add pins s σ H _ _ v u Q I r1 r2 ⟨i, j, rfl, rfl, Pst.now c h _ (.int _)⟩
      | _ => exact h.elim
    | _ => exact h.elim
  | sub =>
    cases rd with
    | int i =>
      cases re with
      | int j => exact ip_sub pins s σ H _ _ v u Q I r1 r2 ⟨i, j, rfl, rfl, Pst.now c h _ (.int _)⟩
      | _ => exact h.elim
    | _ => exact h.elim
  | _ => exact h.elim
theorem read_aug {i : Nat} {o : BOp} {a : Exp} (h : tS K T W C f (.aug i o a) D σ H) : tAug i (tE K T W C a) (rAug K o) D σ H := by
  obtain ⟨μ, S, ρ, c, er, h⟩ := h
  obtain ⟨x, hx, h1⟩ := Pst.lft c (Pst.bnd' h)
  obtain ⟨xv, hv, rx⟩ := er.var hx
  refine ⟨xv, hv, μ, S, ρ, c, er, Pst.then h1 fun y S1 μ1 H1 c1 e1 h2 yv ry => ?_⟩
  refine ⟨μ1, S1, x, y, c1, rx.ext e1, ry, Pst.nox (nox_aug o x y) (Pst.then h2 fun z S2 μ2 H2 c2 e2 h3 zv rz => ?_)⟩
  exact Pst.now c2 h3 _ (((er.ext e1).ext e2).set rz i)
/-- a walk's invariant -/
structure FW (K : PySem.W.Frag) (T : Tab) (W : WX) (D : Ends) (q : Seq) (step : VM.D → VM.Env → M Flow) (σ0 : L2.St) (μ1 : List Addr) (H1 : Hp) (i f : Nat) (σ : L2.St) (H : Hp) : Prop where
  ex : ∃ μ S ρ, Cor K μ S H ∧ Mon (K := K) μ1 H1 μ H ∧ EnvR K μ H ρ σ ∧ Pst K μ H (forI q step f i ρ S) (fun fl _ μ' H' => endsR K D fl μ' H') (wx T W σ0)
theorem for_core (w : WConst W) {tg : Tg} {b : Stms} {q : Seq} {J : It} {μ1 : List Addr} {H1 : Hp} (hJ : SeqIt K q J μ1 H1) {m0 : Nat} (h0 : FW K T W D q (fun d ρ' => bnd (lft (bind1 tg d ρ')) fun ρ2 => evSs C f b ρ2) σ μ1 H1 0 m0 σ H1) :
    ∃ Wk : Nat → Nat → L2.St → Hp → Prop, (∃ m, Wk 0 m σ H1) ∧ ∀ i m σ H, Wk i m σ H →
      (J.stop i H ∧ D.nx σ H) ∨ (J.go i H ∧ ∃ N : L2.St → Hp → Prop, (∀ σ' H', N σ' H' → ∃ m', m' < m ∧ Wk (i + 1) m' σ' H') ∧ ∀ x H', J.yld i H x H' → tG K tg x σ H' fun σ2 H2 => tSs K T W C f b { D with nx := N, ct := N, bk := D.nx } σ2 H2) := by
  refine ⟨fun i m σ' H' => FW K T W D q (fun d ρ' => bnd (lft (bind1 tg d ρ')) fun ρ2 => evSs C f b ρ2) σ μ1 H1 i m σ' H', ⟨m0, h0⟩, ?_⟩
  rintro i m σ' H' ⟨μ', S', ρ', c', mo, er', h'⟩
  cases m with
  | zero => exact h'.elim
  | succ m =>
    have h' : Pst K μ' H' (match q.item S' i with
      | none => Out.bad
      | some none => Out.ok (.nx ρ') S'
      | some (some d) => bnd (bnd (lft (bind1 tg d ρ')) fun ρ2 => evSs C f b ρ2) (fun fl => match fl with
        | .nx ρ' => forI q (fun d ρ' => bnd (lft (bind1 tg d ρ')) fun ρ2 => evSs C f b ρ2) m (i + 1) ρ'
        | .ct ρ' => forI q (fun d ρ' => bnd (lft (bind1 tg d ρ')) fun ρ2 => evSs C f b ρ2) m (i + 1) ρ'
        | .bk ρ' => ret (.nx ρ')
        | .rt d => ret (.rt d)) S') _ _ := h'
    cases hi : q.item S' i with
    | none => rw [hi] at h'; exact h'.elim
    | some o =>
      rw [hi] at h'
      cases o with
      | none => exact .inl ⟨(hJ μ' S' H' i c' mo).2 hi, h' μ' H' c' .refl _ er'⟩
      | some d =>
        obtain ⟨go, yl⟩ := (hJ μ' S' H' i c' mo).1 d hi
        refine .inr ⟨go, fun σ2 H2 => FW K T W D q (fun d ρ' => bnd (lft (bind1 tg d ρ')) fun ρ2 => evSs C f b ρ2) σ μ1 H1 (i + 1) m σ2 H2, fun σ2 H2 z => ⟨m, Nat.lt_succ_self _, z⟩, fun x H2 y => ?_⟩
        obtain ⟨e2, c2, rd⟩ := yl x H2 y
        have h2 := Pst.ext h' e2
        dsimp only at h2
        rw [bnd_assoc] at h2
        obtain ⟨ρ2, hb, h3⟩ := Pst.lft c2 (Pst.bnd' h2)
        refine ⟨μ', ρ', d, ρ2, er'.ext e2, rd, hb, fun σ2 er2 _ _ => ?_⟩
        refine ⟨μ', S', ρ2, c2, er2, (Pst.then h3 fun fl S3 μ3 H3 c3 e3 h4 => ?_).imp (fun _ _ _ _ _ _ z => z) fun _ _ z => wx_const w z⟩
        have mo3 : Mon (K := K) μ1 H1 μ3 H3 := (mo.trans e2.mon).trans e3.mon
        cases fl with
        | nx ρ3 => exact fun σ3 er3 => ⟨μ3, S3, ρ3, c3, mo3, er3, h4⟩
        | ct ρ3 => exact fun σ3 er3 => ⟨μ3, S3, ρ3, c3, mo3, er3, h4⟩
        | bk ρ3 => exact fun σ3 er3 => Pst.now c3 h4 _ er3
        | rt d' => exact fun v rv => Pst.now c3 h4 v rv
theorem read_for (w : WConst W) {tg : Tg} {src : Src} {b : Stms} (h : tS K T W C f (.loop tg src b) D σ H) : tFor (tSr K T W C src) (tG K tg) (tSs K T W C f b) D σ H := by
  obtain ⟨μ, S, ρ, c, er, h⟩ := h
  refine ⟨μ, S, ρ, c, er, Pst.then h fun q S1 μ1 H1 c1 e1 h1 J hJ => ?_⟩
  exact for_core w hJ (m0 := q.size S1 + 1) ⟨μ1, S1, ρ, c1, .refl, er.ext e1, h1⟩
/-- a walk over a dict's keys, the dict locked -/
theorem read_loopk (w : WConst W) {tg : Tg} {i : Nat} {b : Stms} (h : tS K T W C f (.loopk tg i b) D σ H) : tLock (tFor (iKeys (tE K T W C (.var i))) (tG K tg) (tSs K T W C f b)) D σ H := by
  obtain ⟨μ, S, ρ, c, er, h⟩ := h
  obtain ⟨x, hx, h⟩ := Pst.lft c (Pst.bnd' h)
  cases x with
  | ref n =>
    unfold lockK at h
    dsimp only at h
    cases hS : S[n]? with
    | none => rw [hS] at h; exact h.elim
    | some o =>
      rw [hS] at h
      cases o with
      | dk kvs =>
        obtain ⟨a, ha, ks, hd, r⟩ := c.at_ hS
        dsimp only at h
        refine ⟨a, .dK ks, hd, trivial, fun od => ?_⟩
        obtain ⟨e1, c1⟩ := c.write (u := .frz od (.dK ks)) (o := .fk kvs) ha (fun ob u z => by rw [hd] at z; cases z) fun H' e z => ⟨ks, od, z, r.ext e⟩
        have hm : a ∈ μ := List.mem_iff_getElem?.mpr ⟨n, ha⟩
        refine ⟨μ, S.set n (.fk kvs), ρ, c1, er.ext e1, ?_⟩
        have hv : evE C (.var i) ρ (S.set n (.fk kvs)) = .ok (.ref n) (S.set n (.fk kvs)) := by
          show lft (getV ρ i) _ = _
          rw [hx]
          rfl
        rw [hv]
        intro μ2 H2 c2 e2 v rv
        cases rv with
        | @ref _ a2 hn2 =>
          have := e2.at_ ha
          rw [hn2] at this
          cases this
          have hz := e2.exc _ _ _ (show upd H a (.frz od (.dK ks)) a = some (.frz od (.dK ks)) from upd_same)
          refine ⟨a, od, rfl, .inl ⟨ks, hz, for_core w (seqIt_keys hz ((r.ext e1).ext e2)) (m0 := kvs.length + 1) ⟨μ2, S.set n (.fk kvs), ρ, c2, .refl, (er.ext e1).ext e2, ?_⟩⟩⟩
          cases hf : forI (.fix (kvs.map fun kv => kD kv.1)) (fun d ρ' => bnd (lft (bind1 tg d ρ')) fun ρ2 => evSs C f b ρ2) (kvs.length + 1) 0 ρ (S.set n (.fk kvs)) with
          | exc _ _ => rw [hf] at h; exact h.elim
          | bad => rw [hf] at h; exact h.elim
          | ok fl S' =>
            rw [hf] at h
            dsimp only at h
            intro μ' H' c' e'
            cases hS' : S'[n]? with
            | none => rw [hS'] at h; exact h.elim
            | some o' =>
              rw [hS'] at h
              cases o' with
              | fk kvs' =>
                have hz' := e'.exc _ _ _ hz
                have ha' := e'.at_ hn2
                obtain ⟨ks', ob', hq, r'⟩ := c'.obj n _ a hS' ha'
                rw [hz'] at hq
                cases hq
                have c3 := c'.free ha' hz' r'
                have e3 : Ext K μ H μ' (upd H' a (.dK ks)) := ((e1.trans e2).trans e').free hm hd
                have h3 := h μ' _ c3 e3
                have env : ∀ {ρ' : VM.Env} {σ' : L2.St}, EnvR K μ' H' ρ' σ' → EnvR K μ' (upd H' a (.dK ks)) ρ' σ' := fun er => ⟨er.len, fun i d hi => by
                  obtain ⟨v, h1, h2⟩ := er.at_ i d hi
                  exact ⟨v, h1, h2.free hz'⟩⟩
                cases fl with
                | nx ρ' => exact fun σ' er' => ⟨hz', h3 σ' (env er')⟩
                | rt d => exact fun v rv => ⟨hz', h3 v (rv.free hz')⟩
                | bk ρ' => exact fun σ' er' => ⟨hz', h3 σ' (env er')⟩
                | ct ρ' => exact fun σ' er' => ⟨hz', h3 σ' (env er')⟩
              | _ => exact h.elim
      | _ => exact h.elim
  | _ => exact h.elim
structure WW (K : PySem.W.Frag) (T : Tab) (W : WX) (D : Ends) (cnd : VM.Env → M Bool) (step : VM.Env → M Flow) (σ0 : L2.St) (f : Nat) (σ : L2.St) (H : Hp) : Prop where
  ex : ∃ μ S ρ, Cor K μ S H ∧ EnvR K μ H ρ σ ∧ Pst K μ H (whileI cnd step f ρ S) (fun fl _ μ' H' => endsR K D fl μ' H') (wx T W σ0)
theorem read_while (w : WConst W) {a : Exp} {b : Stms} (h : tS K T W C f (.whil a b) D σ H) : tWhile (tT K T W C a) (tSs K T W C f b) D σ H := by
  obtain ⟨μ, S, ρ, c, er, h⟩ := h
  refine ⟨fun m σ' H' => WW K T W D (fun ρ' => bnd (evE C a ρ') truth) (fun ρ' => evSs C f b ρ') σ m σ' H', ⟨f, ⟨μ, S, ρ, c, er, h⟩⟩, ?_⟩
  rintro m σ' H' ⟨μ', S', ρ', c', er', h'⟩
  cases m with
  | zero => exact h'.elim
  | succ m =>
    have h' : Pst K μ' H' (bnd (bnd (evE C a ρ') truth) (fun k => if k then bnd (evSs C f b ρ') (fun fl => match fl with
      | .nx ρ' => whileI (fun ρ' => bnd (evE C a ρ') truth) (fun ρ' => evSs C f b ρ') m ρ'
      | .ct ρ' => whileI (fun ρ' => bnd (evE C a ρ') truth) (fun ρ' => evSs C f b ρ') m ρ'
      | .bk ρ' => ret (.nx ρ')
      | .rt d => ret (.rt d)) else ret (.nx ρ')) S') _ _ := h'
    refine ⟨μ', S', ρ', c', er', (Pst.then h' fun k S1 μ1 H1 c1 e1 h1 => ?_).imp (fun _ _ _ _ _ _ z => z) fun _ _ z => wx_const w z⟩
    cases k with
    | false => exact Pst.now c1 h1 _ (er'.ext e1)
    | true =>
      refine ⟨fun σ2 H2 => WW K T W D (fun ρ' => bnd (evE C a ρ') truth) (fun ρ' => evSs C f b ρ') σ m σ2 H2, fun σ2 H2 z => ⟨m, Nat.lt_succ_self _, z⟩, ?_⟩
      refine ⟨μ1, S1, ρ', c1, er'.ext e1, (Pst.then (m := evSs C f b ρ') h1 fun fl S3 μ3 H3 c3 e3 h4 => ?_).imp (fun _ _ _ _ _ _ z => z) fun _ _ z => wx_const w z⟩
      cases fl with
      | nx ρ3 => exact fun σ3 er3 => ⟨μ3, S3, ρ3, c3, er3, h4⟩
      | ct ρ3 => exact fun σ3 er3 => ⟨μ3, S3, ρ3, c3, er3, h4⟩
      | bk ρ3 => exact fun σ3 er3 => Pst.now c3 h4 _ er3
      | rt d' => exact fun v rv => Pst.now c3 h4 v rv
end
section
variable {K : PySem.W.Frag} {T : Tab} {W : WX} {C : Ctl} {σ : L2.St} {H : Hp} {D : Ends} {f : Nat}
theorem evSs_one {s : Stm} {ρ : VM.Env} : evSs C f (.cons s .nil) ρ = evS C f s ρ := by
  funext S
  show bnd (evS C f s ρ) (fun fl => match fl with | .nx ρ' => ret (.nx ρ') | _ => ret fl) S = _
  unfold bnd
  cases evS C f s ρ S with
  | ok fl S' => cases fl <;> rfl
  | exc c S' => rfl
  | bad => rfl
theorem reads_one {s : Stm} (h : tSs K T W C f (.cons s .nil) D σ H) : tS K T W C f s D σ H := by
  obtain ⟨μ, S, ρ, c, er, h⟩ := h
  rw [evSs_one] at h
  exact ⟨μ, S, ρ, c, er, h⟩
theorem reads_consE {a : Exp} {r : Stms} (h : tSs K T W C f (.cons (.expr a) r) D σ H) : tSeq (tDrop (tE K T W C a)) (tSs K T W C f r) D σ H := by
  obtain ⟨μ, S, ρ, c, er, h⟩ := h
  have e : evSs C f (.cons (.expr a) r) ρ = bnd (evE C a ρ) fun _ => evSs C f r ρ := by
    funext S
    show bnd (bnd (evE C a ρ) fun _ => ret (VM.Flow.nx ρ)) _ S = _
    rw [bnd_assoc]
    rfl
  rw [e] at h
  exact ⟨μ, S, ρ, c, er, Pst.then h fun d S1 μ1 H1 c1 e1 h1 v rv => ⟨μ1, S1, ρ, c1, er.ext e1, h1⟩⟩
end
section
variable {X : Cx} {pins : List (Addr × PySem.Obj)} {σ : L2.St} {H : Hp} {s : Shared}
/-- what was caught is known from now on -/
theorem caught {a : Addr} {oe : PySem.Obj} (I : Inv X pins σ H s) (ha : s.heap.get? a = some oe) (na : H a = none) (nL : a ≠ X.env.locals) (nc : ∀ v, oe.data ≠ .cell v) (np : ∀ p ∈ X.pn ++ pins, p.1 ≠ a)
    (nb : ∀ o, X.s_0.heap.get? a = some o → X.H_0 a = none → a ∈ X.ex) : Inv X pins σ (upd H a (.frz oe (.own 0))) s := by
  have ne : ∀ {b : Addr} {o : HO}, H b = some o → b ≠ a := fun {b o} e z => by
    rw [z, na] at e
    cases e
  refine ⟨I.ok, I.os, I.bare, ⟨I.base.keep, I.base.slot, fun b o e n hx => ?_, I.base.there, fun b xs e => ?_, fun b o u e => ?_, fun b ps e => ?_⟩, I.loc, I.cell, ?_, fun x c e => ?_, fun p hp => ?_, fun b o e => ?_, I.len⟩
  · have q := I.base.free b o e n hx
    by_cases z : b = a
    · subst z
      exact absurd (nb o e n) hx
    · rw [upd_ne z]
      exact q
  · have q := I.base.tups b xs e
    rw [upd_ne (ne q)]
    exact q
  · have q := I.base.frzs b o u e
    rw [upd_ne (ne q)]
    exact q
  · obtain ⟨more, q⟩ := I.base.tbls b ps e
    exact ⟨more, by rw [upd_ne (ne q)]; exact q⟩
  · rw [upd_ne (Ne.symm nL)]
    exact I.free
  · have q := I.freeC x c e
    obtain ⟨v, o, h1, h2⟩ := I.cell x c e
    rw [upd_ne fun z => ?_]
    · exact q
    · rw [z, ha] at h1
      cases h1
      exact nc v h2
  · obtain ⟨q1, q2, q3, q4, q5⟩ := I.pin p hp
    exact ⟨q1, by rw [upd_ne (np p hp)]; exact q2, q3, q4, q5⟩
  · by_cases z : b = a
    · subst z
      rw [upd_same] at e
      cases e
      exact ⟨ha, oe, ha⟩
    · rw [upd_ne z] at e
      refine (I.hok b o e).stay (fun c w _ q => q) (fun c q => ?_) fun c xs q => ?_
      · rw [upd_ne (ne q)]
        exact q
      · rw [upd_ne (ne q)]
        exact q
/-- in the suite, what was caught being known -/
theorem inSuite {a : Addr} (I : Inv X pins σ H s) : Inv (X.suite a (X.pn ++ pins)) [] σ H s :=
  ⟨I.ok.suite _ _, I.os, I.bare, I.base, I.loc, I.cell, I.free, I.freeC, fun p hp => I.pin p ((List.append_nil (X.pn ++ pins)) ▸ hp), I.hok, I.len⟩
theorem outSuite {a : Addr} {pn' : List (Addr × PySem.Obj)} (ok : X.Ok) (I : Inv (X.suite a (X.pn ++ pins)) pn' σ H s) : Inv X pins σ H s :=
  ⟨ok, I.os, I.bare, I.base, I.loc, I.cell, I.free, I.freeC, fun p hp => I.pin p (List.mem_append_left _ hp), I.hok, I.len⟩
end
section
variable {X : Cx} {x n y : PySem.Str} {c : Value} {i j : Nat} {body : List Stmt} {np yp mp ap pos pos' : Pos} {tb : WX → TS} {Wout : WX}
/-- what is wished of what the body raises: it is caught, named, and handed on to slot i -/
def wCatch (K : PySem.W.Frag) (c : Value) (i j : Nat) (Wout : WX) (D : Ends) : WX := fun cls d σ H => ∃ b, PySem.W.exmOne K cls c = some b ∧
  (b = true → ∀ a oe vs, H a = none → oe.cls = cls → oe.dict = d → oe.data = .fields vs → D.nx (((σ.set j (some (.ref a))).set i (some (.ref a))).set j none) (upd H a (.frz oe (.own 0)))) ∧ (b = false → Wout cls d σ H)
theorem ps_catch (hst : X.stack = X.env :: X.outer) (hfm : X.env.frame = some X.env.locals) (hex : X.ex = []) (hnd : X.N.Nodup) (hj : X.N[j]? = some n) (hi : X.N[i]? = some y) (hij : i ≠ j) (hln : X.env.kindOf n = some .local) (hly : X.env.kindOf y = some .local) (hnn : nmOk n = true) (hcx : Names X x c) (tko : Takes X Wout)
    (hbd : ∀ (W : WX) (pn : List (Addr × PySem.Obj)) (xe : Value → Shared → Prop), Takes (X.tr pn xe) W → PassesOwn (model X.prog X.w) X.A X.env xe → PSs (X.tr pn xe) body (tb W)) :
    PS X (.Try body [.ExceptHandler (some (.Name x np)) (some n) [.Assign [.Name y yp] (.Name n mp) ap] pos'] [] [] pos) (fun D σ H => tb (wCatch X.K c i j Wout D) D σ H) := by
  refine ⟨fun pins s σ H D I0 hh => ?_⟩
  have okX := I0.ok
  have frX : X.A.frames = some (X.env :: X.outer) := okX.frames.trans (by rw [hst])
  have hlocN : Loc X.env.scope n := .inl hln
  have hlocY : Loc X.env.scope y := .inl hly
  refine wpAny_Try_except ?_
  have key : ∀ (u : Value) (s' : Shared), XE (X.tr (X.pn ++ pins) fun e s₁ => wpAny (model X.prog X.w) X.A (noteFrame e X.env) (fun _ s₂ =>
      wpAny (model X.prog X.w) X.A (setFlight e none) (fun _ s₃ => wpAny (model X.prog X.w) X.A (handleBy e X.env [.ExceptHandler (some (.Name x np)) (some n) [.Assign [.Name y yp] (.Name n mp) ap] pos']) (SP X pins D) X.xe s₃) X.xe s₂) X.xe s₁) (wCatch X.K c i j Wout D) u s' →
      wpAny (model X.prog X.w) X.A (noteFrame u X.env) (fun _ s₂ => wpAny (model X.prog X.w) X.A (setFlight u none) (fun _ s₃ =>
        wpAny (model X.prog X.w) X.A (handleBy u X.env [.ExceptHandler (some (.Name x np)) (some n) [.Assign [.Name y yp] (.Name n mp) ap] pos']) (SP X pins D) X.xe s₃) X.xe s₂) X.xe s' := by
    rintro u s' ⟨a, B, sI, pins', σ', H', cls, d, hu, IT, nbT, upT, skyT, naT, osT, agT, b, hb1, hyes, hno⟩
    subst hu
    have J : Inv X pins σ' H' sI := IT.ofTry okX
    have skyX : Sky B (X.env :: X.outer) a (Zc cls d) X.env.locals s'.heap := hst ▸ skyT
    refine Sky.land Zc.steady frX hfm skyX fun h3 fl3 up3 => ?_
    have J3 : Inv X pins σ' H' { s' with heap := h3 } := J.landed nbT fl3.1 (upT.trans up3) osT agT
    have hBa : B.get? a = none := fl3.2.1
    obtain ⟨oe3, vs3, he3, hz3, hd3⟩ := fl3.there
    have notFrame : a ∉ frs (X.env :: X.outer) := fun hm => by
      obtain ⟨_, o', e', hnf⟩ := fl3.2.2.1.mem hm
      rw [he3] at e'
      cases e'
      exact hnf _ hd3
    have nLoc : a ≠ X.env.locals := fun z => notFrame (List.mem_filterMap.mpr ⟨X.env, List.mem_cons_self, by rw [hfm, z]⟩)
    have stF : frs X.stack = frs (X.env :: X.outer) := by rw [hst]
    have inB : ∀ {p : Addr} {o : PySem.Obj}, sI.heap.get? p = some o → p ∉ frs (X.env :: X.outer) → p ≠ a := fun {p o} e nf z => by
      have q := nbT p o e (by show p ∉ frs X.stack; rw [stF]; exact nf)
      rw [z, hBa] at q
      cases q
    have frsX : ∀ {p : Addr}, p ≠ X.env.locals → p ∉ X.fs → p ∉ frs (X.env :: X.outer) := fun {p} h1 h2 hm => by
      have := J.stkSub p (by rw [stF]; exact hm)
      rcases List.mem_cons.mp this with e | e
      · exact h1 e
      · exact h2 e
    have npins : ∀ p ∈ X.pn ++ pins, p.1 ≠ a := fun p hp => by
      obtain ⟨q1, _, q3, q4, _⟩ := J.pin p hp
      exact inB q1 (frsX q3 q4)
    have nbase : ∀ o, X.s_0.heap.get? a = some o → X.H_0 a = none → a ∈ X.ex := fun o e n => by
      obtain ⟨sl, q⟩ := J.base.any e n (by rw [hex]; exact List.not_mem_nil)
      exact absurd rfl (inB q notFrame)
    refine wpAny_handleBy_cons (codeAny_handlers_test ?_) (by intro q; cases q)
    have LT : PySem.W.Looks (model X.prog X.w) h3 (typeOf (.ref a)) cls := fun A Q E s k q => wpAny_typeOf_ref (k _ _ he3) (by rw [hz3.1]; exact q)
    have LM := PySem.W.exm_one (M := model X.prog X.w) (J3.kIn) LT hb1
    have inS : Inv (X.suite a (X.pn ++ pins)) [] σ' H' { s' with heap := h3 } := inSuite J3
    have asked : ∀ {Q : Value → Shared → Prop} {E : Value → Shared → Prop}, Q c { s' with heap := h3 } → wpAny (model X.prog X.w) (X.A.mark (some (.ref a))) (eval (.Name x np) X.env) Q E { s' with heap := h3 } := fun {Q E} q => by
      obtain ⟨hg, hdbg, hm | ⟨hm, hv, hnm⟩⟩ := hcx
      · exact ld_glob (X := X.suite a (X.pn ++ pins)) inS hg hm q hdbg
      · exact ld_blt (X := X.suite a (X.pn ++ pins)) inS hg hm hv q hnm hdbg
    refine asked (LM.here ?_)
    cases b with
    | true =>
      refine codeAny_handlers_suite_as ?_
      refine HandSPX.lands_againZ fl3 fun h4 fl4 up4 => ?_
      have J4 : Inv X pins σ' H' { s' with heap := h4 } := J.landed nbT fl4.1 ((upT.trans up3).trans up4) osT agT
      obtain ⟨oe, vs, he, hz, hd⟩ := fl4.there
      have C4 : Inv X pins σ' (upd H' a (.frz oe (.own 0))) { s' with heap := h4 } := caught J4 he naT nLoc (fun v z => by rw [hd] at z; cases z) npins nbase
      refine store_ok (X := X.suite a (X.pn ++ pins)) (v := .ref a) (inSuite C4) hnd hj hlocN rfl (fun s5 I5 => ?_) (.inr hln)
      have w := hyes rfl a oe vs naT hz.1 hz.2 hd
      have jlt : j < σ'.length := by rw [J.len]; exact (List.getElem?_eq_some_iff.mp hj).1
      have ps := ps_set (X := X.suite a (X.pn ++ pins)) (pos := ap) (pos' := yp) (i := i) hnd hi hlocY (pe_var (X := X.suite a (X.pn ++ pins)) (pos := mp) (i := j) hj (.inl hln) (nmOk_of hnn).1 (nmOk_of hnn).2) rfl (.inr hly)
      refine wpAny_mono ((pss_one ps).run [] s5 _ _ { nx := fun σ6 H6 => D.nx (σ6.set j none) H6, rt := fun _ _ => False, bk := fun _ _ => False, ct := fun _ _ => False } I5 ?_) (fun fl s6 hsp => ?_) (fun _ _ z => False.elim z)
      · exact ⟨.ref a, List.getElem?_set_self jlt, w⟩
      · cases fl with
        | next =>
          obtain ⟨σ6, H6, S6, q6⟩ := hsp
          exact gone_ok (outSuite okX S6) hnd hj hln fun s7 J7 => ⟨_, _, J7, q6⟩
        | brk =>
          obtain ⟨_, _, _, q6⟩ := hsp
          exact q6.elim
        | cont =>
          obtain ⟨_, _, _, q6⟩ := hsp
          exact q6.elim
        | ret u =>
          obtain ⟨_, _, _, _, _, q6⟩ := hsp
          exact q6.elim
    | false =>
      show wpAny _ X.A (handleBy (.ref a) X.env []) _ _ _
      refine wpAny_handleBy_nil ?_
      obtain ⟨k1, k2, k3, o1, v1, tb1, ob1, ts1, g1, gz, gd, gg, gr⟩ := id fl3
      unfold PySem.passOn
      refine wpAny_bind (wpAny_field g1 gd gg ?_)
      rw [if_neg (show ¬ ((Value.ref tb1 == Value.none) = true) from by simp)]
      have out : wpAny (model X.prog X.w) X.A (setFlight (.ref a) X.env.frame) (fun _ s4 => wpAny (model X.prog X.w) X.A (throw (.ref a) : Sem PySem.Flow) (SP X pins D) X.xe s4) X.xe { s' with heap := h3 } := by
        rw [hfm]
        refine HandSPX.setFlight_upZ fl3 fun h4 held up4 => wpAny_throw (tko _ _ ?_)
        exact ⟨a, B, sI, pins, σ', H', cls, d, rfl, J, nbT, (upT.trans up3).trans up4, .inr (.inr (by rw [hst]; exact held)), naT, osT, agT, hno rfl⟩
      first
        | exact wpAny_bind (wpAny_pure (wpAny_bind out))
        | exact wpAny_bind out
  refine wpAny_mono ((hbd (wCatch X.K c i j Wout D) (X.pn ++ pins) _ key PassesOwn.looking).run [] s σ H D (I0.toTry _) hh) (fun fl s1 hsp => ?_) (fun e s1 he => he)
  cases fl with
  | next =>
    obtain ⟨σ1, H1, S1, q1⟩ := hsp
    exact wpAny_execs_nil ⟨σ1, H1, S1.ofTry okX, q1⟩
  | brk =>
    obtain ⟨σ1, H1, S1, q1⟩ := hsp
    exact ⟨σ1, H1, S1.ofTry okX, q1⟩
  | cont =>
    obtain ⟨σ1, H1, S1, q1⟩ := hsp
    exact ⟨σ1, H1, S1.ofTry okX, q1⟩
  | ret u =>
    obtain ⟨v, σ1, H1, S1, r1, q1⟩ := hsp
    exact ⟨v, σ1, H1, S1.ofTry okX, r1, q1⟩
end
/-- the reading of a try -/
theorem read_try {T : Tab} {P : Prg} {k f : Nat} {X : Cx} {W : WX} (ek : ExcsK T P X.K) {b : Stms} {q i j : Nat} (hq : q < cVE) {D : Ends} {σ : L2.St} {H : Hp} (hij : i ≠ j) (h : tS X.K T W (ctl P k) f (.try_ b q i j) D σ H) :
    tSs X.K T (wCatch X.K (.ref (T.cA q)) i j W D) (ctl P k) f b D σ H := by
  obtain ⟨μ, S, ρ, c, er, h⟩ := h
  refine ⟨μ, S, ρ, c, er, ?_⟩
  have h : Pst X.K μ H (match evSs (ctl P k) f b ρ S with
    | .exc n S' => (match P.sub n q with
      | some true => Out.ok (.nx ((ρ.set i (some (.exc n (P.cA n)))).set j none)) S'
      | some false => Out.exc n S'
      | none => Out.bad)
    | o => o) (fun fl _ μ' H' => endsR X.K D fl μ' H') (wx T W σ) := h
  cases e : evSs (ctl P k) f b ρ S with
  | ok fl S' => rw [e] at h; exact h
  | bad => rw [e] at h; exact h
  | exc n S' =>
    rw [e] at h
    dsimp only at h
    cases e2 : P.sub n q with
    | none => rw [e2] at h; exact h.elim
    | some bb =>
      rw [e2] at h
      obtain ⟨q1, q2, q3, q4⟩ := ek n q bb e2
      have q4 := q4 (Nat.ne_of_lt hq)
      intro μ' H' c' e'
      refine ⟨bb, q4, fun z => ?_, fun z => ?_⟩
      · subst z
        intro a oe vs na h1 h2 h3
        have h : ∀ μ' H', Cor X.K μ' S' H' → Ext X.K μ H μ' H' → endsR X.K D (.nx ((ρ.set i (some (.exc n (P.cA n)))).set j none)) μ' H' := h
        obtain ⟨e3, c3⟩ := c'.side (u := .frz oe (.own 0)) na
        refine h μ' _ c3 (e'.trans e3) _ ?_
        have er2 := er.ext (e'.trans e3)
        have rx : Rep X.K μ' (upd H' a (.frz oe (.own 0))) (.exc n (P.cA n)) (.ref a) := .exc upd_same (by rw [h1, q1]) h2 h3
        have er3 := (((er2.unset j).set rx j).set rx i).unset j
        refine ⟨by have := er3.len; simpa using this, fun m dd hm => ?_⟩
        by_cases hmj : m = j
        · subst hmj
          have hl := (List.getElem?_eq_some_iff.mp hm).1
          rw [List.length_set] at hl
          rw [List.getElem?_set_self hl] at hm
          cases hm
        · rw [List.getElem?_set_ne (Ne.symm hmj)] at hm
          obtain ⟨v, hv, rv⟩ := (er2.set rx i).at_ m dd hm
          refine ⟨v, ?_, rv⟩
          rw [List.getElem?_set_ne (Ne.symm hmj)]
          by_cases hmi : m = i
          · subst hmi
            rw [List.getElem?_set] at hv ⊢
            simpa using hv
          · rw [List.getElem?_set_ne (Ne.symm hmi)] at hv ⊢
            rw [List.getElem?_set_ne (Ne.symm hmj)]
            exact hv
      · subst z
        exact h μ' H' c' e'
def tNon (i : Nat) : TS := fun D σ H => D.nx (σ.set i (some .non)) H
theorem ps_tryN {X : Cx} {x y : PySem.Str} {c : Value} {i : Nat} {body : List Stmt} {np yp kp ap pos pos' : Pos} {kk : Nat} {tb : WX → TS} {Wout : WX} (hst : X.stack = X.env :: X.outer) (hfm : X.env.frame = some X.env.locals) (hnd : X.N.Nodup) (hi : X.N[i]? = some y) (hly : X.env.kindOf y = some .local) (hcx : Names X x c) (tko : Takes X Wout)
    (hbd : ∀ (W : WX) (pn : List (Addr × PySem.Obj)) (xe : Value → Shared → Prop), Takes (X.tr pn xe) W → PassesOwn (model X.prog X.w) X.A X.env xe → PSs (X.tr pn xe) body (tb W)) :
    PS X (.Try body [.ExceptHandler (some (.Name x np)) none [.Assign [.Name y yp] (.Constant .none kk kp) ap] pos'] [] [] pos) (fun D σ H => tb (wOnly X.K c (fun _ _ _ => tNon i) Wout D) D σ H) :=
  ps_try_only hst hfm hcx tko hbd fun a oe cls d pn hz hv => pss_one (PS.imp (ps_set (X := X.suite a ((a, oe) :: pn)) (pos := ap) (pos' := yp) (i := i) hnd hi (.inl hly) (pe_non (X := X.suite a ((a, oe) :: pn))) rfl (.inr hly)) fun D σ H z => z)
theorem read_tryN {T : Tab} {P : Prg} {k f : Nat} {X : Cx} {W : WX} (ek : ExcsK T P X.K) {b : Stms} {q i : Nat} (hq : q < cVE) {D : Ends} {σ : L2.St} {H : Hp} (h : tS X.K T W (ctl P k) f (.tryN b q i) D σ H) :
    tSs X.K T (wOnly X.K (.ref (T.cA q)) (fun _ _ _ => tNon i) W D) (ctl P k) f b D σ H := by
  obtain ⟨μ, S, ρ, c, er, h⟩ := h
  refine ⟨μ, S, ρ, c, er, ?_⟩
  have h : Pst X.K μ H (match evSs (ctl P k) f b ρ S with
    | .exc n S' => (match P.sub n q with
      | some true => Out.ok (.nx (ρ.set i (some .non))) S'
      | some false => Out.exc n S'
      | none => Out.bad)
    | o => o) (fun fl _ μ' H' => endsR X.K D fl μ' H') (wx T W σ) := h
  cases e : evSs (ctl P k) f b ρ S with
  | ok fl S' => rw [e] at h; exact h
  | bad => rw [e] at h; exact h
  | exc n S' =>
    rw [e] at h
    dsimp only at h
    cases e2 : P.sub n q with
    | none => rw [e2] at h; exact h.elim
    | some bb =>
      rw [e2] at h
      obtain ⟨q1, q2, q3, q4⟩ := ek n q bb e2
      have q4 := q4 (Nat.ne_of_lt hq)
      intro μ' H' c' e'
      refine ⟨bb, q4, fun z => ?_, fun z => ?_⟩
      · subst z
        intro a na
        have h : ∀ μ' H', Cor X.K μ' S' H' → Ext X.K μ H μ' H' → endsR X.K D (.nx (ρ.set i (some .non))) μ' H' := h
        exact h μ' H' c' e' _ ((er.ext e').set .non i)
      · subst z
        exact h μ' H' c' e'
end VM
namespace VM
open PySem L2 PySem.Spec PyProof.Rows
def ntB : Expr → Bool
  | .Name _ _ => true
  | .Tuple _ _ _ => true
  | _ => false
structure GoodS (T : Tab) (P : Prg) (k : Nat) (c : Cc) (stc : Scope) (X : Cx) (W : WX) : Prop where
  g : Good T P k c stc X W
  po : PassesOwn (model X.prog X.w) X.A X.env X.xe
  so : StOk stc X
  kd : X.env.scope.kind = .function
  hst : X.stack = X.env :: X.outer
  hfm : X.env.frame = some X.env.locals
  hex : X.ex = []
section
variable {X : Cx}
theorem sw_nocomp {e : Expr} {t : Option Expr} {l : Nat} {env : PySem.Env} (h : compB e = false) : swapsWith e t l env = pure false := by
  cases e <;> first | rfl | cases h
theorem sw_nolocal {elt : Expr} {gs : List Comprehension} {scope : Scope} {pos py : Pos} {y : PySem.Str} {l : Nat} {env : PySem.Env} (h : lclB env.scope y = false) : swapsWith (.ListComp elt gs scope pos) (some (.Name y py)) l env = pure false := by
  have hk : (env.kindOf y == some .local) = false := by
    unfold lclB at h
    show (env.scope.names.lookup y == some .local) = false
    cases q : env.scope.names.lookup y with
    | none => rfl
    | some k => rw [q] at h; cases k <;> first | rfl | cases h
  unfold swapsWith
  simp only [hk, Bool.and_false, Bool.false_and]
theorem swapped_none {t e : Expr} {env : PySem.Env} (h : (tupB t && tupB e) = false) (ht : ntB t = true) : swappedStores [t] e env = pure none := by
  cases t with
  | Name _ _ => rfl
  | Tuple _ _ _ => cases e <;> first | rfl | cases h
  | _ => cases ht
theorem lcl_of {x : PySem.Str} {sc : Scope} (h : lclB sc x = true) : sc.names.lookup x = some .local := by
  unfold lclB at h
  split at h
  · rename_i q; exact q
  · cases h
theorem swapped_par {x y : PySem.Str} {a b : Expr} {px py pt pt2 : Pos} {kt k2} {env : PySem.Env} (hk : env.scope.kind = .function) (hx : env.scope.names.lookup x = some .local) (hy : env.scope.names.lookup y = some .local) (hxy : x ≠ y)
    (ha : starB a = false) (hb : starB b = false) (hl : (py.line == px.line) = true) (h1 : [a, b].all (foldedForSure 8) = false) (h2 : [a, b].all (constantsAlone 8) = false) :
    swappedStores [.Tuple [.Name x px, .Name y py] kt pt] (.Tuple [a, b] k2 pt2) env = pure (some [x, y]) := by
  have kx : env.kindOf x = some .local := hx
  have ky : env.kindOf y = some .local := hy
  have kb : env.blockKind = .function := by unfold Env.blockKind; rw [hk]; rfl
  have st : ([a, b].any fun | .Starred .. => true | _ => false) = false := by
    cases a <;> first | (cases ha; done) | (cases b <;> first | (cases hb; done) | rfl)
  have ne : (y == x) = false := by
    rw [beq_eq_false_iff_ne]
    exact fun z => hxy z.symm
  have hl' : (Expr.pos (.Name y py)).line = (Expr.pos (.Name x px)).line := eq_of_beq hl
  have fm : ∀ (f : Expr → Option PySem.Str), f (.Name x px) = some x → f (.Name y py) = some y → [Expr.Name x px, Expr.Name y py].filterMap f = [x, y] := fun f e1 e2 => by
    rw [List.filterMap_cons_some e1, List.filterMap_cons_some e2]
    rfl
  have ed : [x, y].eraseDups = [x, y] := by
    rw [List.eraseDups_cons]
    have : [y].filter (fun b => !b == x) = [y] := by simp [ne]
    rw [this]
    rfl
  unfold swappedStores
  refine Eq.trans (if_neg ?_) (Eq.trans (if_neg ?_) ?_)
  · show ¬ ((false || (env.blockKind != .function)) = true)
    rw [kb]
    decide
  · intro z
    cases a <;> first | (cases ha; done) | (cases b <;> first | (cases hb; done) | (exact Bool.noConfusion (show false = true from z)))
  · dsimp only
    rw [fm _ ?_ ?_]
    · rw [ed, h1, h2]
      rfl
    · exact if_pos (by rw [kx]; show (true && (px.line == px.line)) = true; simp)
    · exact if_pos (by rw [ky]; exact hl)
end
theorem swapped_par3 {x y z : PySem.Str} {a b d : Expr} {px py pz pt pt2 : Pos} {kt k2} {env : PySem.Env} (hk : env.scope.kind = .function) (hx : env.scope.names.lookup x = some .local) (hy : env.scope.names.lookup y = some .local) (hz : env.scope.names.lookup z = some .local) (hxy : x ≠ y) (hxz : x ≠ z) (hyz : y ≠ z)
    (ha : starB a = false) (hb : starB b = false) (hd : starB d = false) (hl : (py.line == px.line) = true) (hl2 : (pz.line == px.line) = true) (h1 : [a, b, d].all (foldedForSure 8) = false) (h2 : [a, b, d].all (constantsAlone 8) = false) :
    swappedStores [.Tuple [.Name x px, .Name y py, .Name z pz] kt pt] (.Tuple [a, b, d] k2 pt2) env = pure (some [x, y, z]) := by
  have kx : env.kindOf x = some .local := hx
  have ky : env.kindOf y = some .local := hy
  have kz : env.kindOf z = some .local := hz
  have kb : env.blockKind = .function := by unfold Env.blockKind; rw [hk]; rfl
  have nyx : (y == x) = false := by
    rw [beq_eq_false_iff_ne]
    exact fun q => hxy q.symm
  have nzx : (z == x) = false := by
    rw [beq_eq_false_iff_ne]
    exact fun q => hxz q.symm
  have nzy : (z == y) = false := by
    rw [beq_eq_false_iff_ne]
    exact fun q => hyz q.symm
  have hl' : (Expr.pos (.Name y py)).line = (Expr.pos (.Name x px)).line := eq_of_beq hl
  have fm : ∀ (f : Expr → Option PySem.Str), f (.Name x px) = some x → f (.Name y py) = some y → f (.Name z pz) = some z → [Expr.Name x px, Expr.Name y py, Expr.Name z pz].filterMap f = [x, y, z] := fun f e1 e2 e3 => by
    rw [List.filterMap_cons_some e1, List.filterMap_cons_some e2, List.filterMap_cons_some e3]
    rfl
  have ed : [x, y, z].eraseDups = [x, y, z] := by
    rw [List.eraseDups_cons]
    have e1 : [y, z].filter (fun b => !b == x) = [y, z] := by simp [nyx, nzx]
    rw [e1, List.eraseDups_cons]
    have e2 : [z].filter (fun b => !b == y) = [z] := by simp [nzy]
    rw [e2]
    rfl
  unfold swappedStores
  refine Eq.trans (if_neg ?_) (Eq.trans (if_neg ?_) ?_)
  · show ¬ ((false || (env.blockKind != .function)) = true)
    rw [kb]
    decide
  · intro q
    obtain ⟨e, he, q⟩ := List.any_eq_true.mp q
    simp only [List.mem_cons, List.not_mem_nil, or_false] at he
    have hs : starB e = false := by rcases he with rfl | rfl | rfl <;> assumption
    cases e <;> first | (cases hs; done) | (exact Bool.noConfusion (show false = true from q))
  · dsimp only
    rw [fm _ ?_ ?_ ?_]
    · rw [ed, h1, h2]
      rfl
    · exact if_pos (by rw [kx]; show (true && (px.line == px.line)) = true; simp)
    · exact if_pos (by rw [ky]; exact hl)
    · exact if_pos (by rw [kz]; exact hl2)
section
variable {T : Tab} {P : Prg} {k : Nat} {c : Cc} {f : Nat}
theorem PSs.imp {X : Cx} {s : List Stmt} {t t' : TS} (h : PSs X s t) (g : ∀ D σ H, t' D σ H → t D σ H) : PSs X s t' := ⟨fun pins s σ H D I q => h.run pins s σ H D I (g D σ H q)⟩
theorem GoodS.loc {sc : Scope} {X : Cx} {W : WX} (G : GoodS T P k c sc X W) {x : PySem.Str} (h : locB sc x = true) : Loc X.env.scope x ∧ (X.fn x = true ∨ X.env.scope.names.lookup x = some .local) := G.so x h
theorem chG_shape {sc : Scope} {tg : Tg} {t : Expr} (h : chG c sc tg t = true) : ntB t = true := by
  cases tg <;> cases t <;> first | rfl | cases h
theorem chG_star {sc : Scope} {tg : Tg} {t : Expr} (h : chG c sc tg t = true) {env : PySem.Env} : (assignEach [t] env).map (·.2) = [assign t env] := by
  cases tg <;> cases t <;> first | rfl | cases h
/-- a comprehension stored on one line at a local -/
theorem ps_lcN {sc : Scope} {X : Cx} {W : WX} (G : GoodS T P k c sc X W) {i : Nat} {y : PySem.Str} {py spos pos : Pos} {l : Expr} {gs : List Comprehension} {scope : Scope} {a : Exp} (hy : c.N[i]? = some y) (hl : lclB sc y = true)
    (h1 : (py.line == pos.line) = true) (h2 : (scope.names.any fun (n, k) => n == y && (k == .local || k == .cell)) = false) (h : chE c sc a (.ListComp l gs scope pos) = true) : PS X (.Assign [.Name y py] (.ListComp l gs scope pos) spos) (tS X.K T W (ctl P k) f (.asg (.name i) a)) := by
  have g := G.g
  have hyl : X.env.scope.names.lookup y = some .local := by
    rw [g.sc]
    exact lcl_of hl
  have hN : X.N[i]? = some y := by rw [g.hN]; exact hy
  cases a with
  | lc own tg src ifs elt =>
    unfold chE at h
    split at h
    · rename_i e' l' t' it' cs' scope' pos' he
      cases he
      obtain ⟨h, h6⟩ := and2 h
      obtain ⟨h, h5⟩ := and2 h
      obtain ⟨h, h4⟩ := and2 h
      obtain ⟨h, h3⟩ := and2 h
      obtain ⟨ho, hb⟩ := and2 (and2 h).1
      have hs := (and2 h).2
      have ho := of_decide_eq_true ho
      have bo := blkOk_by hb
      rw [← g.hN, ← g.sc] at bo
      have ps := ps_setLc (spos := spos) (g := tG X.K tg) (tt := tI X.K T WF (ctl P k) ifs) (te := tE X.K T WF (ctl P k) elt) g.calm g.nd hN hyl (sw_true G.kd hyl h1 h2) (chSrc_ok src sc X W _ _ g hs) bo (fun s H C cl fp => chG_ok (X := X.blk s H _ (compEnvC _ cl C X.env) fp) g.hN g.nd g.calm (stOk_block s H C cl fp) tg _ h4)
        (fun s H C cl fp => chI_ok ifs _ (X.blk s H _ (compEnvC _ cl C X.env) fp) WF _ (g.block s H C cl fp) h5) (fun s H C cl fp => (chE_ok elt _ (X.blk s H _ (compEnvC _ cl C X.env) fp) WF _ (g.block s H C cl fp) h6).pe) (fsi (src_nset hs))
      rw [ho] at ps
      exact PS.imp ps fun D σ H z => read_lc (all_mem h3) (read_asgN z)
    · cases h
  | lc2 own own1 tg src ifs tg1 src1 ifs1 elt =>
    unfold chE at h
    split at h
    · rename_i he
      cases he
      obtain ⟨h, h11⟩ := and2 h
      obtain ⟨h, h10⟩ := and2 h
      obtain ⟨h, h9⟩ := and2 h
      obtain ⟨h, h8⟩ := and2 h
      obtain ⟨h, h7⟩ := and2 h
      obtain ⟨h, h6⟩ := and2 h
      obtain ⟨h, h5⟩ := and2 h
      obtain ⟨h, h4⟩ := and2 h
      obtain ⟨h, h3⟩ := and2 h
      obtain ⟨ho, hb⟩ := and2 (and2 h).1
      have hs := (and2 h).2
      have ho := of_decide_eq_true ho
      have bo := blkOk_by hb
      rw [← g.hN, ← g.sc] at bo
      have ps := ps_setLc2 (spos := spos) (g := tG X.K tg) (tt := tI X.K T WF (ctl P k) ifs) (wi1 := tSr X.K T WF (ctl P k) src1) (g1 := tG X.K tg1) (tt1 := tI X.K T WF (ctl P k) ifs1) (te := tE X.K T WF (ctl P k) elt) (vs1 := own1) g.calm g.nd hN hyl (sw_true G.kd hyl h1 h2)
        (chSrc_ok src sc X W _ _ g hs) bo (by rw [ho]; exact all_mem h6) (fun s H C cl fp => chG_ok (X := X.blk s H _ (compEnvC _ cl C X.env) fp) g.hN g.nd g.calm (stOk_block s H C cl fp) tg _ h4)
        (fun s H C cl fp => chI_ok ifs _ (X.blk s H _ (compEnvC _ cl C X.env) fp) WF _ (g.block s H C cl fp) h5)
        (fun s H C cl fp => chSrc_ok src1 _ (X.blk s H _ (compEnvC _ cl C X.env) fp) WF _ _ (g.block s H C cl fp) h7)
        (fun s H C cl fp => chG_ok (X := X.blk s H _ (compEnvC _ cl C X.env) fp) g.hN g.nd g.calm (stOk_block s H C cl fp) tg1 _ h9)
        (fun s H C cl fp => chI_ok ifs1 _ (X.blk s H _ (compEnvC _ cl C X.env) fp) WF _ (g.block s H C cl fp) h10)
        (fun s H C cl fp => (chE_ok elt _ (X.blk s H _ (compEnvC _ cl C X.env) fp) WF _ (g.block s H C cl fp) h11).pe) (fsi (src_nset hs)) (fun env => fsi (src_nset h7))
      rw [ho] at ps
      exact PS.imp ps fun D σ H z => read_lc2 (all_mem h3) (all_mem h8) (read_asgN z)
    · cases h
  | lit d => cases d <;> cases h
  | lkE i a =>
    unfold chE at h
    have h2 := (and2 (and2 h).1).2
    cases h2
  | _ => cases h
mutual
theorem chS_ok : ∀ (a : Stm) (sc : Scope) (X : Cx) (W : WX) (s : Stmt), GoodS T P k c sc X W → (WConst W ∨ lastOk a = true) → chS c sc a s = true → PS X s (tS X.K T W (ctl P k) f a)
  | .expr a, sc, X, W, s, G, hw, h => by
    unfold chS at h
    split at h
    · obtain ⟨h1, h2⟩ := and2 h
      exact PS.imp (ps_expr (chE_ok a sc X W _ G.g h2).pe (sw_nocomp (not1 h1))) fun D σ H z => read_expr z
    · cases h
  | .asg tg a, sc, X, W, s, G, hw, h => by
    unfold chS at h
    split at h
    · rename_i t e pos
      obtain ⟨h, h4⟩ := and2 h
      obtain ⟨h, h3⟩ := and2 h
      obtain ⟨h1, h2⟩ := and2 h
      have pe := (chE_ok a sc X W _ G.g h1).pe
      have pg := chG_ok G.g.hN G.g.nd G.g.calm G.so tg t h2
      have hw := swapped_none (env := X.env) (not1 h3) (chG_shape h2)
      cases hc : compB e with
      | false => exact PS.imp (ps_asg pe pg (sw_nocomp hc) hw (chG_star h2)) fun D σ H z => read_asg z
      | true =>
        rw [hc] at h4
        have h4 : chC c sc tg t e = true := h4
        unfold chC at h4
        cases t with
        | Name y py =>
          cases e with
          | ListComp l gs scope lpos =>
            rw [Bool.or_eq_true] at h4
            rcases Bool.eq_false_or_eq_true (lclB sc y) with hl | hl
            · rcases h4 with h4 | h4
              · rw [hl] at h4; cases h4
              · obtain ⟨h5, h6⟩ := and2 h4
                cases tg with
                | name i =>
                  have h2 : (decide (c.N[i]? = some y) && locB sc y) = true := h2
                  exact ps_lcN G (of_decide_eq_true (and2 h2).1) hl h5 (not1 h6) h1
                | tup _ => cases h2
            · exact PS.imp (ps_asg pe pg (show swapsWith (.ListComp l gs scope lpos) (some (.Name y py)) pos.line X.env = pure false from sw_nolocal (by rw [G.g.sc]; exact hl)) hw (chG_star h2)) fun D σ H z => read_asg z
          | _ => cases h4
        | _ => cases h4
    · cases h
  | .par i j a b, sc, X, W, s, G, hw, h => by
    unfold chS at h
    split at h
    · rename_i t u _ _ y z _ _ _
      obtain ⟨h, h10⟩ := and2 h
      obtain ⟨h, h9⟩ := and2 h
      obtain ⟨h, h8⟩ := and2 h
      obtain ⟨h, h7⟩ := and2 h
      obtain ⟨h, h6⟩ := and2 h
      obtain ⟨h, h5⟩ := and2 h
      obtain ⟨h, h4⟩ := and2 h
      obtain ⟨h, h3⟩ := and2 h
      obtain ⟨h1, h2⟩ := and2 h
      have hij := of_decide_eq_true h3
      cases t with
      | Name x px =>
        cases u with
        | Name x' px' =>
          obtain ⟨a1, a2⟩ := and2 (show (decide (c.N[i]? = some x) && lclB sc x) = true from h1)
          obtain ⟨b1, b2⟩ := and2 (show (decide (c.N[j]? = some x') && lclB sc x') = true from h2)
          have a1 := of_decide_eq_true a1
          have b1 := of_decide_eq_true b1
          have lx : X.env.scope.names.lookup x = some .local := by rw [G.g.sc]; exact lcl_of a2
          have ly : X.env.scope.names.lookup x' = some .local := by rw [G.g.sc]; exact lcl_of b2
          rw [← G.g.hN] at a1 b1
          have hne : x ≠ x' := fun e => hij (nd_ix G.g.nd (by rw [a1]) (by rw [b1, e]))
          exact PS.imp (ps_par G.g.calm G.g.nd a1 b1 hij lx ly (pa_cons (chE_ok a sc X W _ G.g h9).pe (pa_cons (chE_ok b sc X W _ G.g h10).pe pa_nil (starB_se (not1 h5))) (starB_se (not1 h4)))
            (swapped_par G.kd lx ly hne (not1 h4) (not1 h5) h6 (not1 h7) (not1 h8)) rfl) fun D σ H z => read_par z
        | _ => cases h2
      | _ => cases h1
    · cases h
  | .par3 i j l a b d, sc, X, W, s, G, hw, h => by
    unfold chS at h
    split at h
    · rename_i t u v _ _ x0 y0 z0 _ _ _
      obtain ⟨h, g16⟩ := and2 h
      obtain ⟨h, g15⟩ := and2 h
      obtain ⟨h, g14⟩ := and2 h
      obtain ⟨h, g13⟩ := and2 h
      obtain ⟨h, g12⟩ := and2 h
      obtain ⟨h, g11⟩ := and2 h
      obtain ⟨h, g10⟩ := and2 h
      obtain ⟨h, g9⟩ := and2 h
      obtain ⟨h, g8⟩ := and2 h
      obtain ⟨h, g7⟩ := and2 h
      obtain ⟨h, g6⟩ := and2 h
      obtain ⟨h, g5⟩ := and2 h
      obtain ⟨h, g4⟩ := and2 h
      obtain ⟨h, g3⟩ := and2 h
      obtain ⟨g1, g2⟩ := and2 h
      have hij := of_decide_eq_true g4
      have hil := of_decide_eq_true g5
      have hjl := of_decide_eq_true g6
      cases t with
      | Name x px =>
        cases u with
        | Name x' px' =>
          cases v with
          | Name x2 px2 =>
            obtain ⟨a1, a2⟩ := and2 (show (decide (c.N[i]? = some x) && lclB sc x) = true from g1)
            obtain ⟨b1, b2⟩ := and2 (show (decide (c.N[j]? = some x') && lclB sc x') = true from g2)
            obtain ⟨d1, d2⟩ := and2 (show (decide (c.N[l]? = some x2) && lclB sc x2) = true from g3)
            have a1 := of_decide_eq_true a1
            have b1 := of_decide_eq_true b1
            have d1 := of_decide_eq_true d1
            have lx : X.env.scope.names.lookup x = some .local := by rw [G.g.sc]; exact lcl_of a2
            have ly : X.env.scope.names.lookup x' = some .local := by rw [G.g.sc]; exact lcl_of b2
            have lz : X.env.scope.names.lookup x2 = some .local := by rw [G.g.sc]; exact lcl_of d2
            rw [← G.g.hN] at a1 b1 d1
            have n1 : x ≠ x' := fun e => hij (nd_ix G.g.nd (by rw [a1]) (by rw [b1, e]))
            have n2 : x ≠ x2 := fun e => hil (nd_ix G.g.nd (by rw [a1]) (by rw [d1, e]))
            have n3 : x' ≠ x2 := fun e => hjl (nd_ix G.g.nd (by rw [b1]) (by rw [d1, e]))
            exact PS.imp (ps_par3 G.g.calm G.g.nd a1 b1 d1 hij hil hjl lx ly lz (pa_cons (chE_ok a sc X W _ G.g g14).pe (pa_cons (chE_ok b sc X W _ G.g g15).pe (pa_cons (chE_ok d sc X W _ G.g g16).pe pa_nil (starB_se (not1 g9))) (starB_se (not1 g8))) (starB_se (not1 g7)))
              (swapped_par3 G.kd lx ly lz n1 n2 n3 (not1 g7) (not1 g8) (not1 g9) g10 g11 (not1 g12) (not1 g13)) rfl) fun D σ H z => read_par3 z
          | _ => cases g3
        | _ => cases g2
      | _ => cases g1
    · cases h
  | .sub o i v, sc, X, W, s, G, hw, h => by
    unfold chS at h
    split at h
    · rename_i x y _ e _
      obtain ⟨h, h5⟩ := and2 h
      obtain ⟨h, h4⟩ := and2 h
      obtain ⟨h, h3⟩ := and2 h
      obtain ⟨h1, h2⟩ := and2 h
      have hsl := not1 h1
      have hsw : ∀ (t : Expr) l, swapsWithSole [t] e l X.env = pure false := fun t l => (show swapsWith e (some t) l X.env = pure false from sw_nocomp (not1 h2))
      refine PS.imp (ps_asg (chE_ok v sc X W _ G.g h5).pe (pg_sub (chE_ok o sc X W _ G.g h3).pe (chE_ok i sc X W _ G.g h4).pe (opSet_ok G.g.u65) ?_) (hsw _ _) ?_ rfl) fun D σ H z => read_sub z
      · cases y <;> first | (intro _; rfl) | cases hsl
      · cases e <;> rfl
    · cases h
  | .setf o x v, sc, X, W, s, G, hw, h => by
    unfold chS at h
    split at h
    · rename_i l y _ e _
      obtain ⟨h, h3⟩ := and2 h
      obtain ⟨h1, h2⟩ := and2 h
      have hy := of_decide_eq_true h1
      subst hy
      exact PS.imp (ps_fld (chE_ok o sc X W _ G.g h2).pe (chE_ok v sc X W _ G.g h3).pe (by cases e <;> rfl)) fun D σ H z => read_setf G.g.cls z
    · cases h
  | .aug i o a, sc, X, W, s, G, hw, h => by
    unfold chS at h
    split at h
    · obtain ⟨h, h4⟩ := and2 h
      obtain ⟨h, h3⟩ := and2 h
      obtain ⟨h1, h2⟩ := and2 h
      have := bopE_eq h3
      subst this
      obtain ⟨l1, l2⟩ := G.loc h2
      exact PS.imp (ps_aug (i := i) G.g.nd (by rw [G.g.hN]; exact of_decide_eq_true h1) l1 (chE_ok a sc X W _ G.g h4).pe (aug_ok o) l2) fun D σ H z => read_aug z
    · cases h
  | .ret a, sc, X, W, s, G, hw, h => by
    unfold chS at h
    split at h
    · exact PS.imp (ps_ret (chE_ok a sc X W _ G.g h).pe) fun D σ H z => read_ret z
    · cases h
  | .retN, sc, X, W, s, G, hw, h => by
    unfold chS at h
    split at h
    · exact PS.imp ps_retN fun D σ H z => read_retN z
    · cases h
  | .ife a b d, sc, X, W, s, G, hw, h => by
    unfold chS at h
    split at h
    · obtain ⟨h, h4⟩ := and2 h
      obtain ⟨h, h3⟩ := and2 h
      obtain ⟨h1, h2⟩ := and2 h
      exact PS.imp (ps_if ((chE_ok a sc X W _ G.g h2).pt (not1 h1)) (chSs_ok b sc X W _ G (hw.imp id fun z => (and2 (show (tailOk b && tailOk d) = true from z)).1) h3) (chSs_ok d sc X W _ G (hw.imp id fun z => (and2 (show (tailOk b && tailOk d) = true from z)).2) h4)) fun D σ H z => read_ifS z
    · cases h
  | .loop tg src b, sc, X, W, s, G, hw, h => by
    have wc : WConst W := hw.elim id fun z => by
      unfold lastOk at z
      cases z
    unfold chS at h
    split at h
    · obtain ⟨h, h3⟩ := and2 h
      obtain ⟨h1, h2⟩ := and2 h
      exact PS.imp (ps_for G.po G.g.calm (chSrc_ok src sc X W _ _ G.g h1) (chG_ok G.g.hN G.g.nd G.g.calm G.so tg _ h2) (chSs_ok b sc X W _ G (.inl wc) h3) (fsi (src_nset h1))) fun D σ H z => read_for wc z
    · cases h
  | .loopk tg i b, sc, X, W, s, G, hw, h => by
    have wc : WConst W := hw.elim id fun z => by
      unfold lastOk at z
      cases z
    unfold chS at h
    split at h
    · rename_i t it l pos
      obtain ⟨h, h3⟩ := and2 h
      obtain ⟨h1, h2⟩ := and2 h
      have hs : setB it = false := by
        cases it <;> first | rfl | (unfold chE at h1; cases h1)
      exact PS.imp (ps_lock (ps_for G.po G.g.calm (pi_keys (chE_ok (.var i) sc X W _ G.g h1).pe) (chG_ok G.g.hN G.g.nd G.g.calm G.so tg _ h2) (chSs_ok b sc X W _ G (.inl wc) h3) (fsi hs))) fun D σ H z => read_loopk wc z
    · cases h
  | .whil a b, sc, X, W, s, G, hw, h => by
    have wc : WConst W := hw.elim id fun z => by
      unfold lastOk at z
      cases z
    unfold chS at h
    split at h
    · obtain ⟨h, h3⟩ := and2 h
      obtain ⟨h1, h2⟩ := and2 h
      exact PS.imp (ps_while G.po ((chE_ok a sc X W _ G.g h2).pt (not1 h1)) (chSs_ok b sc X W _ G (.inl wc) h3)) fun D σ H z => read_while wc z
    · cases h
  | .brk, sc, X, W, s, G, hw, h => by
    unfold chS at h
    split at h
    · exact PS.imp ps_break fun D σ H z => read_brk z
    · cases h
  | .cnt, sc, X, W, s, G, hw, h => by
    unfold chS at h
    split at h
    · exact PS.imp ps_continue fun D σ H z => read_cnt z
    · cases h
  | .pass, sc, X, W, s, G, hw, h => by
    unfold chS at h
    split at h
    · exact PS.imp ps_pass fun D σ H z => read_pass z
    · cases h
  | .raise d, sc, X, W, s, G, hw, h => by
    unfold chS at h
    split at h
    · obtain ⟨h, h3⟩ := and2 h
      obtain ⟨h1, h2⟩ := and2 h
      obtain ⟨gC, kC, r, q⟩ := G.g.clss d _ (of_decide_eq_true h1)
      exact PS.imp (ps_raise G.g.calm G.g.tk (pmk_own PySem.F.excBase_ValueError q gC kC r (glB_of G.g.sc h2) (nmOk_of h3).1)) fun D σ H z => read_raise z
    · cases h
  | .try_ b q i j, sc, X, W, s, G, hw, h => by
    unfold chS at h
    split at h
    · rename_i body x p1 n y p2 m p3 p4 p5 p6
      obtain ⟨h, h12⟩ := and2 h
      obtain ⟨h, h11⟩ := and2 h
      obtain ⟨h, h10⟩ := and2 h
      obtain ⟨h, h9⟩ := and2 h
      obtain ⟨h, h8⟩ := and2 h
      obtain ⟨h, h7⟩ := and2 h
      obtain ⟨h, h6⟩ := and2 h
      obtain ⟨h, h5⟩ := and2 h
      obtain ⟨h, h4⟩ := and2 h
      obtain ⟨h, h3⟩ := and2 h
      obtain ⟨h, h2⟩ := and2 h
      obtain ⟨h0, h1⟩ := and2 h
      have hm := of_decide_eq_true h7
      subst hm
      have hij := of_decide_eq_true h10
      obtain ⟨gC, kC, r, qx⟩ := G.g.clss q _ (of_decide_eq_true h1)
      have lk : ∀ {z : PySem.Str}, lclB sc z = true → X.env.kindOf z = some .local := fun hz => by
        show X.env.scope.names.lookup _ = _
        rw [G.g.sc]
        exact lcl_of hz
      refine PS.imp (ps_catch (tb := fun W' => tSs X.K T W' (ctl P k) f b) G.hst G.hfm G.hex G.g.nd (by rw [G.g.hN]; exact of_decide_eq_true h4) (by rw [G.g.hN]; exact of_decide_eq_true h8) hij (lk h5) (lk h9) h6 ⟨glB_of G.g.sc h2, (nmOk_of h3).1, .inl gC⟩ G.g.tk fun W' pn xe tk' po' => ?_) fun D σ H z => read_try G.g.excs (of_decide_eq_true h0) hij z
      have G' : GoodS T P k c sc (X.tr pn xe) W' := ⟨⟨G.g.hN, G.g.nd, G.g.sc, G.g.calm, G.g.room, G.g.gd, tk', G.g.fns, G.g.blt, G.g.globs, G.g.clss, G.g.excs, G.g.kds, G.g.fas, G.g.dfs, fun q ce h => let z := G.g.cls q ce h; ⟨z.iA, z.mg, z.c, z.fl, z.ms, z.mak⟩⟩, po', G.so, G.kd, G.hst, G.hfm, G.hex⟩
      exact chSs_ok b sc (X.tr pn xe) W' _ G' (.inr h11) h12
    · cases h
  | .tryN b q i, sc, X, W, s, G, hw, h => by
    unfold chS at h
    split at h
    · rename_i body x p1 y p2 kk p3 p4 p5 p6
      obtain ⟨h, h8⟩ := and2 h
      obtain ⟨h, h7⟩ := and2 h
      obtain ⟨h, h6⟩ := and2 h
      obtain ⟨h, h5⟩ := and2 h
      obtain ⟨h, h4⟩ := and2 h
      obtain ⟨h, h3⟩ := and2 h
      obtain ⟨h1, h2⟩ := and2 h
      obtain ⟨gC, kC, r, qx⟩ := G.g.clss q _ (of_decide_eq_true h2)
      have lk : ∀ {z : PySem.Str}, lclB sc z = true → X.env.kindOf z = some .local := fun hz => by
        show X.env.scope.names.lookup _ = _
        rw [G.g.sc]
        exact lcl_of hz
      refine PS.imp (ps_tryN (tb := fun W' => tSs X.K T W' (ctl P k) f b) G.hst G.hfm G.g.nd (by rw [G.g.hN]; exact of_decide_eq_true h5) (lk h6) ⟨glB_of G.g.sc h3, (nmOk_of h4).1, .inl gC⟩ G.g.tk fun W' pn xe tk' po' => ?_) fun D σ H z => read_tryN G.g.excs (of_decide_eq_true h1) z
      have G' : GoodS T P k c sc (X.tr pn xe) W' := ⟨⟨G.g.hN, G.g.nd, G.g.sc, G.g.calm, G.g.room, G.g.gd, tk', G.g.fns, G.g.blt, G.g.globs, G.g.clss, G.g.excs, G.g.kds, G.g.fas, G.g.dfs, fun q ce h => let z := G.g.cls q ce h; ⟨z.iA, z.mg, z.c, z.fl, z.ms, z.mak⟩⟩, po', G.so, G.kd, G.hst, G.hfm, G.hex⟩
      exact chSs_ok b sc (X.tr pn xe) W' _ G' (.inr h7) h8
    · cases h
theorem chSs_ok : ∀ (a : Stms) (sc : Scope) (X : Cx) (W : WX) (s : List Stmt), GoodS T P k c sc X W → (WConst W ∨ tailOk a = true) → chSs c sc a s = true → PSs X s (tSs X.K T W (ctl P k) f a)
  | .nil, sc, X, W, s, G, hw, h => by
    cases s with
    | nil => exact PSs.imp pss_nil fun D σ H z => reads_nil z
    | cons _ _ => cases h
  | .cons a r, sc, X, W, s, G, hw, h => by
    cases s with
    | nil => cases h
    | cons s l =>
      unfold chSs at h
      obtain ⟨h1, h2⟩ := and2 h
      rcases hw with wc | z
      · exact PSs.imp (pss_cons (chS_ok a sc X W _ G (.inl wc) h1) (chSs_ok r sc X W _ G (.inl wc) h2)) fun D σ H z => reads_cons wc z
      · cases r with
        | nil =>
          cases l with
          | cons _ _ => cases h2
          | nil => exact PSs.imp (pss_one (chS_ok a sc X W _ G (.inr z) h1)) fun D σ H z => reads_one z
        | cons a2 r2 =>
          obtain ⟨z1, z2⟩ := and2 (show (noStore a && tailOk (.cons a2 r2)) = true from z)
          cases a with
          | expr e =>
            have pe : PS X s (tDrop (tE X.K T W (ctl P k) e)) := by
              unfold chS at h1
              split at h1
              · obtain ⟨h3, h4⟩ := and2 h1
                exact ps_expr (chE_ok e sc X W _ G.g h4).pe (sw_nocomp (not1 h3))
              · cases h1
            exact PSs.imp (pss_cons pe (chSs_ok (.cons a2 r2) sc X W _ G (.inr z2) h2)) fun D σ H z => reads_consE z
          | _ => cases z1
end
end
end VM
set_option maxHeartbeats 4000000
namespace VM
open PySem L2 PySem.Spec PyProof.Rows
structure DefE where
  x : PySem.Str
  qual : PySem.Str
  stm : Stmt
  N : List PySem.Str
  ps : List PySem.Str
  nm : PySem.Str
  gl : Bool
def ccOf (L : List DefE) (gn cn : List PySem.Str) (d : DefE) : Cc := ⟨d.N, (L.takeWhile (·.gl)).map (·.x), gn, cn⟩
def fnOk (L : List DefE) (gn cn : List PySem.Str) (d : DefE) (fn : Fn) : Bool := decide (fn.ps = d.ps.length) && decide (fn.slots = d.N.length) && chSs (ccOf L gn cn d) (defScope d.stm) fn.body (defBody d.stm)
/-- what the text says (decidable) -/
structure TextOk (P : Prg) (L : List DefE) (gn cn : List PySem.Str) : Prop where
  at_ : ∀ (i : Nat) (d : DefE), L[i]? = some d → FnScope d.N d.ps (defScope d.stm) ∧ ∃ fn, P.fns[i]? = some fn ∧ fnOk L gn cn d fn = true
/-- what the top has made of an own class that is made -/
structure ClsF (T : Tab) (P : Prg) (K : PySem.W.Frag) (mg : PySem.Str → Option Value) (L : List DefE) (q : Nat) (ce : ClsE) : Prop where
  iA : P.iA q = T.iA q
  mg : mg (st ce.nm) = some (.ref (T.iA q))
  c : Cls K (T.iA q)
  fl : ∀ f ∈ ce.fl, NoAttr K (T.iA q) (st f)
  ms : ∀ p ∈ ce.ms, ∃ d g fd, L[p.2]? = some d ∧ Meth K (T.iA q) (st p.1) g ∧ Binds K fd d.ps [] ∧ FunA K d.nm d.qual d.stm g fd
  mak : ∃ d f fd, L[ce.init]? = some d ∧ Mk K (T.iA q) f ∧ Binds K fd d.ps [] ∧ FunA K d.nm d.qual d.stm f fd
theorem tw_get {p : DefE → Bool} : ∀ {L : List DefE} {i : Nat} {d : DefE}, (L.takeWhile p)[i]? = some d → L[i]? = some d ∧ p d = true
  | [], i, d, h => by simp at h
  | a :: L, i, d, h => by
    rw [List.takeWhile_cons] at h
    cases q : p a with
    | false => rw [q] at h; simp at h
    | true =>
      rw [q, if_pos rfl] at h
      cases i with
      | zero => cases h; exact ⟨rfl, q⟩
      | succ i => exact tw_get (L := L) (by simpa using h)
theorem lookup_memN {β : Type} {x : List Nat} {y : β} : ∀ {l : List (List Nat × β)}, l.lookup x = some y → (x, y) ∈ l
  | (a, b) :: l, h => by
    rw [List.lookup_cons] at h
    split at h
    · rename_i e
      cases h
      rw [eq_of_beq e]
      exact List.mem_cons_self
    · exact List.mem_cons_of_mem _ (lookup_memN h)
/-- what the top has made -/
structure Facts (w : World) (T : Tab) (P : Prg) (K : PySem.W.Frag) (mg : PySem.Str → Option Value) (L : List DefE) (gn cn : List PySem.Str) : Prop where
  fns : ∀ (i : Nat) (d : DefE), L[i]? = some d → d.gl = true → ∃ f fd, mg d.x = some (.ref f) ∧ PySem.W.keepIn K (.ref f) = true ∧ Binds K fd d.ps [] ∧ FunA K d.nm d.qual d.stm f fd
  blt : ∀ x ∈ blts, mg x = none
  globs : ∀ (i : Nat) (x : PySem.Str), gn[i]? = some x → ∃ u v d, mg x = some u ∧ RelV v u ∧ (P.globs[i]?).join = some d ∧ ∀ μ H, Rep K μ H d v
  clss : ∀ (i : Nat) (x : PySem.Str), cn[i]? = some x → mg x = some (.ref (T.cA i)) ∧ PySem.W.keepIn K (.ref (T.cA i)) = true ∧ PySem.W.subIn K (.ref (T.cA i)) (.type "BaseException") = some true ∧ PySem.W.typeIn K (.ref (T.cA i)) = some (.type "type") ∧
    PySem.W.excIn K (T.cA i) [.type "ValueError", .type "Exception", .type "BaseException", .type "object"] "ValueError.__new__" = true
  excs : ExcsK T P K
  kds : ∀ (x : List Nat) (kvs : List (Key × D)), P.kds.lookup x = some kvs → KdAt w K mg x kvs
  fas : ∀ (i : Nat) (a : Addr), P.fA i = some a → ∃ d fd, (L.takeWhile (·.gl))[i]? = some d ∧ mg d.x = some (.ref a) ∧ PySem.W.keepIn K (.ref a) = true ∧ Binds K fd d.ps [] ∧ FunA K d.nm d.qual d.stm a fd
  dfs : ∀ (i : Nat) (ds : List D), P.dfs.lookup i = some ds → ∃ d f fd us vs, (L.takeWhile (·.gl))[i]? = some d ∧ mg d.x = some (.ref f) ∧ PySem.W.keepIn K (.ref f) = true ∧ Binds K fd d.ps us ∧ Vals vs us ∧ (∀ μ H, Reps K μ H ds vs) ∧ FunA K d.nm d.qual d.stm f fd
  cls : ∀ (q : Nat) (ce : ClsE), P.cls.lookup q = some ce → ClsF T P K mg L q ce
section
variable {Pg : Program} {w : World} {K : PySem.W.Frag} {mg : PySem.Str → Option Value} {base : Heap} {T : Tab} {P : Prg} {L : List DefE} {gn cn : List PySem.Str}
theorem start_env {μ : List Addr} {H : Hp} {ds : List VM.D} {vs : List V} {n m : Nat} {N : List PySem.Str} (r : Reps K μ H ds vs) (hm : m = vs.length) (hn : n = N.length) : EnvR K μ H (ds.map some ++ List.replicate (n - m) none) (start N vs) := by
  subst hm hn
  unfold L2.start
  refine ⟨by simp [r.length], fun i d h => ?_⟩
  by_cases hi : i < ds.length
  · rw [List.getElem?_append_left (by simpa using hi), List.getElem?_map] at h
    cases q : ds[i]? with
    | none => rw [q] at h; cases h
    | some d' =>
      rw [q] at h
      cases h
      obtain ⟨v, hv, rv⟩ := r.get q
      refine ⟨v, ?_, rv⟩
      rw [List.getElem?_append_left (by rw [List.length_map, ← r.length]; exact hi), List.getElem?_map, hv]
      rfl
  · rw [List.getElem?_append_right (by simpa using Nat.le_of_not_lt hi)] at h
    rw [List.getElem?_replicate] at h
    split at h <;> cases h
theorem run_fn {k i : Nat} {fn : Fn} {ds : List VM.D} (hf : P.fns[i]? = some fn) : callN P (k + 1) i ds = runB (ctl P k) P.fuel fn ds := by
  rw [callN.eq_def]
  dsimp only
  rw [hf]
  cases k <;> rfl
theorem good_def (F : Facts w T P K mg L gn cn) {k : Nat} {d : DefE} (Sc : FnScope d.N d.ps (defScope d.stm)) {f : Addr} {cdv : Value} {A : Around} {out : List PySem.Env} {s : Shared} {H : Hp} {E : XK}
    (ih : ∀ (i : Nat) (d : DefE) (f : Addr) (fd : FuncData), L[i]? = some d → FunA K d.nm d.qual d.stm f fd → FnG Pg w K mg base k f fd d.ps (spOf T K P k i))
    (ihm : ∀ j, k = j + 1 → ∀ (i : Nat) (d : DefE) (f : Addr) (fd : FuncData), L[i]? = some d → FunA K d.nm d.qual d.stm f fd → FnG Pg w K mg base j f fd d.ps (spOf T K P j i))
    (hgd : A.guards = some []) (hr : Room k (A.deeper (envOfC d.qual (defScope d.stm) s.heap.objs.size f cdv))) :
    GoodS T P k (ccOf L gn cn d) (defScope d.stm) (cxOf (L2.CX Pg w) Pg w K mg base d.N d.qual (defScope d.stm) f cdv A out s H E) (fun cls e _ H => E cls e H) := by
  refine ⟨⟨rfl, Sc.nd, rfl, rfl, hr, hgd, takes_of rfl rfl rfl rfl, fun i x hx => ?_, F.blt, F.globs, fun i x hx => ?_, F.excs, F.kds, fun i a ha => ?_, fun i ds hds => ?_, fun q ce hq => ?_⟩, passes_of rfl, fun x hx => ⟨locB_or hx, .inl rfl⟩, Sc.kind, rfl, rfl, rfl⟩
  · have hx : ((L.takeWhile (·.gl)).map (·.x))[i]? = some x := hx
    rw [List.getElem?_map] at hx
    cases q : (L.takeWhile (·.gl))[i]? with
    | none => rw [q] at hx; cases hx
    | some d' =>
      rw [q] at hx
      cases hx
      obtain ⟨q1, q2⟩ := tw_get q
      obtain ⟨f', fd', h1, h2, h3, h4⟩ := F.fns i d' q1 q2
      exact ⟨f', fd', d'.ps, h1, h2, h3, ih i d' f' fd' q1 h4⟩
  · obtain ⟨h1, h2, h3, h4, h5⟩ := F.clss i x hx
    exact ⟨h1, h2, raises_own h3 h4, h5⟩
  · obtain ⟨d', fd', q, h1, h2, h3, h4⟩ := F.fas i a ha
    exact ⟨d'.x, fd', d'.ps, by show ((L.takeWhile (·.gl)).map (·.x))[i]? = _; rw [List.getElem?_map, q]; rfl, h1, h2, h3, ih i d' a fd' (tw_get q).1 h4⟩
  · obtain ⟨d', f', fd', us, vs, q, h1, h2, h3, hv, hr, h4⟩ := F.dfs i ds hds
    exact ⟨d'.x, f', fd', d'.ps, us, vs, by show ((L.takeWhile (·.gl)).map (·.x))[i]? = _; rw [List.getElem?_map, q]; rfl, h1, h2, h3, hv, hr, ih i d' f' fd' (tw_get q).1 h4⟩
  · have C := F.cls q ce hq
    refine ⟨C.iA, C.mg, C.c, fun f hf => C.fl f (List.contains_iff_mem.mp hf), fun m i hm => ?_, ?_⟩
    · obtain ⟨d', g, fd, h1, h2, h3, h4⟩ := C.ms (m, i) (lookup_memN hm)
      exact ⟨g, fd, d'.ps, C.c, h2, h3, ih i d' g fd h1 h4⟩
    · obtain ⟨d', g, fd, h1, h2, h3, h4⟩ := C.mak
      exact ⟨g, fd, d'.ps, h2, h3, fun j hj => ihm j hj _ d' g fd h1 h4⟩
theorem all_fn (F : Facts w T P K mg L gn cn) (X : TextOk P L gn cn) : ∀ (k i : Nat) (d : DefE) (f : Addr) (fd : FuncData), L[i]? = some d → FunA K d.nm d.qual d.stm f fd → FnG Pg w K mg base k f fd d.ps (spOf T K P k i) := by
  intro k
  induction k using Nat.strongRecOn with
  | ind k IH =>
  cases k with
  | zero =>
    intro i d f fd hd Fd
    refine FnG.none fun vs H Q E ⟨μ, S, ds, c, r, h⟩ => h
  | succ k =>
    have ih := IH k (Nat.lt_succ_self k)
    have ihm : ∀ j, k = j + 1 → ∀ (i : Nat) (d : DefE) (f : Addr) (fd : FuncData), L[i]? = some d → FunA K d.nm d.qual d.stm f fd → FnG Pg w K mg base j f fd d.ps (spOf T K P j i) := fun j hj => IH j (by omega)
    intro i d f fd hd Fd
    obtain ⟨Sc, fn, hf, hk⟩ := X.at_ i d hd
    obtain ⟨hk, h3⟩ := and2 hk
    obtain ⟨h1, h2⟩ := and2 hk
    have h1 := of_decide_eq_true h1
    have h2 := of_decide_eq_true h2
    have lens : ∀ {vs : List V} {ds : List VM.D} {S : Store} {H : Hp} {μ : List Addr} {R : VM.D → Store → List Addr → Hp → Prop} {Wx : Nat → Hp → Prop}, Reps K μ H ds vs → Pst K μ H (callN P (k + 1) i ds S) R Wx → ds.length = fn.ps := by
      intro vs ds S H μ R Wx r h
      rw [run_fn hf] at h
      unfold runB at h
      by_cases z : ds.length = fn.ps
      · exact z
      · rw [if_neg z] at h; exact h.elim
    refine fnG_of Fd Sc (fun vs H Q E ⟨μ, S, ds, c, r, h⟩ => by rw [← r.length, lens r h, h1]) fun cdv A out s H vs Q E hgd hr ⟨μ, S, ds, c, r, h⟩ => ?_
    have hl := lens r h
    have G := good_def (Pg := Pg) (w := w) (base := base) (out := out) (H := H) (E := E) (f := f) F Sc ih ihm hgd hr
    refine ⟨_, chSs_ok (f := P.fuel) fn.body _ _ _ _ G (.inl fun _ _ _ _ _ z => z) h3, ?_⟩
    rw [run_fn hf] at h
    unfold runB at h
    rw [if_pos hl] at h
    refine ⟨μ, S, _, c, start_env r (by rw [← hl, r.length]) h2, Pst.then h fun fl S1 μ1 H1 c1 e1 hh => ?_⟩
    cases fl with
    | nx ρ => exact fun σ er => Pst.now c1 hh _ .non
    | rt d' => exact fun v rv => Pst.now c1 hh v rv
    | bk ρ => exact hh.elim
    | ct ρ => exact hh.elim
end
end VM
namespace VM
open PySem L2 PySem.Spec PyProof.Rows
/-- the end of the law: True -/
def yes (v : V) (_ : Hp) : Prop := v = .bl true
def lost (_ : Value) (_ : Option Addr) (_ : Hp) : Prop := False
def Out1 (sA : Shared) (r : Except Value PySem.Flow) (sZ : Shared) : Prop := r = .ok (.ret (.bool true)) ∧ OldK sA.heap sZ.heap ∧ sZ.os = sA.os ∧ AllBare sZ.gens
section
variable {P : Program} {w : World} {K : PySem.W.Frag} {mg mb : PySem.Str → Option Value} {k : Nat} {fa a : Addr} {fd : FuncData} {x : PySem.Str} {sp : Sp} {sA : Shared} {us : List Value} {ns : List Int}
/-- the call, seen from a heap H in which at most the script is known -/
theorem call_from (KX : K.In sA.heap) (G : sA.heap.Ns mainGlobals mg) (B : sA.heap.Ns builtinsNs mb) (BB : ∀ x : PySem.Str, x ≠ "__name__" → mb x = bootBuiltins x) (lim : sA.heap.NoLimit) (gens : sA.gens = #[])
    (ha : sA.heap.get? a = some { cls := .type "list", data := .seq us.toArray }) (hr : Room k callerA)
    (F : ∀ base : Heap, K.In base → base.Ns mainGlobals mg → FnG P w K mg base k fa fd [x] sp) (hb : ∀ (s : Shared) (u : Value), BindsTo s fd ⟨[u], []⟩ [(x, u)])
    {H : Hp} (only : Only H) (hok : HOk P w H sA.heap) (one : ∀ b, H b ≠ none → b = a) (out : H a ≠ none → K.lookup a = none) (hsp : sp [.ref a] H yes lost) :
    codeAny (model P w) callerA (.call (.ref fa) ⟨[.ref a], []⟩) (Out1 sA) sA := by
  have known : ∀ {b : Addr}, H b ≠ none → sA.heap.get? b = some { cls := .type "list", data := .seq us.toArray } := fun {b} z => by rw [one b z]; exact ha
  have undict : ∀ {b : Addr} {o : PySem.Obj} {es : Array DictEntry} {ep : Nat}, sA.heap.get? b = some o → o.data = .dict es ep → H b = none := fun {b o es ep} e d => by
    by_cases z : H b = none
    · exact z
    · rw [known z] at e
      cases e
      cases d
  have ns2 : ∀ {b : Addr} {m : PySem.Str → Option Value}, sA.heap.Ns b m → (hidT sA.heap H).Ns b m := by
    rintro b m ⟨o, es, ep, e, d, r⟩
    exact ⟨o, es, ep, hidT_get e (undict e d), d, r⟩
  have inB : K.In (hidT sA.heap H) := fun b o e => hidT_get (KX b o e) (by
    by_cases z : H b = none
    · exact z
    · have e1 := one b z
      rw [e1] at z e
      rw [out z] at e
      cases e)
  have modB : Mod K mg (hidT sA.heap H) := by
    obtain ⟨mc, l1, l2⟩ := lim
    exact ⟨inB, ns2 G, ⟨mb, ns2 B, BB⟩, ⟨mc, ns2 l1, l2⟩⟩
  have envB : Env0 P w K mg (hidT sA.heap H) callerA [] sA H := by
    refine ⟨rfl, modB, fun b o e => of_hidT e, Nat.le_of_eq (hidT_size _ _), trivial, fun b hb => ?_, hok, .of_eq gens⟩
    cases hb
  have run := (F _ inB (ns2 G)).run callerA [] sA H ⟨[.ref a], []⟩ [.ref a] [.ref a] yes lost rfl hr envB (hb sA (.ref a)) (.cons rfl .nil) hsp
  refine codeAny_mono run fun r sZ h => ?_
  match r, h with
  | .error e, h =>
    obtain ⟨_, _, _, _, _, _, _, _, _, _, _, _, z⟩ := h
    exact False.elim z
  | .ok .next, h => exact False.elim h
  | .ok .brk, h => exact False.elim h
  | .ok .cont, h => exact False.elim h
  | .ok (.ret u), h =>
    obtain ⟨v, H', os, bare, un, hok', rv, q⟩ := h
    have q : v = .bl true := q
    subst q
    have e1 : u = Value.bool true := rv
    subst e1
    refine ⟨rfl, OldK.of_keep fun b o e => ?_, os, bare⟩
    by_cases z : H b = none
    · refine un.keep b o e z (fun i => ?_) (by simp)
      cases i
    · rcases only b with n | ⟨ob, xs, y⟩
      · exact absurd n z
      · have e2 := (hok b _ y).1
        have e3 := (hok' b _ (un.frzs b ob _ y)).1
        rw [e] at e2
        rw [e3]
        exact e2.symm
end
theorem reps_ints {K : PySem.W.Frag} {μ : List Addr} {H : Hp} : ∀ ns : List Int, Reps K μ H (ns.map VM.D.int) (ns.map V.int)
  | [] => .nil
  | i :: ns => .cons (.int i) (reps_ints ns)
/-- the law in the interpreter: True, however the script is handed in -/
structure LawIs (P : Prg) (k i : Nat) (ns : List Int) : Prop where
  ro : ∃ S, callN P k i [.ref 0] [.ro (ns.map .int)] = .ok (.bl true) S
  kl : ∃ S, callN P k i [.kl (ns.map .int)] [] = .ok (.bl true) S
section
variable {T : Tab} {P : Prg} {k i : Nat} {ns : List Int} {K : PySem.W.Frag} {H : Hp} {a : Addr}
theorem sp_ro (h : LawIs P k i ns) {o : PySem.Obj} (ha : H a = some (.frz o (.lst (ns.map V.int)))) : spOf T K P k i [.ref a] H yes lost := by
  obtain ⟨S, e⟩ := h.ro
  refine ⟨[a], _, [.ref 0], ⟨rfl, by simp, fun n ob b h1 h2 => ?_⟩, .cons (.ref rfl) .nil, Pst.of_ok e fun μ' H' c' e' v rv => ?_⟩
  · cases n with
    | zero =>
      cases h1
      cases h2
      exact ⟨_, o, ha, reps_ints ns⟩
    | succ n => cases h1
  · cases rv
    rfl
theorem sp_kl (h : LawIs P k i ns) (ha : ∀ H', SqL K H' a (ns.map V.int)) : spOf T K P k i [.ref a] H yes lost := by
  obtain ⟨S, e⟩ := h.kl
  refine ⟨[], _, [.kl (ns.map .int)], ⟨rfl, by simp, fun n ob b h1 h2 => ?_⟩, .cons (.kl ha (reps_ints ns)) .nil, Pst.of_ok e fun μ' H' c' e' v rv => ?_⟩
  · cases h2
  · cases rv
    rfl
end
/-- the statement's goal from the law in the interpreter -/
theorem walkV {l : PySem.W.OpenLaw} {n k iL : Nat} {q : Program} {loose : List PySem.Str} {XP : (PySem.Str → Option Value) → Heap → Prop} {YP : World → Heap → Prop} {d : DefRec} {K : Params → PySem.W.Frag} {P : Prg} {L : List DefE} {gn cn : List PySem.Str}
    (hn : l.most = some n) (hn2 : n ≤ sizeLine) (hdf : d.params.defaults = []) (hr : Room k callerA) (hY : ∀ (w : World) (h : Heap), YP w h → (K w.params).In h) (X : TextOk P L gn cn)
    (F : ∀ (w : World) (mg : PySem.Str → Option Value) (fa : Addr) (h : Heap), (K w.params).In h → h.Ns mainGlobals mg → mg d.name = some (.ref fa) →
      ∃ (T : Tab) (dL : DefE) (fd : FuncData) (x : PySem.Str), Facts w T P (K w.params) mg L gn cn ∧ L[iL]? = some dL ∧ dL.ps = [x] ∧ FunA (K w.params) dL.nm dL.qual dL.stm fa fd ∧ ∀ (s : Shared) (u : Value), BindsTo s fd ⟨[u], []⟩ [(x, u)])
    (law : ∀ ns : List Int, ns.length ≤ n → (∀ z ∈ ns, Builtin.Int.intBits z ≤ 1048576) → LawIs P k iL ns) : PySem.W.WalkO q loose XP YP l.row.toRowW d [] (fun f vs => PySem.call f vs) := by
  refine Att.attach_callB hn hdf fun w s0 sA mg mb fa o pm cd doc a us ns G Y ho hd hcd hmg hobj hints hlen hbits hg => ?_
  have KX := hY w _ Y
  obtain ⟨T, dL, fd, x, FF, hL, hps, hF, hb⟩ := F w mg fa _ KX G.T.g hmg
  have LI := law ns hlen hbits
  have z : ns.length ≤ sizeLine := Nat.le_trans hlen hn2
  have rv := vals_ints hints
  have Fn : ∀ base : Heap, (K w.params).In base → base.Ns mainGlobals mg → FnG l.prog w (K w.params) mg base k fa fd [x] (spOf T (K w.params) P k iL) := fun base _ _ => by
    rw [← hps]
    exact all_fn FF X k iL dL fa fd hL hF
  cases hk : (K w.params).lookup a with
  | some ob =>
    have e := KX a ob hk
    rw [hobj] at e
    cases e
    refine call_from KX G.T.g G.T.b G.T.builtins G.T.nolimit hg hobj hr Fn hb (H := fun _ => none) (fun _ => .inl rfl) (fun b u z => by cases z) (fun b z => absurd rfl z) (fun z => absurd rfl z) (sp_kl LI fun H' => ?_)
    exact .inr ⟨_, us.toArray, _, hk, rfl, rfl, rfl, by rw [List.size_toArray, hints.length]; exact z, by simpa using rv⟩
  | none =>
    refine call_from KX G.T.g G.T.b G.T.builtins G.T.nolimit hg hobj hr Fn hb (H := fun b => if b = a then some (.frz { cls := .type "list", data := .seq us.toArray } (.lst (ns.map V.int))) else none) (fun b => ?_) (fun b u y => ?_) (fun b y => ?_) (fun _ => hk) (sp_ro LI (if_pos rfl))
    · by_cases e : b = a
      · exact .inr ⟨_, _, if_pos e⟩
      · exact .inl (if_neg e)
    · by_cases e : b = a
      · have y := (if_pos e).symm.trans y
        cases y
        subst e
        exact ⟨hobj, by rw [List.length_map]; exact z, us, _, rv, hobj⟩
      · have y := (if_neg e).symm.trans y
        cases y
    · by_cases e : b = a
      · exact e
      · exact absurd (if_neg e) y
end VM
namespace VM
open PySem L2 PySem.Spec PyProof.Rows
def funB : ScopeKind → Bool
  | .function => true
  | _ => false
def freeB : NameKind → Bool
  | .free => true
  | _ => false
def scopeB (N ps : List PySem.Str) (sc : Scope) : Bool := funB sc.kind && !sc.isCoroutine && !sc.isGenerator && decide N.Nodup && decide (N.take ps.length = ps) && ps.all (locB sc) && sc.names.all (fun y => !freeB y.2)
theorem scopeB_ok {N ps : List PySem.Str} {sc : Scope} (h : scopeB N ps sc = true) : FnScope N ps sc := by
  obtain ⟨h, h7⟩ := and2 h
  obtain ⟨h, h6⟩ := and2 h
  obtain ⟨h, h5⟩ := and2 h
  obtain ⟨h, h4⟩ := and2 h
  obtain ⟨h, h3⟩ := and2 h
  obtain ⟨h1, h2⟩ := and2 h
  refine ⟨?_, not1 h2, not1 h3, of_decide_eq_true h4, of_decide_eq_true h5, fun x hx => locB_or (List.all_eq_true.mp h6 x hx), fun y hy e => ?_⟩
  · revert h1
    cases sc.kind <;> intro z <;> first | rfl | cases z
  · have := List.all_eq_true.mp h7 y hy
    rw [e] at this
    cases this
def textB (L : List DefE) (gn cn : List PySem.Str) : List DefE → List Fn → Bool
  | [], [] => true
  | d :: ds, f :: fs => scopeB d.N d.ps (defScope d.stm) && fnOk L gn cn d f && textB L gn cn ds fs
  | _, _ => false
theorem textB_at {L : List DefE} {gn cn : List PySem.Str} : ∀ {ds : List DefE} {fs : List Fn}, textB L gn cn ds fs = true → ∀ (i : Nat) (d : DefE), ds[i]? = some d → FnScope d.N d.ps (defScope d.stm) ∧ ∃ fn, fs[i]? = some fn ∧ fnOk L gn cn d fn = true
  | [], _, _, _, _, h => by cases h
  | d :: ds, [], h, _, _, _ => by cases h
  | d :: ds, f :: fs, h, i, d', hd => by
    obtain ⟨h, h3⟩ := and2 h
    obtain ⟨h1, h2⟩ := and2 h
    cases i with
    | zero =>
      cases hd
      exact ⟨scopeB_ok h1, f, rfl, h2⟩
    | succ i => exact textB_at h3 i d' hd
theorem textOk_of {P : Prg} {L : List DefE} {gn cn : List PySem.Str} (h : textB L gn cn L P.fns = true) : TextOk P L gn cn := ⟨textB_at h⟩
end VM
namespace VM
open PySem
/-- it ends, in no exception, and so -/
def wp {α : Type} (m : M α) (S : Store) (Q : α → Store → Prop) : Prop := ∃ a S', m S = .ok a S' ∧ Q a S'
section
variable {α β : Type} {S : Store} {Q : α → Store → Prop} {R : β → Store → Prop}
theorem wp_bnd {m : M β} {f : β → M α} : wp (bnd m f) S Q ↔ wp m S fun a S' => wp (f a) S' Q := by
  constructor
  · rintro ⟨a, S', h, q⟩
    obtain ⟨b, S1, h1, h2⟩ := ok_bnd h
    exact ⟨b, S1, h1, a, S', h2, q⟩
  · rintro ⟨b, S1, h1, a, S', h2, q⟩
    refine ⟨a, S', ?_, q⟩
    unfold bnd
    rw [h1]
    exact h2
theorem wp_ret {a : α} : wp (ret a) S Q ↔ Q a S := ⟨fun ⟨_, _, h, q⟩ => by cases h; exact q, fun h => ⟨_, _, rfl, h⟩⟩
theorem wp_lft {a : α} : wp (lft (some a)) S Q ↔ Q a S := wp_ret
theorem wp_bad : wp (bad : M α) S Q ↔ False := ⟨fun ⟨_, _, h, _⟩ => (by cases h), False.elim⟩
theorem wp_new {o : Obj} {Q : D → Store → Prop} : wp (new o) S Q ↔ Q (.ref S.length) (S ++ [o]) := ⟨fun ⟨_, _, h, q⟩ => by cases h; exact q, fun h => ⟨_, _, rfl, h⟩⟩
theorem wp_put {n : Nat} {o : Obj} {Q : Unit → Store → Prop} : wp (put n o) S Q ↔ Q () (S.set n o) := ⟨fun ⟨_, _, h, q⟩ => by cases h; exact q, fun h => ⟨_, _, rfl, h⟩⟩
theorem wp_rd {n : Nat} {o : Obj} {Q : Obj → Store → Prop} (h : S[n]? = some o) : wp (rd n) S Q ↔ Q o S := by
  unfold wp rd
  rw [h]
  exact ⟨fun ⟨_, _, e, q⟩ => by cases e; exact q, fun q => ⟨_, _, rfl, q⟩⟩
theorem wp_mut {n : Nat} {l : List D} {Q : List D → Store → Prop} (h : S[n]? = some (.lst l)) : wp (mutOf n) S Q ↔ Q l S := by
  unfold wp mutOf
  rw [h]
  exact ⟨fun ⟨_, _, e, q⟩ => by cases e; exact q, fun q => ⟨_, _, rfl, q⟩⟩
theorem wp_lst {n : Nat} {l : List D} {Q : List D → Store → Prop} (h : S[n]? = some (.lst l)) : wp (lstOf n) S Q ↔ Q l S := by
  unfold wp lstOf
  rw [h]
  exact ⟨fun ⟨_, _, e, q⟩ => by cases e; exact q, fun q => ⟨_, _, rfl, q⟩⟩
theorem wp_grd {p : Prop} [Decidable p] {m : M α} (h : p) : wp (if p then m else bad) S Q ↔ wp m S Q := by rw [if_pos h]
theorem wp_truth_bl {b : Bool} {Q : Bool → Store → Prop} : wp (truth (.bl b)) S Q ↔ Q b S := ⟨fun ⟨_, _, h, q⟩ => by cases h; exact q, fun h => ⟨_, _, rfl, h⟩⟩
theorem wp_imp {m : M α} {Q' : α → Store → Prop} (h : wp m S Q) (f : ∀ a S', Q a S' → Q' a S') : wp m S Q' := let ⟨a, S', e, q⟩ := h; ⟨a, S', e, f a S' q⟩
theorem wp_of {m : M α} {a : α} {S' : Store} (h : m S = .ok a S') : wp m S Q ↔ Q a S' := ⟨fun ⟨_, _, e, q⟩ => by rw [h] at e; cases e; exact q, fun q => ⟨_, _, h, q⟩⟩
end
section
variable {S : Store} {Q : D → Store → Prop}
theorem wp_two {x y : D} {p q : PyData} {Q : PyData × PyData → Store → Prop} (hx : deep S dpt x = some p) (hy : deep S dpt y = some q) (h1 : SeqAt.shaped p = true) (h2 : SeqAt.shaped q = true) : wp (two x y) S Q ↔ Q (p, q) S := by
  refine wp_of ?_
  unfold two
  rw [hx, hy]
  dsimp only
  rw [if_pos (by rw [h1, h2, Bool.and_self, Bool.or_true])]
theorem wp_eq_int {i j : Int} : wp (opC .eq (.int i) (.int j)) S Q ↔ Q (.bl (decide (i = j))) S := by
  show wp (bnd (two (.int i) (.int j)) fun p => ret (.bl (PyData.eqv p.1 p.2))) S Q ↔ _
  rw [wp_bnd, wp_two (p := .int i) (q := .int j) rfl rfl rfl rfl, wp_ret]
  have : PyData.eqv (.int i) (.int j) = decide (i = j) := by
    by_cases h : i = j
    · subst h; simp [PyData.eqv]
    · simp [PyData.eqv, h]
  rw [this]
theorem wp_ix_dk {n : Nat} {kvs : List (Key × D)} {s : List Nat} {v : D} (h : S[n]? = some (.dk kvs)) (hk : kget kvs (.inr s) = some v) : wp (opIx (.ref n) (.str s)) S Q ↔ Q v S := by
  show wp (bnd (rd n) _) S Q ↔ _
  rw [wp_bnd, wp_rd h]
  show wp (lft (kget kvs (.inr s))) S Q ↔ _
  rw [hk, wp_lft]
theorem wp_ix_ls {n : Nat} {l : List D} {i : Int} {v : D} (h : S[n]? = some (.lst l)) (hk : atI l i = some v) : wp (opIx (.ref n) (.int i)) S Q ↔ Q v S := by
  show wp (bnd (rd n) _) S Q ↔ _
  rw [wp_bnd, wp_rd h]
  show wp (lft (atI l i)) S Q ↔ _
  rw [hk, wp_lft]
theorem wp_ix_tp {l : List D} {i : Int} {v : D} (hk : atI l i = some v) : wp (opIx (.tup l) (.int i)) S Q ↔ Q v S := by
  show wp (lft (atI l i)) S Q ↔ _
  rw [hk, wp_lft]
theorem wp_ix_kl {l : List D} {i : Int} {v : D} (hk : atI l i = some v) : wp (opIx (.kl l) (.int i)) S Q ↔ Q v S := by
  show wp (lft (atI l i)) S Q ↔ _
  rw [hk, wp_lft]
theorem wp_set_dk {n : Nat} {kvs : List (Key × D)} {s : List Nat} {v : D} {Q : Unit → Store → Prop} (h : S[n]? = some (.dk kvs)) (hl : kvs.length < big) : wp (opSet (.ref n) (.str s) v) S Q ↔ Q () (S.set n (.dk (kput kvs (.inr s) v))) := by
  show wp (bnd (rd n) _) S Q ↔ _
  rw [wp_bnd, wp_rd h]
  show wp (if kvs.length < big then put n (.dk (kput kvs (.inr s) v)) else bad) S Q ↔ _
  rw [if_pos hl, wp_put]
theorem wp_len_ls {n : Nat} {l : List D} (h : S[n]? = some (.lst l)) : wp (bifR .len [.ref n]) S Q ↔ Q (.int l.length) S := by
  show wp (bnd (rd n) _) S Q ↔ _
  rw [wp_bnd, wp_rd h]
  exact wp_ret
/-- objects are kept -/
def Le (S S' : Store) : Prop := ∃ X, S' = S ++ X
theorem Le.refl (S : Store) : Le S S := ⟨[], by simp⟩
theorem Le.trans {S1 S2 S3 : Store} (a : Le S1 S2) (b : Le S2 S3) : Le S1 S3 := by
  obtain ⟨X, rfl⟩ := a
  obtain ⟨Y, rfl⟩ := b
  exact ⟨X ++ Y, by rw [List.append_assoc]⟩
theorem Le.new (S : Store) (o : Obj) : Le S (S ++ [o]) := ⟨[o], rfl⟩
theorem Le.get {S S' : Store} (a : Le S S') {n : Nat} {o : Obj} (h : S[n]? = some o) : S'[n]? = some o := by
  obtain ⟨X, rfl⟩ := a
  rw [List.getElem?_append_left (List.getElem?_eq_some_iff.mp h).1]
  exact h
theorem get_new {S : Store} {o : Obj} : (S ++ [o])[S.length]? = some o := by simp
theorem get_old {S : Store} {o o' : Obj} {n : Nat} (h : S[n]? = some o) : (S ++ [o'])[n]? = some o := (Le.new S o').get h
theorem get_set {S : Store} {o o' : Obj} {n : Nat} (h : S[n]? = some o) : (S.set n o')[n]? = some o' := List.getElem?_set_self (List.getElem?_eq_some_iff.mp h).1
theorem get_ne {S : Store} {o o' : Obj} {n m : Nat} (h : S[m]? = some o) (e : n ≠ m) : (S.set n o')[m]? = some o := by rw [List.getElem?_set_ne e]; exact h
/-- a def's call -/
theorem wp_call {P : Prg} {k i : Nat} {fn : Fn} {vs : List D} (hf : P.fns[i]? = some fn) (hl : vs.length = fn.ps) : wp (callN P (k + 1) i vs) S Q ↔
    wp (evSs (ctl P k) P.fuel fn.body (vs.map some ++ List.replicate (fn.slots - fn.ps) none)) S fun fl S' => match fl with
      | .nx _ => Q .non S'
      | .rt d => Q d S'
      | _ => False := by
  rw [run_fn hf]
  unfold runB
  rw [if_pos hl, wp_bnd]
  constructor
  · intro h
    refine wp_imp h fun fl S' z => ?_
    cases fl with
    | nx ρ => exact wp_ret.mp z
    | rt d => exact wp_ret.mp z
    | bk ρ => exact wp_bad.mp z
    | ct ρ => exact wp_bad.mp z
  · intro h
    refine wp_imp h fun fl S' z => ?_
    cases fl with
    | nx ρ => exact wp_ret.mpr z
    | rt d => exact wp_ret.mpr z
    | bk ρ => exact z.elim
    | ct ρ => exact z.elim
theorem wp_cons {C : Ctl} {f : Nat} {s : Stm} {r : Stms} {ρ : Env} {Q : Flow → Store → Prop} : wp (evSs C f (.cons s r) ρ) S Q ↔ wp (evS C f s ρ) S fun fl S' => match fl with
      | .nx ρ' => wp (evSs C f r ρ') S' Q
      | fl => Q fl S' := by
  show wp (bnd (evS C f s ρ) _) S Q ↔ _
  rw [wp_bnd]
  constructor
  · intro h
    refine wp_imp h fun fl S' z => ?_
    cases fl with
    | nx ρ => exact z
    | rt d => exact wp_ret.mp z
    | bk ρ => exact wp_ret.mp z
    | ct ρ => exact wp_ret.mp z
  · intro h
    refine wp_imp h fun fl S' z => ?_
    cases fl with
    | nx ρ => exact z
    | rt d => exact wp_ret.mpr z
    | bk ρ => exact wp_ret.mpr z
    | ct ρ => exact wp_ret.mpr z
theorem wp_nil {C : Ctl} {f : Nat} {ρ : Env} {Q : Flow → Store → Prop} : wp (evSs C f .nil ρ) S Q ↔ Q (.nx ρ) S := wp_ret
end
section
variable {C : Ctl} {ρ : Env} {S : Store} {Q : D → Store → Prop}
theorem eVar {i : Nat} {d : D} (h : getV ρ i = some d) (q : Q d S) : wp (evE C (.var i) ρ) S Q := by
  show wp (lft (getV ρ i)) S Q
  rw [h]
  exact wp_lft.mpr q
theorem eLit {d : D} (q : Q d S) : wp (evE C (.lit d) ρ) S Q := wp_ret.mpr q
theorem eBin {o : BOp} {a b : Exp} (h : wp (evE C a ρ) S fun x S' => wp (evE C b ρ) S' fun y S2 => wp (opB o x y) S2 Q) : wp (evE C (.bin o a b) ρ) S Q := wp_bnd.mpr (wp_imp h fun _ _ z => wp_bnd.mpr z)
theorem eCmp {o : COp} {a b : Exp} (h : wp (evE C a ρ) S fun x S' => wp (evE C b ρ) S' fun y S2 => wp (opC o x y) S2 Q) : wp (evE C (.cmp o a b) ρ) S Q := wp_bnd.mpr (wp_imp h fun _ _ z => wp_bnd.mpr z)
theorem eIdx {a b : Exp} (h : wp (evE C a ρ) S fun x S' => wp (evE C b ρ) S' fun y S2 => wp (opIx x y) S2 Q) : wp (evE C (.idx a b) ρ) S Q := wp_bnd.mpr (wp_imp h fun _ _ z => wp_bnd.mpr z)
theorem eNt {a : Exp} (h : wp (evE C a ρ) S fun x S' => wp (truth x) S' fun k S2 => Q (.bl (!k)) S2) : wp (evE C (.nt a) ρ) S Q := wp_bnd.mpr (wp_imp h fun _ _ z => wp_bnd.mpr (wp_imp z fun _ _ z => wp_ret.mpr z))
theorem eAnd {a b : Exp} (h : wp (evE C a ρ) S fun x S' => wp (truth x) S' fun k S2 => if k = true then wp (evE C b ρ) S2 Q else Q x S2) : wp (evE C (.and a b) ρ) S Q := wp_bnd.mpr (wp_imp h fun _ _ z => wp_bnd.mpr (wp_imp z fun k _ z => by
  cases k with
  | true => exact z
  | false => exact wp_ret.mpr z))
theorem eOr {a b : Exp} (h : wp (evE C a ρ) S fun x S' => wp (truth x) S' fun k S2 => if k = true then Q x S2 else wp (evE C b ρ) S2 Q) : wp (evE C (.or a b) ρ) S Q := wp_bnd.mpr (wp_imp h fun _ _ z => wp_bnd.mpr (wp_imp z fun k _ z => by
  cases k with
  | true => exact wp_ret.mpr z
  | false => exact z))
theorem eTup {es : Exps} (h : wp (evs C es ρ) S fun l S' => l.length ≤ big ∧ Q (.tup l) S') : wp (evE C (.tup es) ρ) S Q := wp_bnd.mpr (wp_imp h fun l S' z => by
  show wp (if l.length ≤ big then ret (D.tup l) else bad) S' Q
  rw [if_pos z.1]
  exact wp_ret.mpr z.2)
theorem eLst {es : Exps} (h : wp (evs C es ρ) S fun l S' => l.length ≤ big ∧ Q (.ref S'.length) (S' ++ [.lst l])) : wp (evE C (.lst es) ρ) S Q := wp_bnd.mpr (wp_imp h fun l S' z => by
  show wp (if l.length ≤ big then new (.lst l) else bad) S' Q
  rw [if_pos z.1]
  exact wp_new.mpr z.2)
theorem eBif {b : Bif} {es : Exps} (h : wp (evs C es ρ) S fun l S' => wp (bifR b l) S' Q) : wp (evE C (.bif b es) ρ) S Q := wp_bnd.mpr h
theorem eCall {f : Nat} {es : Exps} (h : wp (evs C es ρ) S fun l S' => wp (C.call f l) S' Q) : wp (evE C (.call f es) ρ) S Q := wp_bnd.mpr h
theorem eDct {es : Exps} (h : wp (evs C es ρ) S fun l S' => wp (dispK l) S' Q) : wp (evE C (.dct es) ρ) S Q := wp_bnd.mpr h
theorem eMth {m : Mth} {o : Exp} {es : Exps} (h : wp (evE C o ρ) S fun x S' => wp (mthTy m x) S' fun _ S2 => wp (evs C es ρ) S2 fun l S3 => wp (mthR m x l) S3 Q) : wp (evE C (.mth m o es) ρ) S Q := wp_bnd.mpr (wp_imp h fun _ _ z => wp_bnd.mpr (wp_imp z fun _ _ z => wp_bnd.mpr z))
theorem eSl {a : Exp} {lo hi : Part} (h : wp (evE C a ρ) S fun x S' => wp (evP C lo ρ) S' fun l S2 => wp (evP C hi ρ) S2 fun u S3 => wp (opSl x l u) S3 Q) : wp (evE C (.sl a lo hi) ρ) S Q := wp_bnd.mpr (wp_imp h fun _ _ z => wp_bnd.mpr (wp_imp z fun _ _ z => wp_bnd.mpr z))
theorem pNo {Q : Option Int → Store → Prop} (q : Q none S) : wp (evP C .no ρ) S Q := wp_ret.mpr q
theorem pAt {e : Exp} {Q : Option Int → Store → Prop} (h : wp (evE C e ρ) S fun d S' => ∃ i, d = .int i ∧ Q (some i) S') : wp (evP C (.at_ e) ρ) S Q := wp_bnd.mpr (wp_imp h fun d S' z => by
  obtain ⟨i, rfl, q⟩ := z
  exact wp_lft.mpr q)
theorem eIsi {a : Exp} {ty : Nat} (h : wp (evE C a ρ) S fun x S' => ∃ t, tyN S' x = some t ∧ ty < 6 ∧ Q (.bl (t == ty || (t == 1 && ty == 0))) S') : wp (evE C (.isi a ty) ρ) S Q := wp_bnd.mpr (wp_imp h fun x S' z => by
  obtain ⟨t, h1, h2, q⟩ := z
  refine wp_bnd.mpr ⟨_, S', ?_, wp_ret.mpr q⟩
  unfold isiB
  rw [h1]
  dsimp only
  rw [if_pos h2])
theorem esNil {Q : List D → Store → Prop} (q : Q [] S) : wp (evs C .nil ρ) S Q := wp_ret.mpr q
theorem esCons {e : Exp} {es : Exps} {Q : List D → Store → Prop} (h : wp (evE C e ρ) S fun d S' => wp (evs C es ρ) S' fun ds S2 => Q (d :: ds) S2) : wp (evs C (.cons e es) ρ) S Q := wp_bnd.mpr (wp_imp h fun _ _ z => wp_bnd.mpr (wp_imp z fun _ _ z => wp_ret.mpr z))
variable {f : Nat} {R : Flow → Store → Prop}
theorem sCons {s : Stm} {r : Stms} (h : wp (evS C f s ρ) S fun fl S' => match fl with
      | .nx ρ' => wp (evSs C f r ρ') S' R
      | fl => R fl S') : wp (evSs C f (.cons s r) ρ) S R := wp_cons.mpr h
theorem sNil (q : R (.nx ρ) S) : wp (evSs C f .nil ρ) S R := wp_nil.mpr q
theorem sExpr {e : Exp} (h : wp (evE C e ρ) S fun _ S' => R (.nx ρ) S') : wp (evS C f (.expr e) ρ) S R := wp_bnd.mpr (wp_imp h fun _ _ z => wp_ret.mpr z)
theorem sAsg {tg : Tg} {e : Exp} (h : wp (evE C e ρ) S fun d S' => ∃ ρ', bind1 tg d ρ = some ρ' ∧ R (.nx ρ') S') : wp (evS C f (.asg tg e) ρ) S R := wp_bnd.mpr (wp_imp h fun d S' z => by
  obtain ⟨ρ', h1, q⟩ := z
  refine wp_bnd.mpr ?_
  rw [h1]
  exact wp_lft.mpr (wp_ret.mpr q))
theorem sAsgN {i : Nat} {e : Exp} (h : wp (evE C e ρ) S fun d S' => R (.nx (ρ.set i (some d))) S') : wp (evS C f (.asg (.name i) e) ρ) S R := sAsg (wp_imp h fun d S' z => ⟨_, rfl, z⟩)
theorem sSub {o i v : Exp} (h : wp (evE C v ρ) S fun d S1 => wp (evE C o ρ) S1 fun x S2 => wp (evE C i ρ) S2 fun y S3 => wp (opSet x y d) S3 fun _ S4 => R (.nx ρ) S4) : wp (evS C f (.sub o i v) ρ) S R :=
  wp_bnd.mpr (wp_imp h fun _ _ z => wp_bnd.mpr (wp_imp z fun _ _ z => wp_bnd.mpr (wp_imp z fun _ _ z => wp_bnd.mpr (wp_imp z fun _ _ z => wp_ret.mpr z))))
theorem sRet {e : Exp} (h : wp (evE C e ρ) S fun d S' => R (.rt d) S') : wp (evS C f (.ret e) ρ) S R := wp_bnd.mpr (wp_imp h fun _ _ z => wp_ret.mpr z)
theorem sIf {e : Exp} {a b : Stms} (h : wp (evE C e ρ) S fun x S1 => wp (truth x) S1 fun k S2 => if k = true then wp (evSs C f a ρ) S2 R else wp (evSs C f b ρ) S2 R) : wp (evS C f (.ife e a b) ρ) S R := wp_bnd.mpr (wp_imp h fun _ _ z => wp_bnd.mpr (wp_imp z fun k _ z => by cases k <;> exact z))
theorem tBl {b : Bool} {Q : Bool → Store → Prop} (q : Q b S) : wp (truth (.bl b)) S Q := wp_truth_bl.mpr q
theorem iteT {p q : Prop} (h : p) : if true = true then p else q := h
theorem iteF {p q : Prop} (h : q) : if false = true then p else q := h
/-- both ways of a truth -/
theorem iteB {b : Bool} {p q : Prop} (h1 : b = true → p) (h2 : b = false → q) : if b = true then p else q := by
  cases b with
  | true => exact h1 rfl
  | false => exact h2 rfl
end
theorem callR {P : Prg} {k i : Nat} {fn : Fn} {vs : List D} {ρ : Env} {S : Store} {Q : D → Store → Prop} (hf : P.fns[i]? = some fn) (hl : vs.length = fn.ps) (hρ : vs.map some ++ List.replicate (fn.slots - fn.ps) none = ρ)
    (h : wp (evSs (ctl P k) P.fuel fn.body ρ) S fun fl S' => match fl with
      | .nx _ => Q .non S'
      | .rt d => Q d S'
      | _ => False) : wp (callN P (k + 1) i vs) S Q := by
  subst hρ
  exact (wp_call hf hl).mpr h
def stTail : Stms → Nat → Stms
  | s, 0 => s
  | .cons _ r, n + 1 => stTail r n
  | .nil, _ => .nil
end VM
namespace VM
open PySem
abbrev sCells : List Nat := [99, 101, 108, 108, 115]
abbrev sAt : List Nat := [97, 116]
abbrev sRest : List Nat := [114, 101, 115, 116]
abbrev sMore : List Nat := [109, 111, 114, 101]
abbrev sOwn : List Nat := [111, 119, 110]
def kvO (c : Nat) (a r m : Int) (o : Bool) : List (Key × D) := [(.inr sCells, .ref c), (.inr sAt, .int a), (.inr sRest, .int r), (.inr sMore, .int m), (.inr sOwn, .bl o)]
theorem opC_gt_i {i j : Int} : opC .gt (.int i) (.int j) = ret (.bl (decide (j < i))) := rfl
theorem opC_lt_i {i j : Int} : opC .lt (.int i) (.int j) = ret (.bl (decide (i < j))) := rfl
theorem opB_add_i {i j : Int} : opB .add (.int i) (.int j) = ret (.int (i + j)) := rfl
theorem opB_sub_i {i j : Int} : opB .sub (.int i) (.int j) = ret (.int (i - j)) := rfl
theorem opB_mul_i {i j : Int} (h : mulOk i j = true) : opB .mul (.int i) (.int j) = ret (.int (i * j)) := by
  show (if mulOk i j = true then ret (D.int (i * j)) else bad) = _
  rw [if_pos h]
theorem opB_mod_i {i j : Int} (h : 0 < j) : opB .mod (.int i) (.int j) = ret (.int (i % j)) := by
  show (if decide (0 < j) = true then ret (D.int (i % j)) else bad) = _
  rw [if_pos (decide_eq_true h)]
theorem opB_fdiv_i {i j : Int} (h : 0 < j) (h2 : j < 1073741824) : opB .fdiv (.int i) (.int j) = ret (.int (i / j)) := by
  show (if (decide (0 < j) && decide (j < 1073741824)) = true then ret (D.int (i / j)) else bad) = _
  rw [if_pos (by rw [decide_eq_true h, decide_eq_true h2]; rfl)]
structure StAt (S : Store) (n c : Nat) (xs : List Int) (a r m : Int) (o : Bool) : Prop where
  ob : S[n]? = some (.dk (kvO c a r m o))
  ce : S[c]? = some (.lst (xs.map D.int))
  lt : c < n
  px : ∀ x ∈ xs, 0 ≤ x
  pa : 0 ≤ a
  pr : 0 ≤ r
  pm : 0 ≤ m ∧ m < 2147483647
def St (S : Store) (n : Nat) : Prop := ∃ c xs a r m o, StAt S n c xs a r m o
/-- all but one object kept -/
structure Fr (n : Nat) (S S' : Store) : Prop where
  len : S.length ≤ S'.length
  get : ∀ j o, j ≠ n → S[j]? = some o → S'[j]? = some o
theorem Fr.refl {n : Nat} (S : Store) : Fr n S S := ⟨Nat.le_refl _, fun _ _ _ h => h⟩
theorem Fr.trans {n : Nat} {S1 S2 S3 : Store} (a : Fr n S1 S2) (b : Fr n S2 S3) : Fr n S1 S3 := ⟨Nat.le_trans a.len b.len, fun j o h e => b.get j o h (a.get j o h e)⟩
theorem Fr.set {n : Nat} {S : Store} {o : Obj} : Fr n S (S.set n o) := ⟨by simp, fun j o h e => by rw [List.getElem?_set_ne (Ne.symm h)]; exact e⟩
theorem Fr.new {n : Nat} {S : Store} {o : Obj} : Fr n S (S ++ [o]) := ⟨by simp, fun j o' h e => get_old e⟩
theorem Fr.le {n : Nat} {S S' : Store} (h : Le S S') : Fr n S S' := ⟨by obtain ⟨X, rfl⟩ := h; simp, fun j o _ e => h.get e⟩
section
variable {S : Store} {n c : Nat} {xs : List Int} {a r m : Int} {o : Bool}
theorem StAt.ne (h : StAt S n c xs a r m o) : n ≠ c := Nat.ne_of_gt h.lt
theorem StAt.wr (h : StAt S n c xs a r m o) {a' r' m' : Int} (pa : 0 ≤ a') (pr : 0 ≤ r') (pm : 0 ≤ m' ∧ m' < 2147483647) : StAt (S.set n (.dk (kvO c a' r' m' o))) n c xs a' r' m' o :=
  ⟨get_set h.ob, get_ne h.ce h.ne, h.lt, h.px, pa, pr, pm⟩
theorem StAt.ext (h : StAt S n c xs a r m o) {S' : Store} (l : Le S S') : StAt S' n c xs a r m o := ⟨l.get h.ob, l.get h.ce, h.lt, h.px, h.pa, h.pr, h.pm⟩
theorem StAt.new (h : StAt S n c xs a r m o) {ob : Obj} : StAt (S ++ [ob]) n c xs a r m o := h.ext (Le.new _ _)
end
theorem atI_nat {α : Type} {xs : List α} {i : Int} (h0 : 0 ≤ i) (h1 : i < xs.length) : ∃ x, xs[i.toNat]? = some x ∧ atI xs i = some x := by
  have hlt : i.toNat < xs.length := by omega
  refine ⟨xs[i.toNat], by simp [hlt], ?_⟩
  unfold atI ixN
  rw [if_pos h0, if_pos h1]
  show xs[i.toNat]? = _
  simp [hlt]
theorem cell_at {xs : List Int} (px : ∀ x ∈ xs, 0 ≤ x) {i : Int} (h0 : 0 ≤ i) (h1 : i < xs.length) : ∃ x : Int, 0 ≤ x ∧ atI (xs.map D.int) i = some (.int x) := by
  obtain ⟨d, h2, h3⟩ := atI_nat (xs := xs.map D.int) h0 (by rw [List.length_map]; exact h1)
  rw [List.getElem?_map] at h2
  cases q : xs[i.toNat]? with
  | none => rw [q] at h2; cases h2
  | some x =>
    rw [q] at h2
    cases h2
    exact ⟨x, px x (List.mem_of_getElem? q), h3⟩
theorem mul_small {i j : Int} (h : 0 ≤ i ∧ i < 2147483647) : mulOk i j = true := by
  unfold mulOk
  rw [decide_eq_true (show -(2 ^ 64) < i by omega), decide_eq_true (show i < 2 ^ 64 by omega)]
  rfl
theorem mul_smallR {i j : Int} (h : 0 ≤ j ∧ j < 2147483647) : mulOk i j = true := by
  unfold mulOk
  rw [decide_eq_true (show -(2 ^ 64) < j by omega), decide_eq_true (show j < 2 ^ 64 by omega)]
  simp
end VM
namespace VM
open PySem
/-- what a walk goes over, while the invariant holds -/
structure Over (q : Seq) (S1 : Store) (l : List D) (ok : Nat → Store → Prop) : Prop where
  size : q.size S1 = l.length
  item : ∀ i S2, ok i S2 → q.item S2 i = some l[i]?
theorem Over.fix {S1 : Store} {l : List D} {ok : Nat → Store → Prop} : Over (.fix l) S1 l ok := ⟨rfl, fun _ _ _ => rfl⟩
def rngL (lo : Int) (n : Nat) : List D := (List.range n).map fun (i : Nat) => D.int (lo + i)
theorem Over.rng {S1 : Store} {lo : Int} {n : Nat} {ok : Nat → Store → Prop} : Over (.rng lo n) S1 (rngL lo n) ok := by
  refine ⟨by simp [rngL, Seq.size], fun i S2 _ => ?_⟩
  show some (if i < n then some (D.int (lo + i)) else none) = some (rngL lo n)[i]?
  unfold rngL
  by_cases h : i < n
  · rw [if_pos h, List.getElem?_map, List.getElem?_range h]
    rfl
  · rw [if_neg h, List.getElem?_eq_none (by simp; omega)]
theorem Over.at_ {S1 : Store} {n : Nat} {l : List D} {ok : Nat → Store → Prop} (h : S1[n]? = some (.lst l)) (hk : ∀ i S2, ok i S2 → S2[n]? = some (.lst l)) : Over (.at_ n) S1 l ok := by
  refine ⟨?_, fun i S2 z => ?_⟩
  · show (match S1[n]? with | some (.lst l) => l.length | some (.ro l) => l.length | _ => 0) = l.length
    rw [h]
  · show (match S2[n]? with | some (.lst l) => some l[i]? | some (.ro l) => some l[i]? | _ => none) = some l[i]?
    rw [hk i S2 z]
theorem Over.ro {S1 : Store} {n : Nat} {l : List D} {ok : Nat → Store → Prop} (h : S1[n]? = some (.ro l)) (hk : ∀ i S2, ok i S2 → S2[n]? = some (.ro l)) : Over (.at_ n) S1 l ok := by
  refine ⟨?_, fun i S2 z => ?_⟩
  · show (match S1[n]? with | some (.lst l) => l.length | some (.ro l) => l.length | _ => 0) = l.length
    rw [h]
  · show (match S2[n]? with | some (.lst l) => some l[i]? | some (.ro l) => some l[i]? | _ => none) = some l[i]?
    rw [hk i S2 z]
theorem rngL_get {lo : Int} {n i : Nat} {d : D} (h : (rngL lo n)[i]? = some d) : i < n ∧ d = .int (lo + i) := by
  unfold rngL at h
  have hl := (List.getElem?_eq_some_iff.mp h).1
  rw [List.length_map, List.length_range] at hl
  rw [List.getElem?_map, List.getElem?_range hl] at h
  cases h
  exact ⟨hl, rfl⟩
theorem wp_cmpI {β : Type} {q : Seq} {l : List D} {step : D → β → M β} {J : Nat → β → Store → Prop} {S1 : Store} (ov : Over q S1 l fun i S => ∃ acc, J i acc S) (hs : ∀ i d acc S, l[i]? = some d → J i acc S → wp (step d acc) S fun acc' S' => J (i + 1) acc' S') :
    ∀ (m i : Nat) (acc : β) (S : Store), i + m = l.length → J i acc S → wp (cmpI q step (m + 1) i acc) S fun acc' S' => J l.length acc' S'
  | 0, i, acc, S, hi, j => by
    have e := ov.item i S ⟨acc, j⟩
    rw [List.getElem?_eq_none (by omega)] at e
    refine ⟨acc, S, ?_, by rw [show l.length = i by omega]; exact j⟩
    show (match q.item S i with
      | none => Out.bad
      | some none => Out.ok acc S
      | some (some d) => bnd (step d acc) (fun acc' => cmpI q step 0 (i + 1) acc') S) = _
    rw [e]
  | m + 1, i, acc, S, hi, j => by
    have e := ov.item i S ⟨acc, j⟩
    have hlt : i < l.length := by omega
    rw [List.getElem?_eq_getElem hlt] at e
    have h1 := hs i _ acc S (List.getElem?_eq_getElem hlt) j
    have h2 : wp (bnd (step l[i] acc) fun acc' => cmpI q step (m + 1) (i + 1) acc') S fun acc' S' => J l.length acc' S' :=
      wp_bnd.mpr (wp_imp h1 fun acc' S' z => wp_cmpI ov hs m (i + 1) acc' S' (by omega) z)
    obtain ⟨a, S', h3, h4⟩ := h2
    refine ⟨a, S', ?_, h4⟩
    show (match q.item S i with
      | none => Out.bad
      | some none => Out.ok acc S
      | some (some d) => bnd (step d acc) (fun acc' => cmpI q step (m + 1) (i + 1) acc') S) = _
    rw [e]
    exact h3
theorem wp_noExc {α : Type} {m : M α} {S : Store} {Q : α → Store → Prop} (h : wp m S Q) : wp (noExc m) S Q := by
  obtain ⟨a, S', e, q⟩ := h
  refine ⟨a, S', ?_, q⟩
  unfold noExc
  rw [e]
section
variable {C : Ctl} {ρ : Env} {S : Store} {Q : D → Store → Prop}
theorem eLcG {own : List Nat} {tg : Tg} {src : Src} {ifs : Exps} {elt : Exp} (h : wp (evSrc C src ρ) S fun q S1 => ∃ (l : List D) (J : Nat → List D → Store → Prop), Over q S1 l (fun i S => ∃ acc, J i acc S) ∧ J 0 [] S1 ∧
    (∀ i d acc S2, l[i]? = some d → J i acc S2 → ∃ ρ', bind1 tg d (wip ρ own) = some ρ' ∧ wp (evIf C ifs ρ') S2 fun k S3 => if k = true then wp (evE C elt ρ') S3 fun y S4 => acc.length < big ∧ J (i + 1) (acc ++ [y]) S4 else J (i + 1) acc S3) ∧
    ∀ acc S2, J l.length acc S2 → Q (.ref S2.length) (S2 ++ [.lst acc])) : wp (evE C (.lc own tg src ifs elt) ρ) S Q := by
  refine wp_bnd.mpr (wp_imp h fun q S1 z => ?_)
  obtain ⟨l, J, ov, j0, hs, he⟩ := z
  refine wp_bnd.mpr ⟨_, S1, rfl, wp_bnd.mpr (wp_noExc ?_)⟩
  rw [ov.size]
  refine wp_imp (wp_cmpI ov (fun i d acc S2 hd j => ?_) l.length 0 [] S1 (by omega) j0) fun acc S2 z => wp_new.mpr (he acc S2 z)
  obtain ⟨ρ', hb, hw⟩ := hs i d acc S2 hd j
  refine wp_bnd.mpr ?_
  rw [hb]
  refine wp_lft.mpr (wp_bnd.mpr (wp_imp hw fun k S3 z => ?_))
  cases k with
  | true => exact wp_bnd.mpr (wp_imp (Q := fun y S4 => acc.length < big ∧ J (i + 1) (acc ++ [y]) S4) z fun y S4 z => (wp_grd z.1).mpr (wp_ret.mpr z.2))
  | false => exact wp_ret.mpr z
theorem eLc {own : List Nat} {tg : Tg} {src : Src} {elt : Exp} (h : wp (evSrc C src ρ) S fun q S1 => ∃ (l : List D) (J : Nat → List D → Store → Prop), Over q S1 l (fun i S => ∃ acc, J i acc S) ∧ J 0 [] S1 ∧
    (∀ i d acc S2, l[i]? = some d → J i acc S2 → ∃ ρ', bind1 tg d (wip ρ own) = some ρ' ∧ wp (evE C elt ρ') S2 fun y S4 => acc.length < big ∧ J (i + 1) (acc ++ [y]) S4) ∧
    ∀ acc S2, J l.length acc S2 → Q (.ref S2.length) (S2 ++ [.lst acc])) : wp (evE C (.lc own tg src .nil elt) ρ) S Q := eLcG (wp_imp h fun q S1 z => by
  obtain ⟨l, J, ov, j0, hs, he⟩ := z
  refine ⟨l, J, ov, j0, fun i d acc S2 hd j => ?_, he⟩
  obtain ⟨ρ', hb, hw⟩ := hs i d acc S2 hd j
  exact ⟨ρ', hb, wp_ret.mpr hw⟩)
/-- a comprehension whose items are worked out with no more than new objects: a map -/
theorem eMap {own : List Nat} {tg : Tg} {src : Src} {elt : Exp} {g : D → D} (h : wp (evSrc C src ρ) S fun q S1 => ∃ l : List D, Over q S1 l (fun _ S2 => Le S1 S2) ∧ l.length ≤ big ∧
    (∀ d ∈ l, ∀ S2, Le S1 S2 → ∃ ρ', bind1 tg d (wip ρ own) = some ρ' ∧ wp (evE C elt ρ') S2 fun y S4 => y = g d ∧ Le S2 S4) ∧
    ∀ S2, Le S1 S2 → Q (.ref S2.length) (S2 ++ [.lst (l.map g)])) : wp (evE C (.lc own tg src .nil elt) ρ) S Q := eLc (wp_imp h fun q S1 z => by
  obtain ⟨l, ov, hl, hs, he⟩ := z
  refine ⟨l, fun i acc S2 => Le S1 S2 ∧ acc = (l.take i).map g ∧ i ≤ l.length, ⟨ov.size, fun i S2 ⟨acc, h1, _⟩ => ov.item i S2 h1⟩, ⟨Le.refl _, rfl, Nat.zero_le _⟩, ?_, ?_⟩
  · rintro i d acc S2 hd ⟨h1, rfl, h2⟩
    have hlt := (List.getElem?_eq_some_iff.mp hd).1
    obtain ⟨ρ', hb, hw⟩ := hs d (List.mem_of_getElem? hd) S2 h1
    refine ⟨ρ', hb, wp_imp hw fun y S4 z => ⟨by rw [List.length_map, List.length_take]; omega, h1.trans z.2, ?_, hlt⟩⟩
    rw [z.1, List.take_add_one, hd]
    simp
  · rintro acc S2 ⟨h1, rfl, _⟩
    rw [List.take_length]
    exact he S2 h1)
theorem wp_forI {q : Seq} {l : List D} {step : D → Env → M Flow} {J : Nat → Env → Store → Prop} {R : Flow → Store → Prop} {S1 : Store} (ov : Over q S1 l fun i S => ∃ ρ, J i ρ S) (hs : ∀ i d ρ S, l[i]? = some d → J i ρ S → wp (step d ρ) S fun fl S' => match fl with
      | .nx ρ' => J (i + 1) ρ' S'
      | .ct ρ' => J (i + 1) ρ' S'
      | .bk ρ' => R (.nx ρ') S'
      | .rt d => R (.rt d) S') (he : ∀ ρ S, J l.length ρ S → R (.nx ρ) S) :
    ∀ (m i : Nat) (ρ : Env) (S : Store), i + m = l.length → J i ρ S → wp (forI q step (m + 1) i ρ) S R
  | 0, i, ρ, S, hi, j => by
    have e := ov.item i S ⟨ρ, j⟩
    rw [List.getElem?_eq_none (by omega)] at e
    refine ⟨.nx ρ, S, ?_, he ρ S (by rw [show l.length = i by omega]; exact j)⟩
    show (match q.item S i with
      | none => Out.bad
      | some none => Out.ok (Flow.nx ρ) S
      | some (some d) => bnd (step d ρ) _ S) = _
    rw [e]
  | m + 1, i, ρ, S, hi, j => by
    have e := ov.item i S ⟨ρ, j⟩
    have hlt : i < l.length := by omega
    rw [List.getElem?_eq_getElem hlt] at e
    have h1 := hs i _ ρ S (List.getElem?_eq_getElem hlt) j
    have h2 : wp (bnd (step l[i] ρ) fun fl => match fl with
      | .nx ρ' => forI q step (m + 1) (i + 1) ρ'
      | .ct ρ' => forI q step (m + 1) (i + 1) ρ'
      | .bk ρ' => ret (.nx ρ')
      | .rt d => ret (.rt d)) S R := by
      refine wp_bnd.mpr (wp_imp h1 fun fl S' z => ?_)
      cases fl with
      | nx ρ' => exact wp_forI ov hs he m (i + 1) ρ' S' (by omega) z
      | ct ρ' => exact wp_forI ov hs he m (i + 1) ρ' S' (by omega) z
      | bk ρ' => exact wp_ret.mpr z
      | rt d => exact wp_ret.mpr z
    obtain ⟨a, S', h3, h4⟩ := h2
    refine ⟨a, S', ?_, h4⟩
    show (match q.item S i with
      | none => Out.bad
      | some none => Out.ok (Flow.nx ρ) S
      | some (some d) => bnd (step d ρ) _ S) = _
    rw [e]
    exact h3
theorem sLoop {tg : Tg} {src : Src} {b : Stms} {f : Nat} {R : Flow → Store → Prop} (h : wp (evSrc C src ρ) S fun q S1 => ∃ (l : List D) (J : Nat → Env → Store → Prop), Over q S1 l (fun i S => ∃ ρ, J i ρ S) ∧ J 0 ρ S1 ∧
    (∀ i d ρ2 S2, l[i]? = some d → J i ρ2 S2 → ∃ ρ', bind1 tg d ρ2 = some ρ' ∧ wp (evSs C f b ρ') S2 fun fl S' => match fl with
      | .nx ρ' => J (i + 1) ρ' S'
      | .ct ρ' => J (i + 1) ρ' S'
      | .bk ρ' => R (.nx ρ') S'
      | .rt d => R (.rt d) S') ∧ ∀ ρ2 S2, J l.length ρ2 S2 → R (.nx ρ2) S2) : wp (evS C f (.loop tg src b) ρ) S R := by
  refine wp_bnd.mpr (wp_imp h fun q S1 z => ?_)
  obtain ⟨l, J, ov, j0, hs, he⟩ := z
  refine wp_bnd.mpr ⟨_, S1, rfl, ?_⟩
  rw [ov.size]
  refine wp_forI ov (fun i d ρ2 S2 hd j => ?_) he l.length 0 ρ S1 (by omega) j0
  obtain ⟨ρ', hb, hw⟩ := hs i d ρ2 S2 hd j
  refine wp_bnd.mpr ?_
  rw [hb]
  exact wp_lft.mpr hw
theorem rSeq {e : Exp} {Q : Seq → Store → Prop} (h : wp (evE C e ρ) S fun d S' => wp (seqOf d) S' Q) : wp (evSrc C (.seq e) ρ) S Q := wp_bnd.mpr h
theorem rRng1 {e : Exp} {Q : Seq → Store → Prop} (h : wp (evE C e ρ) S fun d S' => ∃ i, d = .int i ∧ rngOk i = true ∧ Q (.rng 0 i.toNat) S') : wp (evSrc C (.rng1 e) ρ) S Q := wp_bnd.mpr (wp_imp h fun d S' z => by
  obtain ⟨i, rfl, h1, q⟩ := z
  show wp (if rngOk i = true then ret (.rng 0 i.toNat) else bad) S' Q
  rw [if_pos h1]
  exact wp_ret.mpr q)
theorem seq_kl {l : List D} {Q : Seq → Store → Prop} (q : Q (.fix l) S) : wp (seqOf (.kl l)) S Q := wp_ret.mpr q
theorem seq_lst {n : Nat} {l : List D} {Q : Seq → Store → Prop} (h : S[n]? = some (.lst l)) (q : Q (.at_ n) S) : wp (seqOf (.ref n)) S Q := wp_bnd.mpr ((wp_lst h).mpr (wp_ret.mpr q))
theorem seq_ro {n : Nat} {l : List D} {Q : Seq → Store → Prop} (h : S[n]? = some (.ro l)) (q : Q (.at_ n) S) : wp (seqOf (.ref n)) S Q := by
  refine wp_bnd.mpr ⟨l, S, ?_, wp_ret.mpr q⟩
  unfold lstOf
  rw [h]
theorem Over.zp {q r : Seq} {S1 : Store} {l m : List D} {ok : Nat → Store → Prop} (h1 : Over q S1 l ok) (h2 : ∀ i S2, ok i S2 → r.item S2 i = some m[i]?) (hl : l.length ≤ m.length) : Over (.zp q r) S1 ((l.zip m).map fun p => .tup [p.1, p.2]) ok := by
  refine ⟨?_, fun i S2 z => ?_⟩
  · rw [List.length_map, List.length_zip, Nat.min_eq_left hl]
    exact h1.size
  · have a := h1.item i S2 z
    have b := h2 i S2 z
    show (match q.item S2 i, r.item S2 i with
      | some (some a), some (some b) => some (some (D.tup [a, b]))
      | some none, some _ => some none
      | some _, some none => some none
      | _, _ => none) = _
    rw [a, b, List.getElem?_map]
    cases e1 : l[i]? with
    | none =>
      have : (l.zip m)[i]? = none := List.getElem?_eq_none (by rw [List.length_zip]; have := List.getElem?_eq_none_iff.mp e1; omega)
      rw [this]
      cases m[i]? <;> rfl
    | some x =>
      have hi := (List.getElem?_eq_some_iff.mp e1).1
      have e2 : m[i]? = some m[i] := List.getElem?_eq_getElem (by omega)
      have e3 : (l.zip m)[i]? = some (x, m[i]) := List.getElem?_zip_eq_some.mpr ⟨e1, e2⟩
      rw [e2, e3]
      rfl
theorem Over.rva {n : Nat} {S1 : Store} {l : List D} {ok : Nat → Store → Prop} (hk : ∀ i S2, ok i S2 → S2[n]? = some (.lst l)) : Over (.rva n l.length) S1 l.reverse ok := by
  refine ⟨by rw [List.length_reverse]; rfl, fun i S2 z => ?_⟩
  show (match S2[n]? with
    | some (.lst l') => if i < l.length then (if l'.length = l.length then some l'[l.length - 1 - i]? else none) else some none
    | _ => none) = _
  rw [hk i S2 z]
  dsimp only
  by_cases h : i < l.length
  · rw [if_pos h, if_pos rfl, List.getElem?_reverse h]
  · rw [if_neg h, List.getElem?_eq_none (by rw [List.length_reverse]; omega)]
end
end VM
namespace VM
open PySem
/-- the script, as it is handed in -/
def Script (sv : D) (ns : List Int) (S : Store) : Prop := sv = .kl (ns.map .int) ∨ ∃ m, sv = .ref m ∧ S[m]? = some (.ro (ns.map .int))
section
variable {sv : D} {ns : List Int} {S : Store}
theorem Script.le (h : Script sv ns S) {S' : Store} (l : Le S S') : Script sv ns S' := h.imp id fun ⟨m, e, q⟩ => ⟨m, e, l.get q⟩
theorem Script.fr (h : Script sv ns S) {S' : Store} {n : Nat} (f : Fr n S S') (hn : ∀ m, sv = .ref m → m ≠ n) : Script sv ns S' := h.imp id fun ⟨m, e, q⟩ => ⟨m, e, f.get _ _ (hn m e) q⟩
theorem Script.len (h : Script sv ns S) {Q : D → Store → Prop} (q : Q (.int ns.length) S) : wp (bifR .len [sv]) S Q := by
  rcases h with rfl | ⟨m, rfl, e⟩
  · refine wp_ret.mpr ?_
    rw [List.length_map]
    exact q
  · refine wp_bnd.mpr ((wp_rd e).mpr (wp_ret.mpr ?_))
    rw [List.length_map]
    exact q
theorem Script.ix (h : Script sv ns S) (hl : (0 : Int) < ns.length) : ∃ z : Int, ∀ Q : D → Store → Prop, Q (.int z) S → wp (opIx sv (.int 0)) S Q := by
  have hx : ∃ z : Int, atI (ns.map D.int) 0 = some (.int z) := by
    cases ns with
    | nil => simp at hl
    | cons z r =>
      refine ⟨z, ?_⟩
      unfold atI ixN
      rw [if_pos (Int.le_refl 0), if_pos (by simp)]
      rfl
  obtain ⟨z, hz⟩ := hx
  refine ⟨z, fun Q q => ?_⟩
  rcases h with rfl | ⟨m, rfl, e⟩
  · exact (wp_ix_kl hz).mpr q
  · refine wp_bnd.mpr ((wp_rd e).mpr ?_)
    show wp (lft (atI (ns.map D.int) 0)) S Q
    rw [hz]
    exact wp_lft.mpr q
theorem Script.seq (h : Script sv ns S) {Q : Seq → Store → Prop} (k : ∀ q : Seq, Over q S (ns.map .int) (fun _ S2 => Le S S2) → Q q S) : wp (seqOf sv) S Q := by
  rcases h with rfl | ⟨m, rfl, e⟩
  · exact seq_kl (k _ .fix)
  · exact seq_ro e (k _ (.ro e fun _ S2 l => l.get e))
end
def ab (i : Int) : Int := (if i < 0 then -i else i) % 10 ^ 40
def keptL : List (List Nat) := [[115, 111, 117, 114, 99, 101], [107, 101, 101, 112], [115, 104, 97, 112, 101], [98, 111, 116, 104], [106, 111, 105, 110], [97, 108, 111, 110, 101], [102, 111, 108, 100], [108, 101, 116, 116, 101, 114], [98, 97, 99, 107], [109, 97, 114, 107], [101, 110, 100], [109, 97, 110, 121], [98, 101, 103, 105, 110], [98, 101, 104, 105, 110, 100], [111, 102], [111, 110], [98, 121], [119, 105, 116, 104], [102, 114, 111, 109], [116, 111], [112, 97, 110, 101], [115, 108, 105, 100, 101], [118, 105, 115, 105, 116], [115, 117, 109], [108, 101, 97, 115, 116], [109, 111, 115, 116], [121, 101, 115], [110, 111, 116], [97, 110, 100], [111, 114]]
def goodN (w : List Nat) : Bool := decide (1 ≤ w.length) && decide (w.length ≤ 6) && w.all (fun c => decide (97 ≤ c) && decide (c ≤ 122)) && !keptL.contains w
def abcL : List Nat := [97, 98, 99, 100, 101, 102, 103, 104, 105, 106, 107, 108, 109, 110, 111, 112, 113, 114, 115, 116, 117, 118, 119, 120, 121, 122]
theorem ix_str {w : List Nat} {i : Int} {c : Nat} {S : Store} {Q : D → Store → Prop} (hb : w.length ≤ big) (h : atI w i = some c) (q : Q (.str [c]) S) : wp (opIx (.str w) (.int i)) S Q := by
  refine (wp_grd hb).mpr ?_
  show wp (lft ((atI w i).map fun c => .str [c])) S Q
  rw [h]
  exact wp_lft.mpr q
end VM
namespace VM
open PySem
end VM
namespace VM
open PySem
abbrev FieldP := List Nat × Nat
abbrev SrcP := List Nat × List FieldP
structure GoodF (fs : List FieldP) : Prop where
  lo : 1 ≤ fs.length
  hi : fs.length ≤ 3
  nm : ∀ f ∈ fs, goodN f.1 = true
  top : ∀ f ∈ fs, f.2 ≤ 5
  nd : (fs.map (·.1)).Nodup
structure GoodS0 (l : List SrcP) : Prop where
  nm : ∀ s ∈ l, goodN s.1 = true ∧ GoodF s.2
  nd : (l.map (·.1)).Nodup
structure GoodSrc (l : List SrcP) : Prop extends GoodS0 l where
  lo : 1 ≤ l.length
  hi : l.length ≤ 3
def nm (ws : List (List Nat)) (i : Nat) : List Nat := (ws[i]?).getD []
theorem St.lt {S : Store} {n : Nat} (st : St S n) : n < S.length := by
  obtain ⟨_, _, _, _, _, _, s⟩ := st
  exact (List.getElem?_eq_some_iff.mp s.ob).1
theorem St.ext {S S' : Store} {n : Nat} (st : St S n) (l : Le S S') : St S' n := by
  obtain ⟨c, xs, a, r, m, o, s⟩ := st
  exact ⟨c, xs, a, r, m, o, s.ext l⟩
theorem St.new {S : Store} {n : Nat} (st : St S n) {o : Obj} : St (S ++ [o]) n := st.ext (Le.new _ _)
theorem wp_app {S : Store} {n : Nat} {l : List D} {y : D} {Q : D → Store → Prop} (h : S[n]? = some (.lst l)) (hl : l.length < big) (q : Q .non (S.set n (.lst (l ++ [y])))) : wp (mthR .append (.ref n) [y]) S Q :=
  wp_bnd.mpr ((wp_mut h).mpr ((wp_grd hl).mpr (wp_bnd.mpr (wp_put.mpr (wp_ret.mpr q)))))
theorem wp_mty {S : Store} {n : Nat} {l : List D} {m : Mth} {Q : Unit → Store → Prop} (h : S[n]? = some (.lst l)) (q : Q () S) : wp (mthTy m (.ref n)) S Q := wp_bnd.mpr ((wp_mut h).mpr (wp_ret.mpr q))
theorem wp_tuple {S : Store} {n : Nat} {l : List D} {Q : D → Store → Prop} (h : S[n]? = some (.lst l)) (q : Q (.tup l) S) : wp (bifR .tuple [.ref n]) S Q := wp_bnd.mpr ((wp_lst h).mpr (wp_ret.mpr q))
end VM
namespace VM
open PySem
/-- data that may be compared and shown: of some depth and weight -/
structure Nice (d : PyData) (a b : Nat) : Prop where
  lay : d.canLay0 = true
  int : d.intsShort 13 = true
  show_ : d.showable = true
  dict : d.hasDict = false
  dep : d.depth ≤ a
  wt : d.weight ≤ b
structure NiceL (ds : List PyData) (a b : Nat) : Prop where
  lay : PyData.canLayAll0 ds = true
  int : PyData.intsShortAll 13 ds = true
  show_ : PyData.showableAll ds = true
  dict : PyData.hasDictAll ds = false
  dep : PyData.depthAll ds ≤ a
  wt : PyData.weightAll ds ≤ b
theorem NiceL.nil {a : Nat} : NiceL [] a 0 := ⟨rfl, rfl, rfl, rfl, Nat.zero_le _, Nat.le_refl _⟩
theorem NiceL.cons {d : PyData} {ds : List PyData} {a b c : Nat} (h : Nice d a b) (t : NiceL ds a c) : NiceL (d :: ds) a (b + 1 + c) := by
  refine ⟨?_, ?_, ?_, ?_, ?_, ?_⟩
  · show (d.canLay0 && PyData.canLayAll0 ds) = true
    rw [h.lay, t.lay]; rfl
  · show (d.intsShort 13 && PyData.intsShortAll 13 ds) = true
    rw [h.int, t.int]; rfl
  · show (d.showable && PyData.showableAll ds) = true
    rw [h.show_, t.show_]; rfl
  · show (d.hasDict || PyData.hasDictAll ds) = false
    rw [h.dict, t.dict]; rfl
  · exact Nat.max_le.mpr ⟨h.dep, t.dep⟩
  · have := h.wt
    have := t.wt
    show d.weight + 1 + PyData.weightAll ds ≤ _
    omega
theorem NiceL.mono {ds : List PyData} {a b a' b' : Nat} (h : NiceL ds a b) (ha : a ≤ a') (hb : b ≤ b') : NiceL ds a' b' := ⟨h.lay, h.int, h.show_, h.dict, Nat.le_trans h.dep ha, Nat.le_trans h.wt hb⟩
theorem Nice.mono {d : PyData} {a b a' b' : Nat} (h : Nice d a b) (ha : a ≤ a') (hb : b ≤ b') : Nice d a' b' := ⟨h.lay, h.int, h.show_, h.dict, Nat.le_trans h.dep ha, Nat.le_trans h.wt hb⟩
theorem NiceL.map {α : Type} {f : α → PyData} {a b : Nat} : ∀ {l : List α}, (∀ x ∈ l, Nice (f x) a b) → NiceL (l.map f) a (l.length * (b + 1))
  | [], _ => NiceL.nil.mono (Nat.le_refl _) (Nat.zero_le _)
  | x :: l, h => (NiceL.cons (h x (by simp)) (NiceL.map fun y hy => h y (by simp [hy]))).mono (Nat.le_refl _) (by rw [List.length_cons, Nat.add_mul]; omega)
theorem NiceL.list {ds : List PyData} {a b : Nat} (h : NiceL ds a b) : Nice (.list ds) (a + 1) b := ⟨h.lay, h.int, h.show_, h.dict, Nat.succ_le_succ h.dep, h.wt⟩
theorem NiceL.tup {ds : List PyData} {a b : Nat} (h : NiceL ds a b) : Nice (.tuple ds) (a + 1) b := ⟨h.lay, h.int, h.show_, h.dict, Nat.succ_le_succ h.dep, h.wt⟩
def pS (w : List Nat) : PyData := .str ⟨w.toArray⟩
section
variable {S : Store} {Q : D → Store → Prop}
theorem Nice.shaped {d : PyData} {a b : Nat} (h : Nice d a b) (ha : a ≤ 60) : SeqAt.shaped d = true := by
  show (d.canLay0 && decide (d.depth ≤ 64)) = true
  rw [h.lay, decide_eq_true (Nat.le_trans h.dep (by omega))]
  rfl
theorem mapM_mono {f g : D → Option PyData} (h : ∀ d p, f d = some p → g d = some p) : ∀ {l : List D} {r : List PyData}, l.mapM f = some r → l.mapM g = some r
  | [], r, e => by simpa using e
  | d :: l, r, e => by
    rw [List.mapM_cons] at e ⊢
    cases q : f d with
    | none => rw [q] at e; cases e
    | some p =>
      rw [q] at e
      rw [h d p q]
      cases q2 : l.mapM f with
      | none => simp [q2] at e
      | some r2 =>
        simp [q2] at e
        subst e
        simp [mapM_mono h q2]
theorem wp_eqD {x y : D} {p q : PyData} {a b c d : Nat} (hx : deep S dpt x = some p) (hy : deep S dpt y = some q) (n1 : Nice p a b) (n2 : Nice q c d) (ha : a ≤ 60) (hc : c ≤ 60) (k : Q (.bl (PyData.eqv p q)) S) : wp (opC .eq x y) S Q :=
  wp_bnd.mpr ((wp_two hx hy (n1.shaped ha) (n2.shaped hc)).mpr (wp_ret.mpr k))
theorem wp_neD {x y : D} {p q : PyData} {a b c d : Nat} (hx : deep S dpt x = some p) (hy : deep S dpt y = some q) (n1 : Nice p a b) (n2 : Nice q c d) (ha : a ≤ 60) (hc : c ≤ 60) (k : Q (.bl (!PyData.eqv p q)) S) : wp (opC .ne x y) S Q :=
  wp_bnd.mpr ((wp_two hx hy (n1.shaped ha) (n2.shaped hc)).mpr (wp_ret.mpr k))
theorem wp_neS {x y : D} {p : PyData} {a b : Nat} (hx : deep S dpt x = some p) (hy : deep S dpt y = some p) (n1 : Nice p a b) (ha : a ≤ 60) (k : Q (.bl false) S) : wp (opC .ne x y) S Q :=
  wp_neD hx hy n1 n1 ha ha (by rw [SeqAt.eqv_refl p n1.lay]; exact k)
theorem wp_eqS {x y : D} {p : PyData} {a b : Nat} (hx : deep S dpt x = some p) (hy : deep S dpt y = some p) (n1 : Nice p a b) (ha : a ≤ 60) (k : Q (.bl true) S) : wp (opC .eq x y) S Q :=
  wp_eqD hx hy n1 n1 ha ha (by rw [SeqAt.eqv_refl p n1.lay]; exact k)
end
theorem mapM_all {α β γ : Type} {f : β → Option γ} {g : α → β} {h : α → γ} : ∀ {l : List α}, (∀ x ∈ l, f (g x) = some (h x)) → (l.map g).mapM f = some (l.map h)
  | [], _ => rfl
  | x :: l, k => by
    rw [List.map_cons, List.mapM_cons, k x (by simp), mapM_all (l := l) fun y hy => k y (by simp [hy])]
    rfl
theorem deep_lst {α : Type} {S : Store} {n r : Nat} {g : α → D} {h : α → PyData} {l : List α} (hr : S[r]? = some (.lst (l.map g))) (k : ∀ x ∈ l, deep S n (g x) = some (h x)) : deep S (n + 1) (.ref r) = some (.list (l.map h)) := by
  show (match S[r]? with
    | some (.lst l) => (l.mapM (deep S n)).map PyData.list
    | some (.ro l) => (l.mapM (deep S n)).map PyData.list
    | _ => none) = _
  rw [hr]
  dsimp only
  rw [mapM_all k]
  rfl
end VM
namespace VM
open PySem
def bWhole : Stms := (.cons (.ret (.and (.isi (.var 0) 0) (.nt (.isi (.var 0) 1)))) .nil)
def bName : Stms := (.cons (.ife (.or (.nt (.isi (.var 0) 2)) (.nt (.cmp2 .le .le (.lit (.int 1)) (.bif .len (.cons (.var 0) .nil)) (.glob 1)))) (.cons (.ret (.lit (.bl false))) .nil) .nil) (.cons (.ret (.and (.bif .all (.cons (.lc [1] (.name 1) (.seq (.var 0)) .nil (.cmp .isin (.var 1) (.glob 0))) .nil)) (.cmp .notin (.var 0) (.glob 2)))) .nil))
def bNumTo (w : Nat) : Stms := (.cons (.ret (.and (.call w (.cons (.var 0) .nil)) (.cmp2 .le .le (.lit (.int 0)) (.var 0) (.var 1)))) .nil)
def bPairs (nm : Nat) : Stms := (.cons (.ife (.or (.nt (.isi (.var 0) 3)) (.nt (.cmp2 .le .le (.lit (.int 1)) (.bif .len (.cons (.var 0) .nil)) (.var 1)))) (.cons (.ret (.lit (.bl false))) .nil) .nil) (.cons (.loop (.name 2) (.seq (.var 0)) (.cons (.ife (.or (.nt (.isi (.var 2) 3)) (.or (.cmp .ne (.bif .len (.cons (.var 2) .nil)) (.lit (.int 2))) (.nt (.call nm (.cons (.idx (.var 2) (.lit (.int 0))) .nil))))) (.cons (.ret (.lit (.bl false))) .nil) .nil) .nil)) (.cons (.ret (.cmp .eq (.lenset [2] (.name 2) (.seq (.var 0)) (.idx (.var 2) (.lit (.int 0)))) (.bif .len (.cons (.var 0) .nil)))) .nil)))
def bCols (pr nt : Nat) : Stms := (.cons (.ife (.nt (.call pr (.cons (.var 0) (.cons (.glob 4) .nil)))) (.cons (.ret (.lit (.bl false))) .nil) .nil) (.cons (.ret (.bif .all (.cons (.lc [1, 2] (.tup [(.name 1), (.name 2)]) (.seq (.var 0)) .nil (.call nt (.cons (.var 2) (.cons (.glob 5) .nil)))) .nil))) .nil))
def bAre (pr co : Nat) : Stms := (.cons (.ife (.nt (.call pr (.cons (.var 0) (.cons (.glob 3) .nil)))) (.cons (.ret (.lit (.bl false))) .nil) .nil) (.cons (.ret (.bif .all (.cons (.lc [1, 2] (.tup [(.name 1), (.name 2)]) (.seq (.var 0)) .nil (.call co (.cons (.var 2) .nil))) .nil))) .nil))
section
variable {P : Prg} {k i : Nat} {S : Store}
theorem wp_all_true {n r : Nat} {l : List D} {Q : D → Store → Prop} (hr : S[r]? = some (.lst l)) (hl : ∀ d ∈ l, d = .bl true) (q : Q (.bl true) S) : wp (bifR .all [.ref r]) S Q := by
  have key : ∀ l : List D, (∀ d ∈ l, d = .bl true) → ∃ bs : List Bool, (l.mapM fun d => match d with | .bl b => some b | _ => none) = some bs ∧ bs.all id = true := by
    intro l
    induction l with
    | nil => exact fun _ => ⟨[], rfl, rfl⟩
    | cons d l ih =>
      intro h
      obtain ⟨bs, h1, h2⟩ := ih fun e he => h e (by simp [he])
      have := h d (by simp)
      subst this
      refine ⟨true :: bs, ?_, by simpa using h2⟩
      rw [List.mapM_cons, h1]
      rfl
  obtain ⟨bs, h1, h2⟩ := key l hl
  refine wp_bnd.mpr ((wp_lst hr).mpr (wp_bnd.mpr ?_))
  refine ⟨bs, S, ?_, wp_ret.mpr (by rw [h2]; exact q)⟩
  show lft (l.mapM fun d => match d with | .bl b => some b | _ => none) S = _
  rw [h1]
  rfl
structure GN (P : Prg) : Prop where
  g0 : (P.globs[0]?).join = some (.str abcL)
  g1 : (P.globs[1]?).join = some (.int 6)
  g2 : (P.globs[2]?).join = some (.tup (keptL.map D.str))
  g3 : (P.globs[3]?).join = some (.int 3)
  g4 : (P.globs[4]?).join = some (.int 3)
  g5 : (P.globs[5]?).join = some (.int 5)
end
end VM
namespace VM
open PySem
end VM
namespace VM
open PySem
def bRefuse (ar : Nat) : Stms := (.cons (.ife (.nt (.call ar (.cons (.var 0) .nil))) (.cons (.raise 1) .nil) .nil) .nil)
/-- where the defs of the sources' module stand -/
structure SrcAt (P : Prg) (ar pr co nt wh nmI rf : Nat) : Prop where
  g : GN P
  hAr : P.fns[ar]? = some ⟨1, 3, bAre pr co⟩
  hCo : P.fns[co]? = some ⟨1, 3, bCols pr nt⟩
  hPr : P.fns[pr]? = some ⟨2, 3, bPairs nmI⟩
  hNm : P.fns[nmI]? = some ⟨1, 2, bName⟩
  hNt : P.fns[nt]? = some ⟨2, 2, bNumTo wh⟩
  hWh : P.fns[wh]? = some ⟨1, 1, bWhole⟩
  hRf : P.fns[rf]? = some ⟨1, 1, bRefuse ar⟩
def allR : List Nat → List (List Nat)
  | [] => [[]]
  | t :: ts => (List.range (t + 1)).flatMap fun n => (allR ts).map (n :: ·)
def rD (r : List Nat) : D := .tup (r.map fun (n : Nat) => D.int n)
end VM
namespace VM
open PySem
end VM
namespace VM
open PySem
end VM
namespace VM
open PySem
theorem get_lt {S : Store} {n : Nat} {o : Obj} (h : S[n]? = some o) : n < S.length := (List.getElem?_eq_some_iff.mp h).1
structure Kp (S S' : Store) : Prop where
  len : S.length ≤ S'.length
  get : ∀ (j : Nat) (o : Obj), S[j]? = some o → S'[j]? = some o
theorem Kp.le {S S' : Store} (h : Le S S') : Kp S S' := ⟨by obtain ⟨X, rfl⟩ := h; simp, fun _ _ e => h.get e⟩
theorem Kp.trans {S1 S2 S3 : Store} (a : Kp S1 S2) (b : Kp S2 S3) : Kp S1 S3 := ⟨Nat.le_trans a.len b.len, fun j o e => b.get j o (a.get j o e)⟩
theorem Kp.set {S T : Store} (a : Kp S T) {n : Nat} {o : Obj} (h : S.length ≤ n) : Kp S (T.set n o) := ⟨by rw [List.length_set]; exact a.len, fun j o' e => get_ne (a.get j o' e) (by have := get_lt e; omega)⟩
end VM
namespace VM
open PySem
mutual
def strsOk : PyData → Bool
  | .str x => (PyData.str x).canLay0 && decide (x.cps.size ≤ 1000)
  | .list l => strsOkA l
  | .tuple l => strsOkA l
  | _ => true
def strsOkA : List PyData → Bool
  | [] => true
  | d :: r => strsOk d && strsOkA r
end
/-- may be shown: of leaves of at most 40 signs; f: without dicts, else without lists -/
structure NR (d : PyData) (a b : Nat) (f : Bool) : Prop where
  sh : d.leavesShort 40 = true
  st : strsOk d = true
  show_ : d.showable = true
  fl : (if f then d.hasDict else hasLst d) = false
  dep : d.depth ≤ a
  wt : d.weight ≤ b
structure NRL (ds : List PyData) (a b : Nat) (f : Bool) : Prop where
  sh : PyData.leavesShortAll 40 ds = true
  st : strsOkA ds = true
  show_ : PyData.showableAll ds = true
  fl : (if f then PyData.hasDictAll ds else hasLstA ds) = false
  dep : PyData.depthAll ds ≤ a
  wt : PyData.weightAll ds ≤ b
theorem NRL.nil {a : Nat} {f : Bool} : NRL [] a 0 f := ⟨rfl, rfl, rfl, by cases f <;> rfl, Nat.zero_le _, Nat.le_refl _⟩
theorem NRL.cons {d : PyData} {ds : List PyData} {a b c : Nat} {f : Bool} (h : NR d a b f) (t : NRL ds a c f) : NRL (d :: ds) a (b + 1 + c) f := by
  refine ⟨?_, ?_, ?_, ?_, ?_, ?_⟩
  · show (d.leavesShort 40 && PyData.leavesShortAll 40 ds) = true
    rw [h.sh, t.sh]; rfl
  · show (strsOk d && strsOkA ds) = true
    rw [h.st, t.st]; rfl
  · show (d.showable && PyData.showableAll ds) = true
    rw [h.show_, t.show_]; rfl
  · have h1 := h.fl
    have h2 := t.fl
    cases f with
    | true =>
      rw [if_pos rfl] at h1 h2 ⊢
      show (d.hasDict || PyData.hasDictAll ds) = false
      rw [h1, h2]; rfl
    | false =>
      rw [if_neg (by decide)] at h1 h2 ⊢
      show (hasLst d || hasLstA ds) = false
      rw [h1, h2]; rfl
  · exact Nat.max_le.mpr ⟨h.dep, t.dep⟩
  · have := h.wt
    have := t.wt
    show d.weight + 1 + PyData.weightAll ds ≤ _
    omega
theorem NRL.map {α : Type} {g : α → PyData} {a b : Nat} {f : Bool} : ∀ {l : List α}, (∀ x ∈ l, NR (g x) a b f) → NRL (l.map g) a (l.length * (b + 1)) f
  | [], _ => by
    have : NRL ([] : List PyData) a 0 f := NRL.nil
    exact ⟨this.sh, this.st, this.show_, this.fl, this.dep, Nat.zero_le _⟩
  | x :: l, h => by
    have z := NRL.cons (h x (by simp)) (NRL.map (l := l) (g := g) fun y hy => h y (by simp [hy]))
    exact ⟨z.sh, z.st, z.show_, z.fl, z.dep, Nat.le_trans z.wt (by rw [List.length_cons, Nat.add_mul]; omega)⟩
theorem NRL.tup {ds : List PyData} {a b : Nat} {f : Bool} (h : NRL ds a b f) : NR (.tuple ds) (a + 1) b f := ⟨h.sh, h.st, h.show_, h.fl, Nat.succ_le_succ h.dep, h.wt⟩
theorem NRL.list {ds : List PyData} {a b : Nat} (h : NRL ds a b true) : NR (.list ds) (a + 1) b true := ⟨h.sh, h.st, h.show_, h.fl, Nat.succ_le_succ h.dep, h.wt⟩
theorem NR.mono {d : PyData} {a b a' b' : Nat} {f : Bool} (h : NR d a b f) (ha : a ≤ a') (hb : b ≤ b') : NR d a' b' f := ⟨h.sh, h.st, h.show_, h.fl, Nat.le_trans h.dep ha, Nat.le_trans h.wt hb⟩
def Th (S : Store) (m : Nat) (d : D) (b : Nat) (f : Bool) : Prop := ∃ p, deepR S m d = some p ∧ NR p m b f
section
variable {S S' : Store} {m b : Nat} {f : Bool}
theorem Th.mono {d : D} {b' : Nat} (h : Th S m d b f) (hb : b ≤ b') : Th S m d b' f := let ⟨p, h1, h2⟩ := h; ⟨p, h1, h2.mono (Nat.le_refl _) hb⟩
theorem int_len {i : Int} (h : i.natAbs < 10 ^ 24) : (PyData.shown (.int i)).length ≤ 40 := by
  have e := int_text_length_le10 (k := 24) (by decide) h
  show (Str.ofString (toString i)).length ≤ 40
  rw [PySem.ofString_length]
  omega
theorem th_int {i : Int} (h : i.natAbs < 10 ^ 24) : Th S (m + 1) (.int i) 90 f := by
  have h1 : i.natAbs.log2 < 80 := by
    by_cases hz : i.natAbs = 0
    · rw [hz]; decide
    · exact (Nat.log2_lt hz).mpr (Nat.lt_of_lt_of_le h (by decide))
  refine ⟨.int i, rfl, decide_eq_true (int_len h), rfl, decide_eq_true (by omega), by cases f <;> rfl, Nat.zero_le _, ?_⟩
  show (if i == 0 then 0 else i.natAbs.log2 + 1) ≤ 90
  split <;> omega
theorem th_str {w : List Nat} (h : w.all (· < 0x110000) = true) (hl : w.length ≤ 10) : Th S (m + 1) (.str w) 10 f := by
  refine ⟨.str ⟨w.toArray⟩, rfl, ?_, ?_, rfl, by cases f <;> rfl, Nat.zero_le _, ?_⟩
  · show (w.toArray.toList.all fun c => decide (c < 16 ^ 8)) = true
    rw [List.all_eq_true] at h ⊢
    intro c hc
    have := of_decide_eq_true (h c (by simpa using hc))
    exact decide_eq_true (by omega)
  · show (w.toArray.all (· < 0x110000) && decide (w.toArray.size ≤ 1000)) = true
    rw [Bool.and_eq_true]
    exact ⟨by simpa using h, decide_eq_true (by simp; omega)⟩
  · show w.toArray.size ≤ 10
    simpa using hl
theorem th_all {l : List D} (h : ∀ d ∈ l, Th S m d b f) : ∃ ps, l.mapM (deepR S m) = some ps ∧ NRL ps m (l.length * (b + 1)) f := by
  induction l with
  | nil => exact ⟨[], rfl, (NRL.map (l := ([] : List Nat)) (g := fun _ => PyData.none) fun _ h => by cases h)⟩
  | cons d l ih =>
    obtain ⟨p, h1, h2⟩ := h d (by simp)
    obtain ⟨ps, h3, h4⟩ := ih fun x hx => h x (by simp [hx])
    refine ⟨p :: ps, ?_, ?_⟩
    · rw [List.mapM_cons, h1, h3]
      rfl
    · have z := NRL.cons h2 h4
      exact ⟨z.sh, z.st, z.show_, z.fl, z.dep, Nat.le_trans z.wt (by rw [List.length_cons, Nat.add_mul]; omega)⟩
theorem th_tup {l : List D} (h : ∀ d ∈ l, Th S m d b f) : Th S (m + 1) (.tup l) (l.length * (b + 1)) f := by
  obtain ⟨ps, h1, h2⟩ := th_all h
  refine ⟨.tuple ps, ?_, h2.tup⟩
  show (l.mapM (deepR S m)).map PyData.tuple = _
  rw [h1]
  rfl
/-- it stays as long as what it is made of stays -/
theorem deepR_keep (h : ∀ (a : Nat) (o : Obj), S[a]? = some o → (∀ kvs, o = .dk kvs → kvs = []) → S'[a]? = some o) : ∀ (n : Nat) (d : D) (p : PyData), deepR S n d = some p → deepR S' n d = some p
  | 0, _, _, e => by cases e
  | n + 1, d, p, e => by
    cases d with
    | tup l =>
      have e : (l.mapM (deepR S n)).map PyData.tuple = some p := e
      show (l.mapM (deepR S' n)).map PyData.tuple = some p
      cases q : l.mapM (deepR S n) with
      | none => rw [q] at e; cases e
      | some ps => rw [q] at e; rw [mapM_mono (deepR_keep h n) q]; exact e
    | ref a =>
      have e : (match S[a]? with
        | some (.lst l) => (l.mapM (deepR S n)).map PyData.list
        | some (.ro l) => (l.mapM (deepR S n)).map PyData.list
        | some (.dk []) => some (.dict [])
        | _ => none) = some p := e
      show (match S'[a]? with
        | some (.lst l) => (l.mapM (deepR S' n)).map PyData.list
        | some (.ro l) => (l.mapM (deepR S' n)).map PyData.list
        | some (.dk []) => some (.dict [])
        | _ => none) = some p
      cases q : S[a]? with
      | none => rw [q] at e; cases e
      | some o =>
        rw [q] at e
        cases o with
        | lst l =>
          rw [h a _ q (fun _ z => by cases z)]
          dsimp only at e ⊢
          cases q : l.mapM (deepR S n) with
          | none => rw [q] at e; cases e
          | some ps => rw [q] at e; rw [mapM_mono (deepR_keep h n) q]; exact e
        | ro l =>
          rw [h a _ q (fun _ z => by cases z)]
          dsimp only at e ⊢
          cases q : l.mapM (deepR S n) with
          | none => rw [q] at e; cases e
          | some ps => rw [q] at e; rw [mapM_mono (deepR_keep h n) q]; exact e
        | dk kvs =>
          cases kvs with
          | nil => rw [h a _ q (fun _ z => by cases z; rfl)]; exact e
          | cons _ _ => cases e
        | fk kvs => cases e
        | ins q c fs => cases e
        | nd _ => cases e
        | nf _ => cases e
    | _ => exact e
theorem Th.keep {d : D} (t : Th S m d b f) (h : ∀ (a : Nat) (o : Obj), S[a]? = some o → (∀ kvs, o = .dk kvs → kvs = []) → S'[a]? = some o) : Th S' m d b f := let ⟨p, h1, h2⟩ := t; ⟨p, deepR_keep h _ _ _ h1, h2⟩
theorem Th.le {d : D} (t : Th S m d b f) (h : Le S S') : Th S' m d b f := t.keep fun _ _ e _ => h.get e
theorem Th.fr {d : D} {n : Nat} (t : Th S m d b f) (st : St S n) (h : Fr n S S') : Th S' m d b f := t.keep fun a o e k => h.get a o (fun z => by
  subst z
  obtain ⟨c, xs, a', r, m', o', s⟩ := st
  rw [s.ob] at e
  cases e
  have := k _ rfl
  cases this) e
def Sk (S : Store) (m : Nat) (d : D) : Prop := ∃ p, deepR S m d = some p ∧ strsOk p = true
theorem Sk.le {d : D} (t : Sk S m d) (h : Le S S') : Sk S' m d := let ⟨p, h1, h2⟩ := t; ⟨p, deepR_keep (fun _ _ e _ => h.get e) _ _ _ h1, h2⟩
theorem sk_all {g : D → Option PyData} : ∀ {l : List D} {ps : List PyData}, l.mapM g = some ps → strsOkA ps = true → ∀ d ∈ l, ∃ p, g d = some p ∧ strsOk p = true
  | [], _, _, _, d, h => by cases h
  | x :: l, ps, e, k, d, h => by
    rw [List.mapM_cons] at e
    cases q : g x with
    | none => rw [q] at e; cases e
    | some p =>
      rw [q] at e
      cases q2 : l.mapM g with
      | none => simp [q2] at e
      | some r2 =>
        simp [q2] at e
        subst e
        rw [strsOkA, Bool.and_eq_true] at k
        rcases List.mem_cons.mp h with rfl | h
        · exact ⟨p, q, k.1⟩
        · exact sk_all q2 k.2 d h
theorem Sk.tup {l : List D} (t : Sk S (m + 1) (.tup l)) : ∀ d ∈ l, Sk S m d := by
  obtain ⟨p, h1, h2⟩ := t
  have h1 : (l.mapM (deepR S m)).map PyData.tuple = some p := h1
  cases q : l.mapM (deepR S m) with
  | none => rw [q] at h1; cases h1
  | some ps =>
    rw [q] at h1
    cases h1
    exact sk_all q h2
theorem Sk.str {w : List Nat} (t : Sk S (m + 1) (.str w)) : (pS w).canLay0 = true := by
  obtain ⟨p, h1, h2⟩ := t
  cases h1
  exact (and2 h2).1
/-- isinstance: 0 int, 1 bool, 2 str, 3 tuple, else another -/
theorem Sk.ty {d : D} (t : Sk S m d) : ∃ k, tyN S d = some k := by
  obtain ⟨p, h1, h2⟩ := t
  cases m with
  | zero => cases h1
  | succ m =>
    cases d with
    | ref a =>
      have e : (match S[a]? with
        | some (.lst l) => (l.mapM (deepR S m)).map PyData.list
        | some (.ro l) => (l.mapM (deepR S m)).map PyData.list
        | some (.dk []) => some (.dict [])
        | _ => none) = some p := h1
      show ∃ k, (match S[a]? with
        | some (.lst _) => some 4
        | some (.ro _) => some 4
        | some (.dk _) => some 5
        | some (.fk _) => none
        | some (.ins _ _ _) => none
        | some (.nd _) => some 5
        | some (.nf _) => none
        | none => none) = some k
      cases q : S[a]? with
      | none => rw [q] at e; cases e
      | some o => cases o <;> first | exact ⟨_, rfl⟩ | (rw [q] at e; cases e)
    | exc c => cases h1
    | kl l => cases h1
    | fn i a => cases h1
    | _ => exact ⟨_, rfl⟩
end
def numB : D → Nat → Bool
  | .int z, t => decide (0 ≤ z) && decide (z ≤ t)
  | _, _ => false
def rowB (fs : List FieldP) : D → Bool
  | .tup l => decide (l.length = fs.length) && (l.zip fs).all fun p => numB p.1 p.2.2
  | _ => false
section
variable {P : Prg} {k i : Nat} {S : Store}
theorem wp_ne_int {i j : Int} {Q : D → Store → Prop} (q : Q (.bl (!decide (i = j))) S) : wp (opC .ne (.int i) (.int j)) S Q := by
  show wp (bnd (two (.int i) (.int j)) fun p => ret (.bl (!PyData.eqv p.1 p.2))) S Q
  rw [wp_bnd, wp_two (p := .int i) (q := .int j) rfl rfl rfl rfl, wp_ret]
  have : PyData.eqv (.int i) (.int j) = decide (i = j) := by
    by_cases h : i = j
    · subst h; simp [PyData.eqv]
    · simp [PyData.eqv, h]
  rw [this]
  exact q
/-- the tops of columns -/
def topsD (fs : List FieldP) : List D := fs.map fun f => .int f.2
end
end VM
namespace VM
open PySem
theorem eNeg {C : Ctl} {ρ : Env} {S : Store} {Q : D → Store → Prop} {a : Exp} (h : wp (evE C a ρ) S fun x S' => ∃ i : Int, x = .int i ∧ Q (.int (-i)) S') : wp (evE C (.neg a) ρ) S Q := wp_bnd.mpr (wp_imp h fun x S' z => by
  obtain ⟨i, rfl, q⟩ := z
  exact wp_ret.mpr q)
theorem eDct0 {C : Ctl} {ρ : Env} {S : Store} {Q : D → Store → Prop} (q : Q (.ref S.length) (S ++ [.dk []])) : wp (evE C .dct0 ρ) S Q := wp_new.mpr q
section
variable {P : Prg} {k i t n : Nat} {S : Store}
/-- a row of numbers within the tops -/
structure RowIn (fs : List FieldP) (row : List Nat) : Prop where
  len : row.length = fs.length
  le : ∀ (a v : Nat) (g : FieldP), row[a]? = some v → fs[a]? = some g → v ≤ g.2
theorem RowIn.b {fs : List FieldP} {row : List Nat} (h : RowIn fs row) : rowB fs (rD row) = true := by
  show (decide ((row.map fun (n : Nat) => D.int n).length = fs.length) && _) = true
  rw [decide_eq_true (by rw [List.length_map]; exact h.len), Bool.true_and, List.all_eq_true]
  rintro ⟨x, g⟩ hx
  obtain ⟨a, ha⟩ := List.mem_iff_getElem?.mp hx
  obtain ⟨h1, h2⟩ := List.getElem?_zip_eq_some.mp ha
  rw [List.getElem?_map] at h1
  cases e : row[a]? with
  | none => rw [e] at h1; cases h1
  | some v =>
    rw [e] at h1
    cases h1
    have := h.le a v g e h2
    show (decide ((0 : Int) ≤ (v : Int)) && decide ((v : Int) ≤ (g.2 : Int))) = true
    rw [decide_eq_true (by omega), decide_eq_true (by omega)]
    rfl
end
end VM
namespace VM
open PySem
/-- a thing that is tried -/
def OT (S : Store) (m : Nat) (d : D) : Prop := ∃ f, Th S m d 5000 f
theorem OT.fr {S S' : Store} {m n : Nat} {d : D} (h : OT S m d) (st : St S n) (f : Fr n S S') : OT S' m d := let ⟨g, t⟩ := h; ⟨g, t.fr st f⟩
end VM
namespace VM
open PySem
section
variable {P : Prg} {k i m ar pr co nt wh nmI rf lf lo to ir : Nat} {S : Store}
/-- the dict of the tops, each list of them at its place -/
def topsK (l : List SrcP) (ns : List Nat) : List (Key × D) := (l.zip ns).map fun p => (.inr p.1.1, .ref p.2)
/-- what is asked of sources, looked at once -/
structure Tops (S : Store) (l : List SrcP) (r : Nat) : Prop where
  ex : ∃ ns : List Nat, ns.length = l.length ∧ S[r]? = some (.dk (topsK l ns)) ∧ ∀ (a : Nat) (s : SrcP) (n : Nat), l[a]? = some s → ns[a]? = some n → S[n]? = some (.lst (topsD s.2))
theorem Tops.le {S S' : Store} {l : List SrcP} {r : Nat} (h : Tops S l r) (e : Le S S') : Tops S' l r := by
  obtain ⟨ns, h1, h2, h3⟩ := h
  exact ⟨ns, h1, e.get h2, fun a s n g1 g2 => e.get (h3 a s n g1 g2)⟩
end
end VM
namespace VM
open PySem
def pI (r : List Int) : PyData := .tuple (r.map PyData.int)
end VM
namespace VM
open PySem
section
variable {C : Ctl} {ρ : Env} {S : Store} {Q : D → Store → Prop}
theorem nice_bl (b : Bool) : Nice (.bool b) 0 1 := by cases b <;> exact ⟨rfl, rfl, rfl, rfl, by decide, by decide⟩
end
/-- the rows of each source at its name -/
def Known (S : Store) (l : List SrcP) (kvs : List (Key × D)) : Prop := Paired (fun (s : SrcP) (kv : Key × D) => ∃ r, kv = (.inr s.1, .ref r) ∧ S[r]? = some (.lst ((allR (s.2.map (·.2))).map rD))) l kvs
theorem Known.imp {S S' : Store} {l : List SrcP} {kvs : List (Key × D)} (h : Known S l kvs) (f : ∀ (r : Nat) (x : List D), S[r]? = some (.lst x) → S'[r]? = some (.lst x)) : Known S' l kvs := L2.Paired.mapP h fun _ _ ⟨r, e, hr⟩ => ⟨r, e, f _ _ hr⟩
theorem Known.keys {S : Store} : ∀ {l : List SrcP} {kvs : List (Key × D)}, Known S l kvs → kvs.map (·.1) = (l.map (·.1)).map (fun w => (.inr w : Key))
  | _, _, .nil => rfl
  | _, _, .cons ⟨r, e, _⟩ t => by
    rw [List.map_cons, List.map_cons, List.map_cons, Known.keys t, e]
theorem Known.at_ {S : Store} : ∀ {l : List SrcP} {kvs : List (Key × D)} {i : Nat} {kv : Key × D}, Known S l kvs → kvs[i]? = some kv → ∃ s ∈ l, ∃ r, kv = (.inr s.1, .ref r) ∧ S[r]? = some (.lst ((allR (s.2.map (·.2))).map rD))
  | _, _, _, _, .nil, h => by simp at h
  | s :: l, _, 0, _, .cons h t, e => by simp at e; subst e; exact ⟨s, by simp, h⟩
  | s :: l, _, i + 1, kv, .cons h t, e => by
    obtain ⟨s', hs, r⟩ := Known.at_ (i := i) (kv := kv) t (by simpa using e)
    exact ⟨s', by simp [hs], r⟩
theorem Known.pairs {S : Store} : ∀ {l : List SrcP} {kvs : List (Key × D)}, Known S l kvs → (kvs.map fun kv => D.tup [kD kv.1, kv.2]).mapM pairD = some kvs
  | _, _, .nil => rfl
  | _, _, .cons ⟨r, e, _⟩ t => by
    rw [List.map_cons, List.mapM_cons, Known.pairs t, e]
    rfl
end VM
namespace VM
open PySem
theorem wp_neBl {b : Bool} {S : Store} {Q : D → Store → Prop} (q : Q (.bl false) S) : wp (opC .ne (.bl b) (.bl b)) S Q := wp_neS (p := .bool b) rfl rfl (nice_bl b) (by decide) q
end VM
namespace VM
open PySem
abbrev wColumn : List Nat := [99, 111, 108, 117, 109, 110]
abbrev wNumber : List Nat := [110, 117, 109, 98, 101, 114]
abbrev wSum : List Nat := [115, 117, 109]
abbrev wLess : List Nat := [108, 101, 115, 115]
abbrev wLeast : List Nat := [108, 101, 97, 115, 116]
abbrev wMost : List Nat := [109, 111, 115, 116]
abbrev wYes : List Nat := [121, 101, 115]
abbrev wIs : List Nat := [105, 115]
abbrev wBelow : List Nat := [98, 101, 108, 111, 119]
abbrev wAll : List Nat := [97, 108, 108]
abbrev wAny : List Nat := [97, 110, 121]
abbrev wNot : List Nat := [110, 111, 116]
abbrev wReckoning : List Nat := [114, 101, 99, 107, 111, 110, 105, 110, 103]
abbrev wCondition : List Nat := [99, 111, 110, 100, 105, 116, 105, 111, 110]
def bWorth (pt tw : Nat) : Stms := (.cons (.asg (.name 3) (.dzip (.var 1) (.var 2))) (.cons (.asg (.name 4) (.lst .nil)) (.cons (.loop (.name 5) (.revl (.call tw (.cons (.var 0) .nil))) (.cons (.asg (.name 6) (.idx (.var 5) (.lit (.int 0)))) (.cons (.ife (.cmp .eq (.var 6) (.lit (.str [99, 111, 108, 117, 109, 110]))) (.cons (.expr (.mth .append (.var 4) (.cons (.idx (.var 3) (.idx (.var 5) (.lit (.int 1)))) .nil))) .nil) (.cons (.ife (.cmp .eq (.var 6) (.lit (.str [110, 117, 109, 98, 101, 114]))) (.cons (.expr (.mth .append (.var 4) (.cons (.idx (.var 5) (.lit (.int 1))) .nil))) .nil) (.cons (.ife (.cmp .eq (.var 6) (.lit (.str [121, 101, 115]))) (.cons (.expr (.mth .append (.var 4) (.cons (.lit (.bl true)) .nil))) .nil) (.cons (.ife (.cmp .eq (.var 6) (.lit (.str [110, 111, 116]))) (.cons (.expr (.mth .append (.var 4) (.cons (.nt (.mth .pop (.var 4) .nil)) .nil))) .nil) (.cons (.asg (.name 7) (.mth .pop (.var 4) .nil)) (.cons (.expr (.mth .append (.var 4) (.cons (.call pt (.cons (.var 6) (.cons (.mth .pop (.var 4) .nil) (.cons (.var 7) .nil)))) .nil))) .nil))) .nil)) .nil)) .nil)) .nil))) (.cons (.ret (.idx (.var 4) (.lit (.int 0)))) .nil))))
def bTerm (hd : Nat) : Stms := (.cons (.asg (.name 3) (.lst (.cons (.tup (.cons (.var 0) (.cons (.var 1) .nil))) .nil))) (.cons (.whil (.var 3) (.cons (.asg (.tup [(.name 4), (.name 5)]) (.mth .pop (.var 3) .nil)) (.cons (.ife (.nt (.call hd (.cons (.var 4) (.cons (.var 5) (.cons (.var 2) .nil))))) (.cons (.ret (.lit (.bl false))) .nil) .nil) (.cons (.expr (.mth .extend (.var 3) (.cons (.lzip (.sl (.var 4) (.at_ (.lit (.int 1))) .no) (.kidx [75, 73, 78, 68, 83, 95, 87, 73, 84, 72, 73, 78] (.idx (.var 4) (.lit (.int 0))))) .nil))) .nil)))) (.cons (.ret (.lit (.bl true))) .nil)))
def bHeaded (wh : Nat) : Stms := (.cons (.ife (.or (.nt (.isi (.var 0) 3)) (.cmp .eq (.bif .len (.cons (.var 0) .nil)) (.lit (.int 0)))) (.cons (.ret (.lit (.bl false))) .nil) .nil) (.cons (.asg (.name 3) (.idx (.var 0) (.lit (.int 0)))) (.cons (.ife (.or (.nt (.isi (.var 3) 2)) (.cmp .ne (.kget [75, 73, 78, 68, 83] (.var 3)) (.var 1))) (.cons (.ret (.lit (.bl false))) .nil) .nil) (.cons (.ife (.cmp .eq (.var 3) (.lit (.str [99, 111, 108, 117, 109, 110]))) (.cons (.ret (.and (.cmp .eq (.bif .len (.cons (.var 0) .nil)) (.lit (.int 2))) (.and (.isi (.idx (.var 0) (.lit (.int 1))) 2) (.cmp .isin (.idx (.var 0) (.lit (.int 1))) (.var 2))))) .nil) .nil) (.cons (.ife (.cmp .eq (.var 3) (.lit (.str [110, 117, 109, 98, 101, 114]))) (.cons (.ret (.and (.cmp .eq (.bif .len (.cons (.var 0) .nil)) (.lit (.int 2))) (.call wh (.cons (.idx (.var 0) (.lit (.int 1))) .nil)))) .nil) .nil) (.cons (.ret (.cmp .eq (.bif .len (.cons (.var 0) .nil)) (.bin .add (.bif .len (.cons (.kidx [75, 73, 78, 68, 83, 95, 87, 73, 84, 72, 73, 78] (.var 3)) .nil)) (.lit (.int 1))))) .nil))))))
def bWithin : Stms := (.cons (.asg (.name 1) (.lst .nil)) (.cons (.asg (.name 2) (.lst (.cons (.var 0) .nil))) (.cons (.whil (.var 2) (.cons (.asg (.name 3) (.mth .pop (.var 2) .nil)) (.cons (.expr (.mth .append (.var 1) (.cons (.var 3) .nil))) (.cons (.ife (.kidx [75, 73, 78, 68, 83, 95, 87, 73, 84, 72, 73, 78] (.idx (.var 3) (.lit (.int 0)))) (.cons (.expr (.mth .extend (.var 2) (.cons (.sl (.var 3) (.at_ (.lit (.int 1))) .no) .nil))) .nil) .nil) .nil)))) (.cons (.ret (.var 1)) .nil))))
def bTogether : Stms := (.cons (.ife (.cmp .eq (.var 0) (.lit (.str [115, 117, 109]))) (.cons (.ret (.bin .add (.var 1) (.var 2))) .nil) .nil) (.cons (.ife (.cmp .eq (.var 0) (.lit (.str [108, 101, 115, 115]))) (.cons (.ret (.bin .sub (.var 1) (.var 2))) .nil) .nil) (.cons (.ife (.cmp .eq (.var 0) (.lit (.str [108, 101, 97, 115, 116]))) (.cons (.ret (.mn (.var 1) (.var 2))) .nil) .nil) (.cons (.ife (.cmp .eq (.var 0) (.lit (.str [109, 111, 115, 116]))) (.cons (.ret (.mx (.var 1) (.var 2))) .nil) .nil) (.cons (.ife (.cmp .eq (.var 0) (.lit (.str [105, 115]))) (.cons (.ret (.cmp .eq (.var 1) (.var 2))) .nil) .nil) (.cons (.ife (.cmp .eq (.var 0) (.lit (.str [98, 101, 108, 111, 119]))) (.cons (.ret (.cmp .lt (.var 1) (.var 2))) .nil) .nil) (.cons (.ife (.cmp .eq (.var 0) (.lit (.str [97, 108, 108]))) (.cons (.ret (.and (.var 1) (.var 2))) .nil) .nil) (.cons (.ret (.or (.var 1) (.var 2))) .nil))))))))
def kW : Bool → List Nat
  | true => wReckoning
  | false => wCondition
def nKinds : List Nat := [75, 73, 78, 68, 83]
def nWithin : List Nat := [75, 73, 78, 68, 83, 95, 87, 73, 84, 72, 73, 78]
def tabL : List (List Nat × Bool × List Bool) := [(wColumn, true, []), (wNumber, true, []), (wSum, true, [true, true]), (wLess, true, [true, true]), (wLeast, true, [true, true]), (wMost, true, [true, true]), (wYes, false, []), (wIs, false, [true, true]), (wBelow, false, [true, true]), (wAll, false, [false, false]), (wAny, false, [false, false]), (wNot, false, [false])]
def tabK : List (List Nat × Bool × List Bool) := [(wColumn, true, []), (wNumber, true, []), (wYes, false, []), (wSum, true, [true, true]), (wLess, true, [true, true]), (wLeast, true, [true, true]), (wMost, true, [true, true]), (wIs, false, [true, true]), (wBelow, false, [true, true]), (wAll, false, [false, false]), (wAny, false, [false, false]), (wNot, false, [false])]
def kdK : List (Key × D) := tabL.map fun e => (.inr e.1, .str (kW e.2.1))
def kdW : List (Key × D) := tabK.map fun e => (.inr e.1, .tup (e.2.2.map fun b => .str (kW b)))
/-- a word's kind, and the kinds of what stands in it -/
def tabW (w : List Nat) : Option (Bool × List Bool) := (tabL.find? fun e => decide (e.1 = w)).map (·.2)
def colM (cols : List (List Nat)) : List D → Bool
  | [.str x] => decide (x ∈ cols)
  | _ => false
def numM : List D → Bool
  | [.int _] => true
  | _ => false
/-- a thing's head -/
def headB (cols : List (List Nat)) (d : D) (kd : Bool) : Bool := match d with
  | .tup (.str w :: rest) => match tabW w with
    | some p => (p.1 == kd) && (if w = wColumn then colM cols rest else if w = wNumber then numM rest else decide (rest.length = p.2.length))
    | none => false
  | _ => false
def insW (w : List Nat) : List Bool := match tabW w with
  | some p => p.2
  | none => []
mutual
/-- a thing is a reckoning, or a condition -/
def termB (cols : List (List Nat)) : D → Bool → Bool
  | .tup l, kd => headB cols (.tup l) kd && termL cols l
  | _, _ => false
/-- what stands behind a word -/
def termL (cols : List (List Nat)) : List D → Bool
  | .str w :: rest => termsB cols rest (insW w)
  | _ => true
def termsB (cols : List (List Nat)) : List D → List Bool → Bool
  | d :: l, k :: ks => termB cols d k && termsB cols l ks
  | _, _ => true
end
mutual
def szD : D → Nat
  | .tup l => 1 + szL l
  | _ => 1
def szL : List D → Nat
  | [] => 0
  | d :: l => szD d + szL l
end
end VM
namespace VM
open PySem
theorem wp_whileI {c : Env → M Bool} {b : Env → M Flow} {J : Nat → Env → Store → Prop} {R : Flow → Store → Prop} (hs : ∀ m ρ S, J m ρ S → wp (c ρ) S fun k S1 => if k = true then wp (b ρ) S1 fun fl S2 => match fl with
      | .nx ρ' => ∃ m', m' < m ∧ J m' ρ' S2
      | .ct ρ' => ∃ m', m' < m ∧ J m' ρ' S2
      | .bk ρ' => R (.nx ρ') S2
      | .rt d => R (.rt d) S2
    else R (.nx ρ) S1) : ∀ (f m : Nat) (ρ : Env) (S : Store), m < f → J m ρ S → wp (whileI c b f ρ) S R
  | 0, m, _, _, h, _ => absurd h (Nat.not_lt_zero _)
  | f + 1, m, ρ, S, h, j => by
    refine wp_bnd.mpr (wp_imp (hs m ρ S j) fun k S1 z => ?_)
    cases k with
    | false => exact wp_ret.mpr z
    | true =>
      refine wp_bnd.mpr (wp_imp (show wp (b ρ) S1 _ from z) fun fl S2 z => ?_)
      cases fl with
      | nx ρ' =>
        obtain ⟨m', h1, h2⟩ := z
        exact wp_whileI hs f m' ρ' S2 (by omega) h2
      | ct ρ' =>
        obtain ⟨m', h1, h2⟩ := z
        exact wp_whileI hs f m' ρ' S2 (by omega) h2
      | bk ρ' => exact wp_ret.mpr z
      | rt d => exact wp_ret.mpr z
section
variable {C : Ctl} {ρ : Env} {S : Store} {Q : D → Store → Prop}
theorem sWhil {e : Exp} {b : Stms} {f m : Nat} {J : Nat → Env → Store → Prop} {R : Flow → Store → Prop} (hf : m < f) (j : J m ρ S) (hs : ∀ m ρ S, J m ρ S → wp (evE C e ρ) S fun x S0 => wp (truth x) S0 fun k S1 => if k = true then wp (evSs C f b ρ) S1 fun fl S2 => match fl with
      | .nx ρ' => ∃ m', m' < m ∧ J m' ρ' S2
      | .ct ρ' => ∃ m', m' < m ∧ J m' ρ' S2
      | .bk ρ' => R (.nx ρ') S2
      | .rt d => R (.rt d) S2
    else R (.nx ρ) S1) : wp (evS C f (.whil e b) ρ) S R := wp_whileI (J := J) (fun m ρ S j => wp_bnd.mpr (hs m ρ S j)) f m ρ S hf j
end
/-- the names of columns that may be asked -/
structure Cols (S : Store) (c : Nat) (cols : List (List Nat)) : Prop where
  at_ : S[c]? = some (.lst (cols.map D.str))
  len : cols.length ≤ 16
  nice : ∀ w ∈ cols, Nice (pS w) 0 6
theorem Cols.le {S S' : Store} {c : Nat} {cols : List (List Nat)} (h : Cols S c cols) (e : Le S S') : Cols S' c cols := ⟨e.get h.at_, h.len, h.nice⟩
theorem Cols.shaped {S : Store} {c : Nat} {cols : List (List Nat)} (h : Cols S c cols) : SeqAt.shaped (.list (cols.map pS)) = true := (NiceL.map h.nice).list.shaped (by decide)
theorem Cols.deep {S : Store} {c : Nat} {cols : List (List Nat)} (h : Cols S c cols) : VM.deep S dpt (.ref c) = some (.list (cols.map pS)) := deep_lst (n := 59) h.at_ fun _ _ => rfl
/-- where terms are looked at -/
structure TermAt (P : Prg) (wh hd tm : Nat) : Prop where
  hk : P.kds.lookup nKinds = some kdK
  hw : P.kds.lookup nWithin = some kdW
  hWh : P.fns[wh]? = some ⟨1, 1, bWhole⟩
  hHd : P.fns[hd]? = some ⟨3, 4, bHeaded wh⟩
  hTm : P.fns[tm]? = some ⟨3, 6, bTerm hd⟩
  fu : P.fuel = 1000000
end VM
namespace VM
open PySem
theorem deepR_up {S : Store} : ∀ (m : Nat) (d : D) (p : PyData), deepR S m d = some p → deepR S (m + 1) d = some p
  | 0, _, _, h => by cases h
  | m + 1, d, p, h => by
    cases d with
    | tup l =>
      have h : (l.mapM (deepR S m)).map PyData.tuple = some p := h
      show (l.mapM (deepR S (m + 1))).map PyData.tuple = some p
      cases q : l.mapM (deepR S m) with
      | none => rw [q] at h; cases h
      | some ps =>
        rw [q] at h
        rw [mapM_mono (deepR_up m) q]
        exact h
    | ref a =>
      have h : (match S[a]? with
        | some (.lst l) => (l.mapM (deepR S m)).map PyData.list
        | some (.ro l) => (l.mapM (deepR S m)).map PyData.list
        | some (.dk []) => some (.dict [])
        | _ => none) = some p := h
      show (match S[a]? with
        | some (.lst l) => (l.mapM (deepR S (m + 1))).map PyData.list
        | some (.ro l) => (l.mapM (deepR S (m + 1))).map PyData.list
        | some (.dk []) => some (.dict [])
        | _ => none) = some p
      cases e : S[a]? with
      | none => rw [e] at h; cases h
      | some o =>
        rw [e] at h
        cases o with
        | lst l =>
          dsimp only at h ⊢
          cases q : l.mapM (deepR S m) with
          | none => rw [q] at h; cases h
          | some ps => rw [q] at h; rw [mapM_mono (deepR_up m) q]; exact h
        | ro l =>
          dsimp only at h ⊢
          cases q : l.mapM (deepR S m) with
          | none => rw [q] at h; cases h
          | some ps => rw [q] at h; rw [mapM_mono (deepR_up m) q]; exact h
        | dk kvs => cases kvs <;> first | exact h | cases h
        | fk kvs => cases h
        | ins q c fs => cases h
        | nd _ => cases h
        | nf _ => cases h
    | _ => exact h
theorem Sk.up {S : Store} {m : Nat} {d : D} (h : Sk S m d) : Sk S (m + 1) d := let ⟨p, h1, h2⟩ := h; ⟨p, deepR_up _ _ _ h1, h2⟩
end VM
namespace VM
open PySem
inductive Op where | sum | less | least | most | is | below | all | any
def Op.w : Op → List Nat
  | .sum => wSum | .less => wLess | .least => wLeast | .most => wMost | .is => wIs | .below => wBelow | .all => wAll | .any => wAny
def Op.kin : Op → Bool
  | .all => false | .any => false | _ => true
def Op.kout : Op → Bool
  | .sum => true | .less => true | .least => true | .most => true | _ => false
inductive Tm where
  | col (w : List Nat) | num (k : Int) | yes | nt (c : Tm) | bin (o : Op) (a b : Tm)
def Tm.toD : Tm → D
  | .col w => .tup [.str wColumn, .str w]
  | .num k => .tup [.str wNumber, .int k]
  | .yes => .tup [.str wYes]
  | .nt c => .tup [.str wNot, c.toD]
  | .bin o a b => .tup [.str o.w, a.toD, b.toD]
def Tm.kind : Tm → Bool
  | .col _ => true | .num _ => true | .yes => false | .nt _ => false | .bin o _ _ => o.kout
def Tm.wf (cols : List (List Nat)) : Tm → Bool
  | .col w => decide (w ∈ cols)
  | .num _ => true
  | .yes => true
  | .nt c => c.wf cols && (c.kind == false)
  | .bin o a b => (a.wf cols && (a.kind == o.kin)) && (b.wf cols && (b.kind == o.kin))
def Tm.sz : Tm → Nat
  | .nt c => 1 + c.sz
  | .bin _ a b => 1 + a.sz + b.sz
  | _ => 1
def Tm.dep : Tm → Nat
  | .nt c => 1 + c.dep
  | .bin _ a b => 1 + max a.dep b.dep
  | _ => 1
/-- the parts, as they are found -/
def Tm.pre : Tm → List Tm
  | .nt c => .nt c :: c.pre
  | .bin o a b => .bin o a b :: (b.pre ++ a.pre)
  | t => [t]
theorem op_ne (o : Op) : o.w ≠ wColumn ∧ o.w ≠ wNumber := by cases o <;> decide
section
variable {P : Prg} {k wh hd tm tw pt wo c : Nat} {S : Store}
/-- where terms are worked out -/
structure WorAt (P : Prg) (wh hd tm tw pt wo : Nat) : Prop extends TermAt P wh hd tm where
  hTw : P.fns[tw]? = some ⟨1, 4, bWithin⟩
  hPt : P.fns[pt]? = some ⟨3, 3, bTogether⟩
  hWo : P.fns[wo]? = some ⟨3, 8, bWorth pt tw⟩
variable (A : WorAt P wh hd tm tw pt wo)
include A
end
end VM
namespace VM
open PySem
end VM
namespace VM
open PySem
def colN (w : List Nat) : Bool := decide (1 ≤ w.length) && decide (w.length ≤ 6) && w.all (fun c => decide (97 ≤ c) && decide (c ≤ 122))
theorem colN_len {w : List Nat} (h : colN w = true) : 1 ≤ w.length ∧ w.length ≤ 6 := ⟨of_decide_eq_true (and2 (and2 h).1).1, of_decide_eq_true (and2 (and2 h).1).2⟩
theorem colN_let {w : List Nat} (h : colN w = true) : ∀ c ∈ w, 97 ≤ c ∧ c ≤ 122 := fun c hc => by
  have := List.all_eq_true.mp (and2 h).2 c hc
  rw [Bool.and_eq_true, decide_eq_true_eq, decide_eq_true_eq] at this
  exact this
theorem nice_colN {w : List Nat} (h : colN w = true) : Nice (pS w) 0 6 := by
  refine ⟨?_, rfl, rfl, rfl, Nat.le_refl _, ?_⟩
  · show (w.toArray.all (· < 0x110000)) = true
    rw [Array.all_eq_true_iff_forall_mem]
    intro x hx
    have := colN_let h x (by simpa using hx)
    exact decide_eq_true (by omega)
  · have := colN_len h
    show w.toArray.size ≤ 6
    simp
    omega
theorem th_colN {w : List Nat} (h : colN w = true) {S : Store} {m : Nat} {f : Bool} : Th S (m + 1) (.str w) 10 f := by
  refine th_str ?_ (by have := colN_len h; omega)
  rw [List.all_eq_true]
  intro c hc
  have := colN_let h c hc
  exact decide_eq_true (by omega)
def wBegin : List Nat := [98, 101, 103, 105, 110]
def wMany : List Nat := [109, 97, 110, 121]
def wBehind : List Nat := [98, 101, 104, 105, 110, 100]
structure GoodC (cols : List (List Nat)) : Prop where
  nd : cols.Nodup
  len : cols.length ≤ 5
  nm : ∀ w ∈ cols, colN w = true
  kp : ∀ w ∈ cols, goodN w = true ∨ w = wBegin ∨ w = wMany ∨ w = wBehind
theorem GoodC.at_ {cols : List (List Nat)} (h : GoodC cols) {S : Store} {c : Nat} (hc : S[c]? = some (.lst (cols.map D.str))) : Cols S c cols := ⟨hc, by have := h.len; omega, fun w hw => nice_colN (h.nm w hw)⟩
theorem St.mk_ext {S S' : Store} {n : Nat} (st : St S n) (l : Le S S') : St S' n := let ⟨c, xs, a, r, m, o, s⟩ := st; ⟨c, xs, a, r, m, o, s.ext l⟩
theorem St.add {S : Store} {n : Nat} (st : St S n) (o : Obj) : St (S ++ [o]) n := st.mk_ext (Le.new _ _)
end VM
namespace VM
open PySem
end VM
namespace VM
open PySem
/-- trees of tuples of at most three, of names and small numbers -/
inductive Tr : Nat → D → Prop
  | str {h : Nat} {w : List Nat} : colN w = true → Tr h (.str w)
  | int {h : Nat} {n : Int} : n.natAbs ≤ 20 → Tr h (.int n)
  | tup {h : Nat} {l : List D} : l.length ≤ 3 → (∀ c ∈ l, Tr h c) → Tr (h + 1) (.tup l)
theorem Tr.up : ∀ {h : Nat} {d : D}, Tr h d → Tr (h + 1) d
  | _, _, .str w => .str w
  | _, _, .int n => .int n
  | _, _, .tup hl hc => .tup hl fun c h => (hc c h).up
theorem Tr.le {h h' : Nat} {d : D} (t : Tr h d) (e : h ≤ h') : Tr h' d := by
  induction e with
  | refl => exact t
  | step _ ih => exact ih.up
def bd : Nat → Nat
  | 0 => 90
  | h + 1 => 3 * (bd h + 1)
theorem bd_90 : ∀ h, 90 ≤ bd h
  | 0 => Nat.le_refl _
  | h + 1 => by have := bd_90 h; show 90 ≤ 3 * (bd h + 1); omega
theorem Tr.th {S : Store} {f : Bool} : ∀ {h : Nat} {d : D}, Tr h d → ∀ m, Th S (m + h + 1) d (bd h) f
  | h, _, .str w, m => (th_colN w).mono (by have := bd_90 h; omega)
  | h, _, .int n, m => (th_int (by omega)).mono (bd_90 h)
  | h + 1, _, .tup (l := l) hl hc, m => by
    have t := th_tup (S := S) (m := m + h + 1) (b := bd h) (f := f) fun c hcm => (hc c hcm).th m
    exact t.mono (Nat.mul_le_mul hl (Nat.le_refl _))
/-- the part at a place -/
def sub : D → List Nat → Option D
  | d, [] => some d
  | .tup l, k :: w => (l[k]?).bind fun c => sub c w
  | _, _ :: _ => none
theorem Tr.sub : ∀ {w : List Nat} {h : Nat} {d c : D}, Tr h d → sub d w = some c → Tr h c ∧ w.length ≤ h ∧ ∀ k ∈ w, k ≤ 2
  | [], h, d, c, t, e => by
    cases d <;> (cases e; exact ⟨t, Nat.zero_le _, fun _ z => by cases z⟩)
  | k :: w, _, _, c, .tup (h := h) (l := l) hl hc, e => by
    have e : ((l[k]?).bind fun c => VM.sub c w) = some c := e
    cases q : l[k]? with
    | none => rw [q] at e; cases e
    | some x =>
      rw [q] at e
      obtain ⟨h1, h2, h3⟩ := Tr.sub (hc x (List.mem_of_getElem? q)) e
      refine ⟨h1.up, by simp; omega, fun j hj => ?_⟩
      rcases List.mem_cons.mp hj with rfl | hj
      · have := (List.getElem?_eq_some_iff.mp q).1; omega
      · exact h3 j hj
  | _ :: _, _, _, _, .str _, e => by cases e
  | _ :: _, _, _, _, .int _, e => by cases e
def nb : Nat → Nat
  | 0 => 1
  | h + 1 => 1 + 3 * nb h
end VM
namespace VM
open PySem
def Sg (w : List Nat) : Prop := w.length ≤ 7 ∧ ∀ c ∈ w, c < 0x110000
theorem Sg.th {S : Store} {w : List Nat} (h : Sg w) (m : Nat) (f : Bool) : Th S (m + 1) (.str w) 10 f := th_str (List.all_eq_true.mpr fun c hc => decide_eq_true (h.2 c hc)) (by have := h.1; omega)
mutual
/-- the numbers in it are small -/
def lowD : D → Bool
  | .int z => decide (z.natAbs ≤ 100)
  | .tup l => lowL l
  | _ => true
def lowL : List D → Bool
  | [] => true
  | d :: l => lowD d && lowL l
end
theorem lowL_all : ∀ {l : List D}, lowL l = true ↔ ∀ d ∈ l, lowD d = true
  | [] => by simp [lowL]
  | d :: l => by rw [lowL, Bool.and_eq_true, lowL_all, List.forall_mem_cons]
theorem Tr.low : ∀ {h : Nat} {d : D}, Tr h d → lowD d = true
  | _, _, .str _ => rfl
  | _, _, .int h => by rw [lowD]; exact decide_eq_true (by omega)
  | _, _, .tup _ hc => by rw [lowD]; exact lowL_all.mpr fun d hd => (hc d hd).low
structure OTm (S : Store) (x : D) : Prop where
  th : ∃ f, ∀ m, Th S (m + 10) x 40000 f
  lo : lowD x = true
theorem OTm.le {S S' : Store} {x : D} (h : OTm S x) (l : Le S S') : OTm S' x := ⟨let ⟨f, t⟩ := h.th; ⟨f, fun m => (t m).le l⟩, h.lo⟩
theorem eMx {C : Ctl} {ρ : Env} {S : Store} {Q : D → Store → Prop} {a b : Exp} (h : wp (evE C a ρ) S fun x S' => wp (evE C b ρ) S' fun y S2 => wp (mxR x y) S2 Q) : wp (evE C (.mx a b) ρ) S Q := wp_bnd.mpr (wp_imp h fun _ _ z => wp_bnd.mpr z)
end VM
namespace VM
open PySem
abbrev sLeft : List Nat := [108, 101, 102, 116]
def bTake6 : Stms := (.cons (.asg (.name 2) (.idx (.var 0) (.lit (.str [99, 101, 108, 108, 115])))) (.cons (.ife (.and (.idx (.var 0) (.lit (.str [111, 119, 110]))) (.or (.cmp .gt (.idx (.var 0) (.lit (.str [108, 101, 102, 116]))) (.lit (.int 0))) (.cmp .lt (.idx (.var 0) (.lit (.str [97, 116]))) (.bif .len (.cons (.var 2) .nil))))) (.cons (.ife (.cmp .eq (.idx (.var 0) (.lit (.str [108, 101, 102, 116]))) (.lit (.int 0))) (.cons (.sub (.var 0) (.lit (.str [114, 101, 115, 116])) (.bin .mod (.bin .fdiv (.idx (.var 2) (.idx (.var 0) (.lit (.str [97, 116])))) (.idx (.lst (.cons (.lit (.int 1)) (.cons (.lit (.int 2)) .nil))) (.bif .int (.cons (.cmp .eq (.idx (.var 0) (.lit (.str [97, 116]))) (.lit (.int 0))) .nil)))) (.bin .pow (.lit (.int 10)) (.lit (.int 64))))) (.cons (.sub (.var 0) (.lit (.str [97, 116])) (.bin .add (.idx (.var 0) (.lit (.str [97, 116]))) (.lit (.int 1)))) (.cons (.sub (.var 0) (.lit (.str [108, 101, 102, 116])) (.lit (.int 40))) .nil))) .nil) (.cons (.sub (.var 0) (.lit (.str [108, 101, 102, 116])) (.mx (.lit (.int 0)) (.bin .sub (.idx (.var 0) (.lit (.str [108, 101, 102, 116]))) (.lit (.int 1))))) (.cons (.asg (.name 3) (.bin .mod (.idx (.var 0) (.lit (.str [114, 101, 115, 116]))) (.var 1))) (.cons (.sub (.var 0) (.lit (.str [114, 101, 115, 116])) (.bin .fdiv (.idx (.var 0) (.lit (.str [114, 101, 115, 116]))) (.var 1))) (.cons (.ret (.var 3)) .nil))))) .nil) (.cons (.asg (.name 4) (.lit (.int 0))) (.cons (.ife (.cmp .gt (.bif .len (.cons (.var 2) .nil)) (.lit (.int 0))) (.cons (.asg (.name 4) (.idx (.var 2) (.bin .mod (.idx (.var 0) (.lit (.str [97, 116]))) (.bif .len (.cons (.var 2) .nil))))) .nil) .nil) (.cons (.sub (.var 0) (.lit (.str [97, 116])) (.bin .add (.idx (.var 0) (.lit (.str [97, 116]))) (.lit (.int 1)))) (.cons (.sub (.var 0) (.lit (.str [109, 111, 114, 101])) (.bin .mod (.bin .add (.bin .add (.bin .mul (.idx (.var 0) (.lit (.str [109, 111, 114, 101]))) (.lit (.int 48271))) (.var 4)) (.idx (.var 0) (.lit (.str [97, 116])))) (.lit (.int 2147483647)))) (.cons (.ret (.bin .mod (.bin .mod (.bin .add (.bin .mul (.idx (.var 0) (.lit (.str [109, 111, 114, 101]))) (.idx (.var 0) (.lit (.str [109, 111, 114, 101])))) (.bin .mul (.lit (.int 16807)) (.idx (.var 0) (.lit (.str [109, 111, 114, 101]))))) (.lit (.int 2147483629))) (.var 1))) .nil)))))))
def bBegun6 : Stms := (.cons (.asg (.name 1) (.and (.cmp .gt (.bif .len (.cons (.var 0) .nil)) (.lit (.int 0))) (.cmp .eq (.bin .mod (.idx (.var 0) (.lit (.int 0))) (.lit (.int 2))) (.lit (.int 0))))) (.cons (.ret (.dct (.cons (.lit (.str [99, 101, 108, 108, 115])) (.cons (.lc [2] (.name 2) (.seq (.var 0)) .nil (.bif .abs (.cons (.var 2) .nil))) (.cons (.lit (.str [97, 116])) (.cons (.lit (.int 0)) (.cons (.lit (.str [114, 101, 115, 116])) (.cons (.lit (.int 0)) (.cons (.lit (.str [108, 101, 102, 116])) (.cons (.lit (.int 0)) (.cons (.lit (.str [109, 111, 114, 101])) (.cons (.bin .add (.lit (.int 7)) (.bif .len (.cons (.var 0) .nil))) (.cons (.lit (.str [111, 119, 110])) (.cons (.var 1) .nil)))))))))))))) .nil))
def kw (c : Nat) (a r l m : Int) (o : Bool) : List (Key × D) := [(.inr sCells, .ref c), (.inr sAt, .int a), (.inr sRest, .int r), (.inr sLeft, .int l), (.inr sMore, .int m), (.inr sOwn, .bl o)]
section
variable {c : Nat} {a r l m i : Int} {o : Bool}
theorem kj_cells : kget (kw c a r l m o) (.inr sCells) = some (.ref c) := rfl
theorem kj_at : kget (kw c a r l m o) (.inr sAt) = some (.int a) := rfl
theorem kj_rest : kget (kw c a r l m o) (.inr sRest) = some (.int r) := rfl
theorem kj_left : kget (kw c a r l m o) (.inr sLeft) = some (.int l) := rfl
theorem kj_more : kget (kw c a r l m o) (.inr sMore) = some (.int m) := rfl
theorem kj_own : kget (kw c a r l m o) (.inr sOwn) = some (.bl o) := rfl
theorem kq_at : kput (kw c a r l m o) (.inr sAt) (.int i) = kw c i r l m o := rfl
theorem kq_rest : kput (kw c a r l m o) (.inr sRest) (.int i) = kw c a i l m o := rfl
theorem kq_left : kput (kw c a r l m o) (.inr sLeft) (.int i) = kw c a r i m o := rfl
theorem kq_more : kput (kw c a r l m o) (.inr sMore) (.int i) = kw c a r l i o := rfl
theorem kw_len : (kw c a r l m o).length < big := by show 6 < 16777216; decide
end
structure At6 (S : Store) (n c : Nat) (xs : List Int) (a r l m : Int) (o : Bool) : Prop where
  ob : S[n]? = some (.dk (kw c a r l m o))
  ce : S[c]? = some (.lst (xs.map D.int))
  lt : c < n
  px : ∀ x ∈ xs, 0 ≤ x
  pa : 0 ≤ a
  pr : 0 ≤ r
  pm : 0 ≤ m ∧ m < 2147483647
/-- M: how many draws there may still be ahead of the end -/
def St6 (S : Store) (n : Nat) (M : Int) : Prop := ∃ c xs a r l m o, At6 S n c xs a r l m o ∧ 0 ≤ l ∧ 41 * ((xs.length : Int) - a) + l ≤ M
section
variable {S : Store} {n c : Nat} {xs : List Int} {a r l m : Int} {o : Bool}
theorem At6.ne (h : At6 S n c xs a r l m o) : n ≠ c := Nat.ne_of_gt h.lt
theorem At6.wr (h : At6 S n c xs a r l m o) {a' r' l' m' : Int} (pa : 0 ≤ a') (pr : 0 ≤ r') (pm : 0 ≤ m' ∧ m' < 2147483647) : At6 (S.set n (.dk (kw c a' r' l' m' o))) n c xs a' r' l' m' o :=
  ⟨get_set h.ob, get_ne h.ce h.ne, h.lt, h.px, pa, pr, pm⟩
theorem At6.ext (h : At6 S n c xs a r l m o) {S' : Store} (le : Le S S') : At6 S' n c xs a r l m o := ⟨le.get h.ob, le.get h.ce, h.lt, h.px, h.pa, h.pr, h.pm⟩
theorem At6.new (h : At6 S n c xs a r l m o) {ob : Obj} : At6 (S ++ [ob]) n c xs a r l m o := h.ext (Le.new _ _)
theorem St6.ext {M : Int} (h : St6 S n M) {S' : Store} (le : Le S S') : St6 S' n M := by
  obtain ⟨c, xs, a, r, l, m, o, h, q⟩ := h
  exact ⟨c, xs, a, r, l, m, o, h.ext le, q⟩
theorem St6.mono {M M' : Int} (h : St6 S n M) (hm : M ≤ M') : St6 S n M' := by
  obtain ⟨c, xs, a, r, l, m, o, h, h0, h1⟩ := h
  exact ⟨c, xs, a, r, l, m, o, h, h0, by omega⟩
theorem St6.set {M : Int} (h : St6 S n M) {j : Nat} {ob : Obj} (hj : j ≠ n) (hc : ∀ l : List D, S[j]? ≠ some (.lst l)) : St6 (S.set j ob) n M := by
  obtain ⟨c, xs, a, r, l, m, o, h, q⟩ := h
  have : j ≠ c := fun e => hc _ (by rw [e]; exact h.ce)
  exact ⟨c, xs, a, r, l, m, o, ⟨get_ne h.ob hj, get_ne h.ce this, h.lt, h.px, h.pa, h.pr, h.pm⟩, q⟩
theorem St6.below {M : Int} (h : St6 S n M) : n < S.length := by
  obtain ⟨c, xs, a, r, l, m, o, h, _⟩ := h
  exact (List.getElem?_eq_some_iff.mp h.ob).1
end
theorem take6 {P : Prg} {k i : Nat} (hf : P.fns[i]? = some ⟨2, 5, bTake6⟩) {S : Store} {n : Nat} {M : Int} (st : St6 S n M) {many : Int} (h0 : 0 < many) (h1 : many < 1073741824) :
    wp (callN P (k + 1) i [.ref n, .int many]) S fun d S' => ∃ z : Int, d = .int z ∧ 0 ≤ z ∧ z < many ∧ St6 S' n (M - 1) ∧ Fr n S S' := by
  obtain ⟨c, xs, a, r, l, m, o, st, hl0, hM⟩ := st
  have len : ∀ Q : D → Store → Prop, Q (.int xs.length) S → wp (bifR .len [.ref c]) S Q := fun Q q => (wp_len_ls st.ce).mpr (by rw [List.length_map]; exact q)
  refine callR (ρ := [some (.ref n), some (.int many), none, none, none]) hf rfl rfl ?_
  have tail : wp (evSs (ctl P k) P.fuel (stTail bTake6 2) [some (.ref n), some (.int many), some (.ref c), none, none]) S fun fl S' => match fl with
      | .nx _ => ∃ z : Int, D.non = .int z ∧ 0 ≤ z ∧ z < many ∧ St6 S' n (M - 1) ∧ Fr n S S'
      | .rt d => ∃ z : Int, d = .int z ∧ 0 ≤ z ∧ z < many ∧ St6 S' n (M - 1) ∧ Fr n S S'
      | _ => False := by
    have rest : ∀ (v : Int), 0 ≤ v → wp (evSs (ctl P k) P.fuel (stTail bTake6 4) [some (.ref n), some (.int many), some (.ref c), none, some (.int v)]) S fun fl S' => match fl with
      | .nx _ => ∃ z : Int, D.non = .int z ∧ 0 ≤ z ∧ z < many ∧ St6 S' n (M - 1) ∧ Fr n S S'
      | .rt d => ∃ z : Int, d = .int z ∧ 0 ≤ z ∧ z < many ∧ St6 S' n (M - 1) ∧ Fr n S S'
      | _ => False := by
      intro v hv
      repeat (first | refine sCons ?_ | refine sNil ?_ | refine sAsgN ?_ | refine sSub ?_ | refine sRet ?_ | refine sIf ?_ | refine sExpr ?_ | refine eVar rfl ?_ | refine eLit ?_ | refine eBin ?_ | refine eCmp ?_ | refine eIdx ?_ | refine eNt ?_ | refine eAnd ?_ | refine eOr ?_ | refine eBif ?_ | refine esNil ?_ | refine esCons ?_ | refine eLst ?_ | refine eTup ?_ | refine eMth ?_ | refine eCall ?_ | refine eSl ?_ | refine pNo ?_ | refine tBl ?_)
      refine (wp_ix_dk st.ob kj_at).mpr ?_
      repeat (first | refine sCons ?_ | refine sNil ?_ | refine sAsgN ?_ | refine sSub ?_ | refine sRet ?_ | refine sIf ?_ | refine sExpr ?_ | refine eVar rfl ?_ | refine eLit ?_ | refine eBin ?_ | refine eCmp ?_ | refine eIdx ?_ | refine eNt ?_ | refine eAnd ?_ | refine eOr ?_ | refine eBif ?_ | refine esNil ?_ | refine esCons ?_ | refine eLst ?_ | refine eTup ?_ | refine eMth ?_ | refine eCall ?_ | refine eSl ?_ | refine pNo ?_ | refine tBl ?_)
      rw [opB_add_i, wp_ret]
      repeat (first | refine sCons ?_ | refine sNil ?_ | refine sAsgN ?_ | refine sSub ?_ | refine sRet ?_ | refine sIf ?_ | refine sExpr ?_ | refine eVar rfl ?_ | refine eLit ?_ | refine eBin ?_ | refine eCmp ?_ | refine eIdx ?_ | refine eNt ?_ | refine eAnd ?_ | refine eOr ?_ | refine eBif ?_ | refine esNil ?_ | refine esCons ?_ | refine eLst ?_ | refine eTup ?_ | refine eMth ?_ | refine eCall ?_ | refine eSl ?_ | refine pNo ?_ | refine tBl ?_)
      refine (wp_set_dk st.ob kw_len).mpr ?_
      rw [kq_at]
      have s1 := st.wr (a' := a + 1) (r' := r) (l' := l) (m' := m) (by have := st.pa; omega) st.pr st.pm
      repeat (first | refine sCons ?_ | refine sNil ?_ | refine sAsgN ?_ | refine sSub ?_ | refine sRet ?_ | refine sIf ?_ | refine sExpr ?_ | refine eVar rfl ?_ | refine eLit ?_ | refine eBin ?_ | refine eCmp ?_ | refine eIdx ?_ | refine eNt ?_ | refine eAnd ?_ | refine eOr ?_ | refine eBif ?_ | refine esNil ?_ | refine esCons ?_ | refine eLst ?_ | refine eTup ?_ | refine eMth ?_ | refine eCall ?_ | refine eSl ?_ | refine pNo ?_ | refine tBl ?_)
      refine (wp_ix_dk s1.ob kj_more).mpr ?_
      repeat (first | refine sCons ?_ | refine sNil ?_ | refine sAsgN ?_ | refine sSub ?_ | refine sRet ?_ | refine sIf ?_ | refine sExpr ?_ | refine eVar rfl ?_ | refine eLit ?_ | refine eBin ?_ | refine eCmp ?_ | refine eIdx ?_ | refine eNt ?_ | refine eAnd ?_ | refine eOr ?_ | refine eBif ?_ | refine esNil ?_ | refine esCons ?_ | refine eLst ?_ | refine eTup ?_ | refine eMth ?_ | refine eCall ?_ | refine eSl ?_ | refine pNo ?_ | refine tBl ?_)
      rw [opB_mul_i (mul_small s1.pm), wp_ret]
      repeat (first | refine sCons ?_ | refine sNil ?_ | refine sAsgN ?_ | refine sSub ?_ | refine sRet ?_ | refine sIf ?_ | refine sExpr ?_ | refine eVar rfl ?_ | refine eLit ?_ | refine eBin ?_ | refine eCmp ?_ | refine eIdx ?_ | refine eNt ?_ | refine eAnd ?_ | refine eOr ?_ | refine eBif ?_ | refine esNil ?_ | refine esCons ?_ | refine eLst ?_ | refine eTup ?_ | refine eMth ?_ | refine eCall ?_ | refine eSl ?_ | refine pNo ?_ | refine tBl ?_)
      rw [opB_add_i, wp_ret]
      repeat (first | refine sCons ?_ | refine sNil ?_ | refine sAsgN ?_ | refine sSub ?_ | refine sRet ?_ | refine sIf ?_ | refine sExpr ?_ | refine eVar rfl ?_ | refine eLit ?_ | refine eBin ?_ | refine eCmp ?_ | refine eIdx ?_ | refine eNt ?_ | refine eAnd ?_ | refine eOr ?_ | refine eBif ?_ | refine esNil ?_ | refine esCons ?_ | refine eLst ?_ | refine eTup ?_ | refine eMth ?_ | refine eCall ?_ | refine eSl ?_ | refine pNo ?_ | refine tBl ?_)
      refine (wp_ix_dk s1.ob kj_at).mpr ?_
      rw [opB_add_i, wp_ret]
      repeat (first | refine sCons ?_ | refine sNil ?_ | refine sAsgN ?_ | refine sSub ?_ | refine sRet ?_ | refine sIf ?_ | refine sExpr ?_ | refine eVar rfl ?_ | refine eLit ?_ | refine eBin ?_ | refine eCmp ?_ | refine eIdx ?_ | refine eNt ?_ | refine eAnd ?_ | refine eOr ?_ | refine eBif ?_ | refine esNil ?_ | refine esCons ?_ | refine eLst ?_ | refine eTup ?_ | refine eMth ?_ | refine eCall ?_ | refine eSl ?_ | refine pNo ?_ | refine tBl ?_)
      rw [opB_mod_i (by decide), wp_ret]
      repeat (first | refine sCons ?_ | refine sNil ?_ | refine sAsgN ?_ | refine sSub ?_ | refine sRet ?_ | refine sIf ?_ | refine sExpr ?_ | refine eVar rfl ?_ | refine eLit ?_ | refine eBin ?_ | refine eCmp ?_ | refine eIdx ?_ | refine eNt ?_ | refine eAnd ?_ | refine eOr ?_ | refine eBif ?_ | refine esNil ?_ | refine esCons ?_ | refine eLst ?_ | refine eTup ?_ | refine eMth ?_ | refine eCall ?_ | refine eSl ?_ | refine pNo ?_ | refine tBl ?_)
      refine (wp_set_dk s1.ob kw_len).mpr ?_
      rw [kq_more]
      have s2 := s1.wr (a' := a + 1) (r' := r) (l' := l) (m' := (m * 48271 + v + (a + 1)) % 2147483647) (by have := st.pa; omega) st.pr ⟨by omega, by omega⟩
      repeat (first | refine sCons ?_ | refine sNil ?_ | refine sAsgN ?_ | refine sSub ?_ | refine sRet ?_ | refine sIf ?_ | refine sExpr ?_ | refine eVar rfl ?_ | refine eLit ?_ | refine eBin ?_ | refine eCmp ?_ | refine eIdx ?_ | refine eNt ?_ | refine eAnd ?_ | refine eOr ?_ | refine eBif ?_ | refine esNil ?_ | refine esCons ?_ | refine eLst ?_ | refine eTup ?_ | refine eMth ?_ | refine eCall ?_ | refine eSl ?_ | refine pNo ?_ | refine tBl ?_)
      refine (wp_ix_dk s2.ob kj_more).mpr ?_
      repeat (first | refine sCons ?_ | refine sNil ?_ | refine sAsgN ?_ | refine sSub ?_ | refine sRet ?_ | refine sIf ?_ | refine sExpr ?_ | refine eVar rfl ?_ | refine eLit ?_ | refine eBin ?_ | refine eCmp ?_ | refine eIdx ?_ | refine eNt ?_ | refine eAnd ?_ | refine eOr ?_ | refine eBif ?_ | refine esNil ?_ | refine esCons ?_ | refine eLst ?_ | refine eTup ?_ | refine eMth ?_ | refine eCall ?_ | refine eSl ?_ | refine pNo ?_ | refine tBl ?_)
      refine (wp_ix_dk s2.ob kj_more).mpr ?_
      rw [opB_mul_i (mul_small s2.pm), wp_ret]
      repeat (first | refine sCons ?_ | refine sNil ?_ | refine sAsgN ?_ | refine sSub ?_ | refine sRet ?_ | refine sIf ?_ | refine sExpr ?_ | refine eVar rfl ?_ | refine eLit ?_ | refine eBin ?_ | refine eCmp ?_ | refine eIdx ?_ | refine eNt ?_ | refine eAnd ?_ | refine eOr ?_ | refine eBif ?_ | refine esNil ?_ | refine esCons ?_ | refine eLst ?_ | refine eTup ?_ | refine eMth ?_ | refine eCall ?_ | refine eSl ?_ | refine pNo ?_ | refine tBl ?_)
      refine (wp_ix_dk s2.ob kj_more).mpr ?_
      rw [opB_mul_i (mul_smallR s2.pm), wp_ret, opB_add_i, wp_ret]
      repeat (first | refine sCons ?_ | refine sNil ?_ | refine sAsgN ?_ | refine sSub ?_ | refine sRet ?_ | refine sIf ?_ | refine sExpr ?_ | refine eVar rfl ?_ | refine eLit ?_ | refine eBin ?_ | refine eCmp ?_ | refine eIdx ?_ | refine eNt ?_ | refine eAnd ?_ | refine eOr ?_ | refine eBif ?_ | refine esNil ?_ | refine esCons ?_ | refine eLst ?_ | refine eTup ?_ | refine eMth ?_ | refine eCall ?_ | refine eSl ?_ | refine pNo ?_ | refine tBl ?_)
      rw [opB_mod_i (by decide), wp_ret]
      repeat (first | refine sCons ?_ | refine sNil ?_ | refine sAsgN ?_ | refine sSub ?_ | refine sRet ?_ | refine sIf ?_ | refine sExpr ?_ | refine eVar rfl ?_ | refine eLit ?_ | refine eBin ?_ | refine eCmp ?_ | refine eIdx ?_ | refine eNt ?_ | refine eAnd ?_ | refine eOr ?_ | refine eBif ?_ | refine esNil ?_ | refine esCons ?_ | refine eLst ?_ | refine eTup ?_ | refine eMth ?_ | refine eCall ?_ | refine eSl ?_ | refine pNo ?_ | refine tBl ?_)
      rw [opB_mod_i h0, wp_ret]
      exact ⟨_, rfl, Int.emod_nonneg _ (by omega), Int.emod_lt_of_pos _ h0, ⟨_, _, _, _, _, _, _, s2, hl0, by omega⟩, Fr.trans Fr.set Fr.set⟩
    repeat (first | refine sCons ?_ | refine sNil ?_ | refine sAsgN ?_ | refine sSub ?_ | refine sRet ?_ | refine sIf ?_ | refine sExpr ?_ | refine eVar rfl ?_ | refine eLit ?_ | refine eBin ?_ | refine eCmp ?_ | refine eIdx ?_ | refine eNt ?_ | refine eAnd ?_ | refine eOr ?_ | refine eBif ?_ | refine esNil ?_ | refine esCons ?_ | refine eLst ?_ | refine eTup ?_ | refine eMth ?_ | refine eCall ?_ | refine eSl ?_ | refine pNo ?_ | refine tBl ?_)
    refine len _ ?_
    repeat (first | refine sCons ?_ | refine sNil ?_ | refine sAsgN ?_ | refine sSub ?_ | refine sRet ?_ | refine sIf ?_ | refine sExpr ?_ | refine eVar rfl ?_ | refine eLit ?_ | refine eBin ?_ | refine eCmp ?_ | refine eIdx ?_ | refine eNt ?_ | refine eAnd ?_ | refine eOr ?_ | refine eBif ?_ | refine esNil ?_ | refine esCons ?_ | refine eLst ?_ | refine eTup ?_ | refine eMth ?_ | refine eCall ?_ | refine eSl ?_ | refine pNo ?_ | refine tBl ?_)
    rw [opC_gt_i, wp_ret]
    repeat (first | refine sCons ?_ | refine sNil ?_ | refine sAsgN ?_ | refine sSub ?_ | refine sRet ?_ | refine sIf ?_ | refine sExpr ?_ | refine eVar rfl ?_ | refine eLit ?_ | refine eBin ?_ | refine eCmp ?_ | refine eIdx ?_ | refine eNt ?_ | refine eAnd ?_ | refine eOr ?_ | refine eBif ?_ | refine esNil ?_ | refine esCons ?_ | refine eLst ?_ | refine eTup ?_ | refine eMth ?_ | refine eCall ?_ | refine eSl ?_ | refine pNo ?_ | refine tBl ?_)
    refine iteB (fun hz => ?_) (fun hz => ?_)
    · have hl : (0 : Int) < xs.length := of_decide_eq_true hz
      repeat (first | refine sCons ?_ | refine sNil ?_ | refine sAsgN ?_ | refine sSub ?_ | refine sRet ?_ | refine sIf ?_ | refine sExpr ?_ | refine eVar rfl ?_ | refine eLit ?_ | refine eBin ?_ | refine eCmp ?_ | refine eIdx ?_ | refine eNt ?_ | refine eAnd ?_ | refine eOr ?_ | refine eBif ?_ | refine esNil ?_ | refine esCons ?_ | refine eLst ?_ | refine eTup ?_ | refine eMth ?_ | refine eCall ?_ | refine eSl ?_ | refine pNo ?_ | refine tBl ?_)
      refine (wp_ix_dk st.ob kj_at).mpr ?_
      repeat (first | refine sCons ?_ | refine sNil ?_ | refine sAsgN ?_ | refine sSub ?_ | refine sRet ?_ | refine sIf ?_ | refine sExpr ?_ | refine eVar rfl ?_ | refine eLit ?_ | refine eBin ?_ | refine eCmp ?_ | refine eIdx ?_ | refine eNt ?_ | refine eAnd ?_ | refine eOr ?_ | refine eBif ?_ | refine esNil ?_ | refine esCons ?_ | refine eLst ?_ | refine eTup ?_ | refine eMth ?_ | refine eCall ?_ | refine eSl ?_ | refine pNo ?_ | refine tBl ?_)
      refine len _ ?_
      rw [opB_mod_i hl, wp_ret]
      obtain ⟨v, hv, hx⟩ := cell_at st.px (i := a % xs.length) (Int.emod_nonneg _ (by omega)) (Int.emod_lt_of_pos _ hl)
      refine (wp_ix_ls st.ce hx).mpr ?_
      refine sNil ?_
      exact rest v hv
    · refine sNil ?_
      exact rest 0 (by omega)
  unfold bTake6
  repeat (first | refine sCons ?_ | refine sNil ?_ | refine sAsgN ?_ | refine sSub ?_ | refine sRet ?_ | refine sIf ?_ | refine sExpr ?_ | refine eVar rfl ?_ | refine eLit ?_ | refine eBin ?_ | refine eCmp ?_ | refine eIdx ?_ | refine eNt ?_ | refine eAnd ?_ | refine eOr ?_ | refine eBif ?_ | refine esNil ?_ | refine esCons ?_ | refine eLst ?_ | refine eTup ?_ | refine eMth ?_ | refine eCall ?_ | refine eSl ?_ | refine pNo ?_ | refine tBl ?_)
  refine (wp_ix_dk st.ob kj_cells).mpr ?_
  repeat (first | refine sCons ?_ | refine sNil ?_ | refine sAsgN ?_ | refine sSub ?_ | refine sRet ?_ | refine sIf ?_ | refine sExpr ?_ | refine eVar rfl ?_ | refine eLit ?_ | refine eBin ?_ | refine eCmp ?_ | refine eIdx ?_ | refine eNt ?_ | refine eAnd ?_ | refine eOr ?_ | refine eBif ?_ | refine esNil ?_ | refine esCons ?_ | refine eLst ?_ | refine eTup ?_ | refine eMth ?_ | refine eCall ?_ | refine eSl ?_ | refine pNo ?_ | refine tBl ?_)
  refine (wp_ix_dk st.ob kj_own).mpr ?_
  repeat (first | refine sCons ?_ | refine sNil ?_ | refine sAsgN ?_ | refine sSub ?_ | refine sRet ?_ | refine sIf ?_ | refine sExpr ?_ | refine eVar rfl ?_ | refine eLit ?_ | refine eBin ?_ | refine eCmp ?_ | refine eIdx ?_ | refine eNt ?_ | refine eAnd ?_ | refine eOr ?_ | refine eBif ?_ | refine esNil ?_ | refine esCons ?_ | refine eLst ?_ | refine eTup ?_ | refine eMth ?_ | refine eCall ?_ | refine eSl ?_ | refine pNo ?_ | refine tBl ?_)
  have drawn : ∀ S1 : Store, (∀ j ob, j ≠ n → S[j]? = some ob → S1[j]? = some ob) → S.length ≤ S1.length → ∀ a1 r1 l1 : Int, At6 S1 n c xs a1 r1 l1 m o → 1 ≤ l1 → 41 * ((xs.length : Int) - a1) + l1 ≤ M → wp (evSs (ctl P k) P.fuel (.cons (.sub (.var 0) (.lit (.str sLeft)) (.mx (.lit (.int 0)) (.bin .sub (.idx (.var 0) (.lit (.str sLeft))) (.lit (.int 1))))) (.cons (.asg (.name 3) (.bin .mod (.idx (.var 0) (.lit (.str sRest))) (.var 1))) (.cons (.sub (.var 0) (.lit (.str sRest)) (.bin .fdiv (.idx (.var 0) (.lit (.str sRest))) (.var 1))) (.cons (.ret (.var 3)) .nil)))) [some (.ref n), some (.int many), some (.ref c), none, none]) S1 fun fl S' => match fl with
      | .nx _ => False
      | .rt d => ∃ z : Int, d = .int z ∧ 0 ≤ z ∧ z < many ∧ St6 S' n (M - 1) ∧ Fr n S S'
      | _ => False := by
    intro S1 g1 l1 a1 r1 lf s1 hlf hMf
    refine sCons (sSub (eMx (eLit (eBin (eIdx (eVar rfl (eLit ((wp_ix_dk s1.ob kj_left).mpr (eLit ?_)))))))))
    rw [opB_sub_i, wp_ret]
    refine wp_ret.mpr ?_
    repeat (first | refine sCons ?_ | refine sNil ?_ | refine sAsgN ?_ | refine sSub ?_ | refine sRet ?_ | refine sIf ?_ | refine sExpr ?_ | refine eVar rfl ?_ | refine eLit ?_ | refine eBin ?_ | refine eCmp ?_ | refine eIdx ?_ | refine eNt ?_ | refine eAnd ?_ | refine eOr ?_ | refine eBif ?_ | refine esNil ?_ | refine esCons ?_ | refine eLst ?_ | refine eTup ?_ | refine eMth ?_ | refine eCall ?_ | refine eSl ?_ | refine pNo ?_ | refine tBl ?_)
    refine (wp_set_dk s1.ob kw_len).mpr ?_
    rw [kq_left]
    have s0 := s1.wr (a' := a1) (r' := r1) (l' := if lf - 1 > 0 then lf - 1 else 0) (m' := m) s1.pa s1.pr s1.pm
    repeat (first | refine sCons ?_ | refine sNil ?_ | refine sAsgN ?_ | refine sSub ?_ | refine sRet ?_ | refine sIf ?_ | refine sExpr ?_ | refine eVar rfl ?_ | refine eLit ?_ | refine eBin ?_ | refine eCmp ?_ | refine eIdx ?_ | refine eNt ?_ | refine eAnd ?_ | refine eOr ?_ | refine eBif ?_ | refine esNil ?_ | refine esCons ?_ | refine eLst ?_ | refine eTup ?_ | refine eMth ?_ | refine eCall ?_ | refine eSl ?_ | refine pNo ?_ | refine tBl ?_)
    refine (wp_ix_dk s0.ob kj_rest).mpr ?_
    repeat (first | refine sCons ?_ | refine sNil ?_ | refine sAsgN ?_ | refine sSub ?_ | refine sRet ?_ | refine sIf ?_ | refine sExpr ?_ | refine eVar rfl ?_ | refine eLit ?_ | refine eBin ?_ | refine eCmp ?_ | refine eIdx ?_ | refine eNt ?_ | refine eAnd ?_ | refine eOr ?_ | refine eBif ?_ | refine esNil ?_ | refine esCons ?_ | refine eLst ?_ | refine eTup ?_ | refine eMth ?_ | refine eCall ?_ | refine eSl ?_ | refine pNo ?_ | refine tBl ?_)
    rw [opB_mod_i h0, wp_ret]
    repeat (first | refine sCons ?_ | refine sNil ?_ | refine sAsgN ?_ | refine sSub ?_ | refine sRet ?_ | refine sIf ?_ | refine sExpr ?_ | refine eVar rfl ?_ | refine eLit ?_ | refine eBin ?_ | refine eCmp ?_ | refine eIdx ?_ | refine eNt ?_ | refine eAnd ?_ | refine eOr ?_ | refine eBif ?_ | refine esNil ?_ | refine esCons ?_ | refine eLst ?_ | refine eTup ?_ | refine eMth ?_ | refine eCall ?_ | refine eSl ?_ | refine pNo ?_ | refine tBl ?_)
    refine (wp_ix_dk s0.ob kj_rest).mpr ?_
    repeat (first | refine sCons ?_ | refine sNil ?_ | refine sAsgN ?_ | refine sSub ?_ | refine sRet ?_ | refine sIf ?_ | refine sExpr ?_ | refine eVar rfl ?_ | refine eLit ?_ | refine eBin ?_ | refine eCmp ?_ | refine eIdx ?_ | refine eNt ?_ | refine eAnd ?_ | refine eOr ?_ | refine eBif ?_ | refine esNil ?_ | refine esCons ?_ | refine eLst ?_ | refine eTup ?_ | refine eMth ?_ | refine eCall ?_ | refine eSl ?_ | refine pNo ?_ | refine tBl ?_)
    rw [opB_fdiv_i h0 h1, wp_ret]
    repeat (first | refine sCons ?_ | refine sNil ?_ | refine sAsgN ?_ | refine sSub ?_ | refine sRet ?_ | refine sIf ?_ | refine sExpr ?_ | refine eVar rfl ?_ | refine eLit ?_ | refine eBin ?_ | refine eCmp ?_ | refine eIdx ?_ | refine eNt ?_ | refine eAnd ?_ | refine eOr ?_ | refine eBif ?_ | refine esNil ?_ | refine esCons ?_ | refine eLst ?_ | refine eTup ?_ | refine eMth ?_ | refine eCall ?_ | refine eSl ?_ | refine pNo ?_ | refine tBl ?_)
    refine (wp_set_dk s0.ob kw_len).mpr ?_
    rw [kq_rest]
    have s2 := s0.wr (a' := a1) (r' := r1 / many) (l' := if lf - 1 > 0 then lf - 1 else 0) (m' := m) s1.pa (Int.ediv_nonneg s1.pr (by omega)) s1.pm
    repeat (first | refine sCons ?_ | refine sNil ?_ | refine sAsgN ?_ | refine sSub ?_ | refine sRet ?_ | refine sIf ?_ | refine sExpr ?_ | refine eVar rfl ?_ | refine eLit ?_ | refine eBin ?_ | refine eCmp ?_ | refine eIdx ?_ | refine eNt ?_ | refine eAnd ?_ | refine eOr ?_ | refine eBif ?_ | refine esNil ?_ | refine esCons ?_ | refine eLst ?_ | refine eTup ?_ | refine eMth ?_ | refine eCall ?_ | refine eSl ?_ | refine pNo ?_ | refine tBl ?_)
    exact ⟨_, rfl, Int.emod_nonneg _ (by omega), Int.emod_lt_of_pos _ h0, ⟨_, _, _, _, _, _, _, s2, by split <;> omega, by split <;> omega⟩, Fr.trans ⟨l1, g1⟩ (Fr.trans Fr.set Fr.set)⟩
  have go : (0 < l ∨ a < xs.length) → wp (evSs (ctl P k) P.fuel (.cons (.ife (.cmp .eq (.idx (.var 0) (.lit (.str sLeft))) (.lit (.int 0))) (.cons (.sub (.var 0) (.lit (.str sRest)) (.bin .mod (.bin .fdiv (.idx (.var 2) (.idx (.var 0) (.lit (.str sAt)))) (.idx (.lst (.cons (.lit (.int 1)) (.cons (.lit (.int 2)) .nil))) (.bif .int (.cons (.cmp .eq (.idx (.var 0) (.lit (.str sAt))) (.lit (.int 0))) .nil)))) (.bin .pow (.lit (.int 10)) (.lit (.int 64))))) (.cons (.sub (.var 0) (.lit (.str sAt)) (.bin .add (.idx (.var 0) (.lit (.str sAt))) (.lit (.int 1)))) (.cons (.sub (.var 0) (.lit (.str sLeft)) (.lit (.int 40))) .nil))) .nil) (.cons (.sub (.var 0) (.lit (.str sLeft)) (.mx (.lit (.int 0)) (.bin .sub (.idx (.var 0) (.lit (.str sLeft))) (.lit (.int 1))))) (.cons (.asg (.name 3) (.bin .mod (.idx (.var 0) (.lit (.str sRest))) (.var 1))) (.cons (.sub (.var 0) (.lit (.str sRest)) (.bin .fdiv (.idx (.var 0) (.lit (.str sRest))) (.var 1))) (.cons (.ret (.var 3)) .nil))))) [some (.ref n), some (.int many), some (.ref c), none, none]) S fun fl S' => match fl with
      | .nx _ => False
      | .rt d => ∃ z : Int, d = .int z ∧ 0 ≤ z ∧ z < many ∧ St6 S' n (M - 1) ∧ Fr n S S'
      | _ => False := by
    intro hra
    repeat (first | refine sCons ?_ | refine sNil ?_ | refine sAsgN ?_ | refine sSub ?_ | refine sRet ?_ | refine sIf ?_ | refine sExpr ?_ | refine eVar rfl ?_ | refine eLit ?_ | refine eBin ?_ | refine eCmp ?_ | refine eIdx ?_ | refine eNt ?_ | refine eAnd ?_ | refine eOr ?_ | refine eBif ?_ | refine esNil ?_ | refine esCons ?_ | refine eLst ?_ | refine eTup ?_ | refine eMth ?_ | refine eCall ?_ | refine eSl ?_ | refine pNo ?_ | refine tBl ?_)
    refine (wp_ix_dk st.ob kj_left).mpr ?_
    repeat (first | refine sCons ?_ | refine sNil ?_ | refine sAsgN ?_ | refine sSub ?_ | refine sRet ?_ | refine sIf ?_ | refine sExpr ?_ | refine eVar rfl ?_ | refine eLit ?_ | refine eBin ?_ | refine eCmp ?_ | refine eIdx ?_ | refine eNt ?_ | refine eAnd ?_ | refine eOr ?_ | refine eBif ?_ | refine esNil ?_ | refine esCons ?_ | refine eLst ?_ | refine eTup ?_ | refine eMth ?_ | refine eCall ?_ | refine eSl ?_ | refine pNo ?_ | refine tBl ?_)
    rw [wp_eq_int]
    repeat (first | refine sCons ?_ | refine sNil ?_ | refine sAsgN ?_ | refine sSub ?_ | refine sRet ?_ | refine sIf ?_ | refine sExpr ?_ | refine eVar rfl ?_ | refine eLit ?_ | refine eBin ?_ | refine eCmp ?_ | refine eIdx ?_ | refine eNt ?_ | refine eAnd ?_ | refine eOr ?_ | refine eBif ?_ | refine esNil ?_ | refine esCons ?_ | refine eLst ?_ | refine eTup ?_ | refine eMth ?_ | refine eCall ?_ | refine eSl ?_ | refine pNo ?_ | refine tBl ?_)
    refine iteB (fun hz => ?_) (fun hz => ?_)
    · have hz := of_decide_eq_true hz
      have ha : a < xs.length := by rcases hra with z | z <;> omega
      obtain ⟨v, hv, hx⟩ := cell_at st.px st.pa ha
      repeat (first | refine sCons ?_ | refine sNil ?_ | refine sAsgN ?_ | refine sSub ?_ | refine sRet ?_ | refine sIf ?_ | refine sExpr ?_ | refine eVar rfl ?_ | refine eLit ?_ | refine eBin ?_ | refine eCmp ?_ | refine eIdx ?_ | refine eNt ?_ | refine eAnd ?_ | refine eOr ?_ | refine eBif ?_ | refine esNil ?_ | refine esCons ?_ | refine eLst ?_ | refine eTup ?_ | refine eMth ?_ | refine eCall ?_ | refine eSl ?_ | refine pNo ?_ | refine tBl ?_)
      refine (wp_ix_dk st.ob kj_at).mpr ?_
      refine (wp_ix_ls st.ce hx).mpr ?_
      repeat (first | refine sCons ?_ | refine sNil ?_ | refine sAsgN ?_ | refine sSub ?_ | refine sRet ?_ | refine sIf ?_ | refine sExpr ?_ | refine eVar rfl ?_ | refine eLit ?_ | refine eBin ?_ | refine eCmp ?_ | refine eIdx ?_ | refine eNt ?_ | refine eAnd ?_ | refine eOr ?_ | refine eBif ?_ | refine esNil ?_ | refine esCons ?_ | refine eLst ?_ | refine eTup ?_ | refine eMth ?_ | refine eCall ?_ | refine eSl ?_ | refine pNo ?_ | refine tBl ?_)
      refine ⟨by decide, ?_⟩
      have st1 := st.new (ob := .lst [.int 1, .int 2])
      repeat (first | refine sCons ?_ | refine sNil ?_ | refine sAsgN ?_ | refine sSub ?_ | refine sRet ?_ | refine sIf ?_ | refine sExpr ?_ | refine eVar rfl ?_ | refine eLit ?_ | refine eBin ?_ | refine eCmp ?_ | refine eIdx ?_ | refine eNt ?_ | refine eAnd ?_ | refine eOr ?_ | refine eBif ?_ | refine esNil ?_ | refine esCons ?_ | refine eLst ?_ | refine eTup ?_ | refine eMth ?_ | refine eCall ?_ | refine eSl ?_ | refine pNo ?_ | refine tBl ?_)
      refine (wp_ix_dk st1.ob kj_at).mpr ?_
      repeat (first | refine sCons ?_ | refine sNil ?_ | refine sAsgN ?_ | refine sSub ?_ | refine sRet ?_ | refine sIf ?_ | refine sExpr ?_ | refine eVar rfl ?_ | refine eLit ?_ | refine eBin ?_ | refine eCmp ?_ | refine eIdx ?_ | refine eNt ?_ | refine eAnd ?_ | refine eOr ?_ | refine eBif ?_ | refine esNil ?_ | refine esCons ?_ | refine eLst ?_ | refine eTup ?_ | refine eMth ?_ | refine eCall ?_ | refine eSl ?_ | refine pNo ?_ | refine tBl ?_)
      rw [wp_eq_int]
      repeat (first | refine sCons ?_ | refine sNil ?_ | refine sAsgN ?_ | refine sSub ?_ | refine sRet ?_ | refine sIf ?_ | refine sExpr ?_ | refine eVar rfl ?_ | refine eLit ?_ | refine eBin ?_ | refine eCmp ?_ | refine eIdx ?_ | refine eNt ?_ | refine eAnd ?_ | refine eOr ?_ | refine eBif ?_ | refine esNil ?_ | refine esCons ?_ | refine eLst ?_ | refine eTup ?_ | refine eMth ?_ | refine eCall ?_ | refine eSl ?_ | refine pNo ?_ | refine tBl ?_)
      have hq : ∃ q : Int, 0 < q ∧ q < 1073741824 ∧ atI [D.int 1, D.int 2] (if decide (a = 0) = true then 1 else 0) = some (.int q) := by
        cases decide (a = 0) with
        | true => exact ⟨2, by omega, by omega, rfl⟩
        | false => exact ⟨1, by omega, by omega, rfl⟩
      obtain ⟨q, q0, q1, hq⟩ := hq
      refine wp_ret.mpr ?_
      refine (wp_ix_ls get_new hq).mpr ?_
      rw [opB_fdiv_i q0 q1, wp_ret]
      repeat (first | refine sCons ?_ | refine sNil ?_ | refine sAsgN ?_ | refine sSub ?_ | refine sRet ?_ | refine sIf ?_ | refine sExpr ?_ | refine eVar rfl ?_ | refine eLit ?_ | refine eBin ?_ | refine eCmp ?_ | refine eIdx ?_ | refine eNt ?_ | refine eAnd ?_ | refine eOr ?_ | refine eBif ?_ | refine esNil ?_ | refine esCons ?_ | refine eLst ?_ | refine eTup ?_ | refine eMth ?_ | refine eCall ?_ | refine eSl ?_ | refine pNo ?_ | refine tBl ?_)
      refine wp_ret.mpr ?_
      rw [opB_mod_i (show (0 : Int) < 10 ^ (64 : Int).toNat by decide), wp_ret]
      repeat (first | refine sCons ?_ | refine sNil ?_ | refine sAsgN ?_ | refine sSub ?_ | refine sRet ?_ | refine sIf ?_ | refine sExpr ?_ | refine eVar rfl ?_ | refine eLit ?_ | refine eBin ?_ | refine eCmp ?_ | refine eIdx ?_ | refine eNt ?_ | refine eAnd ?_ | refine eOr ?_ | refine eBif ?_ | refine esNil ?_ | refine esCons ?_ | refine eLst ?_ | refine eTup ?_ | refine eMth ?_ | refine eCall ?_ | refine eSl ?_ | refine pNo ?_ | refine tBl ?_)
      refine (wp_set_dk st1.ob kw_len).mpr ?_
      rw [kq_rest]
      have pv : (0 : Int) ≤ v / q % 10 ^ (64 : Int).toNat := Int.emod_nonneg _ (by decide)
      have st2 := st1.wr (a' := a) (r' := v / q % 10 ^ (64 : Int).toNat) (l' := l) (m' := m) st.pa pv st.pm
      repeat (first | refine sCons ?_ | refine sNil ?_ | refine sAsgN ?_ | refine sSub ?_ | refine sRet ?_ | refine sIf ?_ | refine sExpr ?_ | refine eVar rfl ?_ | refine eLit ?_ | refine eBin ?_ | refine eCmp ?_ | refine eIdx ?_ | refine eNt ?_ | refine eAnd ?_ | refine eOr ?_ | refine eBif ?_ | refine esNil ?_ | refine esCons ?_ | refine eLst ?_ | refine eTup ?_ | refine eMth ?_ | refine eCall ?_ | refine eSl ?_ | refine pNo ?_ | refine tBl ?_)
      refine (wp_ix_dk st2.ob kj_at).mpr ?_
      repeat (first | refine sCons ?_ | refine sNil ?_ | refine sAsgN ?_ | refine sSub ?_ | refine sRet ?_ | refine sIf ?_ | refine sExpr ?_ | refine eVar rfl ?_ | refine eLit ?_ | refine eBin ?_ | refine eCmp ?_ | refine eIdx ?_ | refine eNt ?_ | refine eAnd ?_ | refine eOr ?_ | refine eBif ?_ | refine esNil ?_ | refine esCons ?_ | refine eLst ?_ | refine eTup ?_ | refine eMth ?_ | refine eCall ?_ | refine eSl ?_ | refine pNo ?_ | refine tBl ?_)
      rw [opB_add_i, wp_ret]
      repeat (first | refine sCons ?_ | refine sNil ?_ | refine sAsgN ?_ | refine sSub ?_ | refine sRet ?_ | refine sIf ?_ | refine sExpr ?_ | refine eVar rfl ?_ | refine eLit ?_ | refine eBin ?_ | refine eCmp ?_ | refine eIdx ?_ | refine eNt ?_ | refine eAnd ?_ | refine eOr ?_ | refine eBif ?_ | refine esNil ?_ | refine esCons ?_ | refine eLst ?_ | refine eTup ?_ | refine eMth ?_ | refine eCall ?_ | refine eSl ?_ | refine pNo ?_ | refine tBl ?_)
      refine (wp_set_dk st2.ob kw_len).mpr ?_
      rw [kq_at]
      have st3 := st2.wr (a' := a + 1) (r' := v / q % 10 ^ (64 : Int).toNat) (l' := l) (m' := m) (by have := st.pa; omega) pv st.pm
      repeat (first | refine sCons ?_ | refine sNil ?_ | refine sAsgN ?_ | refine sSub ?_ | refine sRet ?_ | refine sIf ?_ | refine sExpr ?_ | refine eVar rfl ?_ | refine eLit ?_ | refine eBin ?_ | refine eCmp ?_ | refine eIdx ?_ | refine eNt ?_ | refine eAnd ?_ | refine eOr ?_ | refine eBif ?_ | refine esNil ?_ | refine esCons ?_ | refine eLst ?_ | refine eTup ?_ | refine eMth ?_ | refine eCall ?_ | refine eSl ?_ | refine pNo ?_ | refine tBl ?_)
      refine (wp_set_dk st3.ob kw_len).mpr ?_
      rw [kq_left]
      have st4 := st3.wr (a' := a + 1) (r' := v / q % 10 ^ (64 : Int).toNat) (l' := 40) (m' := m) (by have := st.pa; omega) pv st.pm
      refine sNil ?_
      exact drawn _ (fun j ob h e => (Fr.trans Fr.new (Fr.trans Fr.set (Fr.trans Fr.set Fr.set))).get j ob h e) (Fr.trans Fr.new (Fr.trans Fr.set (Fr.trans Fr.set Fr.set))).len _ _ _ st4 (by omega) (by omega)
    · refine sNil ?_
      exact drawn S (fun _ _ _ e => e) (Nat.le_refl _) a r l st (by have := of_decide_eq_false hz; omega) hM
  refine iteB (fun ho => ?_) (fun ho => ?_)
  · repeat (first | refine sCons ?_ | refine sNil ?_ | refine sAsgN ?_ | refine sSub ?_ | refine sRet ?_ | refine sIf ?_ | refine sExpr ?_ | refine eVar rfl ?_ | refine eLit ?_ | refine eBin ?_ | refine eCmp ?_ | refine eIdx ?_ | refine eNt ?_ | refine eAnd ?_ | refine eOr ?_ | refine eBif ?_ | refine esNil ?_ | refine esCons ?_ | refine eLst ?_ | refine eTup ?_ | refine eMth ?_ | refine eCall ?_ | refine eSl ?_ | refine pNo ?_ | refine tBl ?_)
    refine (wp_ix_dk st.ob kj_left).mpr ?_
    repeat (first | refine sCons ?_ | refine sNil ?_ | refine sAsgN ?_ | refine sSub ?_ | refine sRet ?_ | refine sIf ?_ | refine sExpr ?_ | refine eVar rfl ?_ | refine eLit ?_ | refine eBin ?_ | refine eCmp ?_ | refine eIdx ?_ | refine eNt ?_ | refine eAnd ?_ | refine eOr ?_ | refine eBif ?_ | refine esNil ?_ | refine esCons ?_ | refine eLst ?_ | refine eTup ?_ | refine eMth ?_ | refine eCall ?_ | refine eSl ?_ | refine pNo ?_ | refine tBl ?_)
    rw [opC_gt_i, wp_ret]
    repeat (first | refine sCons ?_ | refine sNil ?_ | refine sAsgN ?_ | refine sSub ?_ | refine sRet ?_ | refine sIf ?_ | refine sExpr ?_ | refine eVar rfl ?_ | refine eLit ?_ | refine eBin ?_ | refine eCmp ?_ | refine eIdx ?_ | refine eNt ?_ | refine eAnd ?_ | refine eOr ?_ | refine eBif ?_ | refine esNil ?_ | refine esCons ?_ | refine eLst ?_ | refine eTup ?_ | refine eMth ?_ | refine eCall ?_ | refine eSl ?_ | refine pNo ?_ | refine tBl ?_)
    refine iteB (fun h => ?_) (fun h => ?_)
    · rw [h]
      refine tBl ?_
      refine iteT ?_
      refine wp_imp (go (.inl (of_decide_eq_true h))) fun fl S' z => ?_
      cases fl <;> first | exact z | exact z.elim
    · repeat (first | refine sCons ?_ | refine sNil ?_ | refine sAsgN ?_ | refine sSub ?_ | refine sRet ?_ | refine sIf ?_ | refine sExpr ?_ | refine eVar rfl ?_ | refine eLit ?_ | refine eBin ?_ | refine eCmp ?_ | refine eIdx ?_ | refine eNt ?_ | refine eAnd ?_ | refine eOr ?_ | refine eBif ?_ | refine esNil ?_ | refine esCons ?_ | refine eLst ?_ | refine eTup ?_ | refine eMth ?_ | refine eCall ?_ | refine eSl ?_ | refine pNo ?_ | refine tBl ?_)
      refine (wp_ix_dk st.ob kj_at).mpr ?_
      repeat (first | refine sCons ?_ | refine sNil ?_ | refine sAsgN ?_ | refine sSub ?_ | refine sRet ?_ | refine sIf ?_ | refine sExpr ?_ | refine eVar rfl ?_ | refine eLit ?_ | refine eBin ?_ | refine eCmp ?_ | refine eIdx ?_ | refine eNt ?_ | refine eAnd ?_ | refine eOr ?_ | refine eBif ?_ | refine esNil ?_ | refine esCons ?_ | refine eLst ?_ | refine eTup ?_ | refine eMth ?_ | refine eCall ?_ | refine eSl ?_ | refine pNo ?_ | refine tBl ?_)
      refine len _ ?_
      rw [opC_lt_i, wp_ret]
      repeat (first | refine sCons ?_ | refine sNil ?_ | refine sAsgN ?_ | refine sSub ?_ | refine sRet ?_ | refine sIf ?_ | refine sExpr ?_ | refine eVar rfl ?_ | refine eLit ?_ | refine eBin ?_ | refine eCmp ?_ | refine eIdx ?_ | refine eNt ?_ | refine eAnd ?_ | refine eOr ?_ | refine eBif ?_ | refine esNil ?_ | refine esCons ?_ | refine eLst ?_ | refine eTup ?_ | refine eMth ?_ | refine eCall ?_ | refine eSl ?_ | refine pNo ?_ | refine tBl ?_)
      refine iteB (fun h2 => ?_) (fun h2 => ?_)
      · refine wp_imp (go (.inr (of_decide_eq_true h2))) fun fl S' z => ?_
        cases fl <;> first | exact z | exact z.elim
      · refine sNil ?_
        exact tail
  · rw [ho]
    refine tBl ?_
    refine iteF ?_
    refine sNil ?_
    exact tail
def ab6 (i : Int) : Int := if i < 0 then -i else i
def gAb6 : D → D
  | .int i => .int (ab6 i)
  | d => d
theorem ab6_nn (i : Int) : 0 ≤ ab6 i := by unfold ab6; split <;> omega
theorem begun6 {P : Prg} {k i : Nat} (hf : P.fns[i]? = some ⟨1, 3, bBegun6⟩) {S : Store} {sv : D} {ns : List Int} (hs : Script sv ns S) (hl : ns.length ≤ 63) :
    wp (callN P (k + 1) i [sv]) S fun d S' => ∃ n, d = .ref n ∧ St6 S' n 2583 ∧ Le S S' ∧ S.length ≤ n := by
  refine callR (ρ := [some sv, none, none]) hf rfl rfl ?_
  unfold bBegun6
  have rest : ∀ o : Bool, wp (evSs (ctl P k) P.fuel (stTail bBegun6 1) [some sv, some (.bl o), none]) S fun fl S' => match fl with
      | .nx _ => ∃ n, D.non = .ref n ∧ St6 S' n 2583 ∧ Le S S' ∧ S.length ≤ n
      | .rt d => ∃ n, d = .ref n ∧ St6 S' n 2583 ∧ Le S S' ∧ S.length ≤ n
      | _ => False := by
    intro o
    unfold bBegun6
    refine sCons (sRet (eDct (esCons (eLit (esCons (eMap (g := gAb6) (rSeq (eVar rfl (hs.seq fun q ov => ⟨_, ov, by rw [List.length_map]; show _ ≤ 16777216; omega, ?_, ?_⟩)))))))))
    · intro d hd S2 l2
      obtain ⟨z, hz, rfl⟩ := List.mem_map.mp hd
      refine ⟨_, rfl, ?_⟩
      repeat (first | refine sCons ?_ | refine sNil ?_ | refine sAsgN ?_ | refine sSub ?_ | refine sRet ?_ | refine sIf ?_ | refine sExpr ?_ | refine eVar rfl ?_ | refine eLit ?_ | refine eBin ?_ | refine eCmp ?_ | refine eIdx ?_ | refine eNt ?_ | refine eAnd ?_ | refine eOr ?_ | refine eBif ?_ | refine esNil ?_ | refine esCons ?_ | refine eLst ?_ | refine eTup ?_ | refine eMth ?_ | refine eCall ?_ | refine eSl ?_ | refine pNo ?_ | refine tBl ?_)
      exact wp_ret.mpr ⟨rfl, Le.refl _⟩
    · intro S2 l2
      repeat (first | refine sCons ?_ | refine sNil ?_ | refine sAsgN ?_ | refine sSub ?_ | refine sRet ?_ | refine sIf ?_ | refine sExpr ?_ | refine eVar rfl ?_ | refine eLit ?_ | refine eBin ?_ | refine eCmp ?_ | refine eIdx ?_ | refine eNt ?_ | refine eAnd ?_ | refine eOr ?_ | refine eBif ?_ | refine esNil ?_ | refine esCons ?_ | refine eLst ?_ | refine eTup ?_ | refine eMth ?_ | refine eCall ?_ | refine eSl ?_ | refine pNo ?_ | refine tBl ?_)
      refine (hs.le (l2.trans (Le.new _ _))).len ?_
      rw [opB_add_i, wp_ret]
      repeat (first | refine sCons ?_ | refine sNil ?_ | refine sAsgN ?_ | refine sSub ?_ | refine sRet ?_ | refine sIf ?_ | refine sExpr ?_ | refine eVar rfl ?_ | refine eLit ?_ | refine eBin ?_ | refine eCmp ?_ | refine eIdx ?_ | refine eNt ?_ | refine eAnd ?_ | refine eOr ?_ | refine eBif ?_ | refine esNil ?_ | refine esCons ?_ | refine eLst ?_ | refine eTup ?_ | refine eMth ?_ | refine eCall ?_ | refine eSl ?_ | refine pNo ?_ | refine tBl ?_)
      refine wp_bnd.mpr (wp_lft.mpr ((wp_grd ?_).mpr (wp_new.mpr ?_)))
      · show 6 ≤ 15
        decide
      · refine ⟨_, rfl, ⟨S2.length, ns.map ab6, 0, 0, 0, 7 + ns.length, o, ⟨get_new, get_old ?_, ?_, ?_, Int.le_refl _, Int.le_refl _, by omega⟩, Int.le_refl _, by rw [List.length_map]; omega⟩, (l2.trans (Le.new _ _)).trans (Le.new _ _), ?_⟩
        · rw [get_new, List.map_map, List.map_map]
          rfl
        · simp
        · intro x hx
          obtain ⟨y, _, rfl⟩ := List.mem_map.mp hx
          exact ab6_nn y
        · obtain ⟨X, rfl⟩ := l2
          simp
  repeat (first | refine sCons ?_ | refine sNil ?_ | refine sAsgN ?_ | refine sSub ?_ | refine sRet ?_ | refine sIf ?_ | refine sExpr ?_ | refine eVar rfl ?_ | refine eLit ?_ | refine eBin ?_ | refine eCmp ?_ | refine eIdx ?_ | refine eNt ?_ | refine eAnd ?_ | refine eOr ?_ | refine eBif ?_ | refine esNil ?_ | refine esCons ?_ | refine eLst ?_ | refine eTup ?_ | refine eMth ?_ | refine eCall ?_ | refine eSl ?_ | refine pNo ?_ | refine tBl ?_)
  refine hs.len ?_
  repeat (first | refine sCons ?_ | refine sNil ?_ | refine sAsgN ?_ | refine sSub ?_ | refine sRet ?_ | refine sIf ?_ | refine sExpr ?_ | refine eVar rfl ?_ | refine eLit ?_ | refine eBin ?_ | refine eCmp ?_ | refine eIdx ?_ | refine eNt ?_ | refine eAnd ?_ | refine eOr ?_ | refine eBif ?_ | refine esNil ?_ | refine esCons ?_ | refine eLst ?_ | refine eTup ?_ | refine eMth ?_ | refine eCall ?_ | refine eSl ?_ | refine pNo ?_ | refine tBl ?_)
  rw [opC_gt_i, wp_ret]
  repeat (first | refine sCons ?_ | refine sNil ?_ | refine sAsgN ?_ | refine sSub ?_ | refine sRet ?_ | refine sIf ?_ | refine sExpr ?_ | refine eVar rfl ?_ | refine eLit ?_ | refine eBin ?_ | refine eCmp ?_ | refine eIdx ?_ | refine eNt ?_ | refine eAnd ?_ | refine eOr ?_ | refine eBif ?_ | refine esNil ?_ | refine esCons ?_ | refine eLst ?_ | refine eTup ?_ | refine eMth ?_ | refine eCall ?_ | refine eSl ?_ | refine pNo ?_ | refine tBl ?_)
  refine iteB (fun h => ?_) (fun h => ?_)
  · obtain ⟨z, hz⟩ := hs.ix (of_decide_eq_true h)
    repeat (first | refine sCons ?_ | refine sNil ?_ | refine sAsgN ?_ | refine sSub ?_ | refine sRet ?_ | refine sIf ?_ | refine sExpr ?_ | refine eVar rfl ?_ | refine eLit ?_ | refine eBin ?_ | refine eCmp ?_ | refine eIdx ?_ | refine eNt ?_ | refine eAnd ?_ | refine eOr ?_ | refine eBif ?_ | refine esNil ?_ | refine esCons ?_ | refine eLst ?_ | refine eTup ?_ | refine eMth ?_ | refine eCall ?_ | refine eSl ?_ | refine pNo ?_ | refine tBl ?_)
    refine hz _ ?_
    repeat (first | refine sCons ?_ | refine sNil ?_ | refine sAsgN ?_ | refine sSub ?_ | refine sRet ?_ | refine sIf ?_ | refine sExpr ?_ | refine eVar rfl ?_ | refine eLit ?_ | refine eBin ?_ | refine eCmp ?_ | refine eIdx ?_ | refine eNt ?_ | refine eAnd ?_ | refine eOr ?_ | refine eBif ?_ | refine esNil ?_ | refine esCons ?_ | refine eLst ?_ | refine eTup ?_ | refine eMth ?_ | refine eCall ?_ | refine eSl ?_ | refine pNo ?_ | refine tBl ?_)
    rw [opB_mod_i (by decide), wp_ret]
    repeat (first | refine sCons ?_ | refine sNil ?_ | refine sAsgN ?_ | refine sSub ?_ | refine sRet ?_ | refine sIf ?_ | refine sExpr ?_ | refine eVar rfl ?_ | refine eLit ?_ | refine eBin ?_ | refine eCmp ?_ | refine eIdx ?_ | refine eNt ?_ | refine eAnd ?_ | refine eOr ?_ | refine eBif ?_ | refine esNil ?_ | refine esCons ?_ | refine eLst ?_ | refine eTup ?_ | refine eMth ?_ | refine eCall ?_ | refine eSl ?_ | refine pNo ?_ | refine tBl ?_)
    rw [wp_eq_int]
    exact rest _
  · exact rest _
end VM
namespace VM
open PySem
def itD (p : Nk × Int) : D := .tup [nkD p.1, .int p.2]
theorem mapM_ints : ∀ r : List Int, (r.map D.int).mapM intD = some r
  | [] => rfl
  | x :: r => by
    rw [List.map_cons, List.mapM_cons, mapM_ints r]
    rfl
theorem nkOf_nk (k : Nk) : nkOf (nkD k) = some k := by
  obtain ⟨m, r⟩ := k
  show ((r.map D.int).mapM intD).map (fun l => (m, l)) = some (m, r)
  rw [mapM_ints]
  rfl
/-- such a dict in the store; the empty one may be of any keys -/
def NdS (S : Store) (b : Nat) (kvs : List (Nk × Int)) : Prop := S[b]? = some (.nd kvs) ∨ (kvs = [] ∧ S[b]? = some (.dk []))
theorem NdS.le {S S' : Store} {b : Nat} {kvs : List (Nk × Int)} (h : NdS S b kvs) (l : Le S S') : NdS S' b kvs := h.imp l.get fun z => ⟨z.1, l.get z.2⟩
section
variable {S : Store} {b : Nat} {kvs : List (Nk × Int)} {Q : D → Store → Prop} {k : Nk} {c : Int}
theorem wp_ndM {Q : List (Nk × Int) → Store → Prop} (h : NdS S b kvs) (q : Q kvs S) : wp (ndM (.ref b)) S Q := by
  rcases h with h | ⟨rfl, h⟩ <;> exact wp_bnd.mpr ((wp_rd h).mpr (wp_ret.mpr q))
theorem wp_nget (h : NdS S b kvs) (q : Q (.int ((nget kvs k).getD c)) S) : wp (ngetR (.ref b) (nkD k) (.int c)) S Q := by
  refine wp_bnd.mpr (wp_ndM h (wp_bnd.mpr ?_))
  rw [nkOf_nk]
  exact wp_lft.mpr (wp_bnd.mpr (wp_lft.mpr (wp_ret.mpr q)))
theorem wp_srn (h : NdS S b kvs) (q : Q (.ref S.length) (S ++ [.lst ((sortI kvs).map itD)])) : wp (srnR (.ref b)) S Q := wp_bnd.mpr (wp_ndM h (wp_new.mpr q))
theorem wp_setN {Q : Unit → Store → Prop} (h : NdS S b kvs) (hl : kvs.length < big) (q : Q () (S.set b (.nd (nput kvs k c)))) : wp (opSet (.ref b) (nkD k) (.int c)) S Q := by
  rcases h with h | ⟨rfl, h⟩
  · refine wp_bnd.mpr ((wp_rd h).mpr ?_)
    show wp (bnd (lft (nkOf (nkD k))) _) S Q
    rw [nkOf_nk]
    exact wp_bnd.mpr (wp_lft.mpr (wp_bnd.mpr (wp_lft.mpr ((wp_grd hl).mpr (wp_put.mpr q)))))
  · refine wp_bnd.mpr ((wp_rd h).mpr ?_)
    show wp (match nkOf (nkD k) with
      | some k => bnd (lft (intD (.int c))) fun c => if ([] : List (Key × D)).isEmpty = true then put b (.nd (nput [] k c)) else bad
      | none => bnd (lft (keyOf (nkD k))) fun k => if ([] : List (Key × D)).length < big then put b (.dk (kput [] k (.int c))) else bad) S Q
    rw [nkOf_nk]
    exact wp_bnd.mpr (wp_lft.mpr ((wp_grd rfl).mpr (wp_put.mpr q)))
theorem wp_lenN (h : NdS S b kvs) (q : Q (.int kvs.length) S) : wp (bifR .len [.ref b]) S Q := by
  rcases h with h | ⟨rfl, h⟩
  · exact wp_bnd.mpr ((wp_rd h).mpr (wp_ret.mpr q))
  · exact wp_bnd.mpr ((wp_rd h).mpr (wp_ret.mpr q))
theorem NdS.ty (h : NdS S b kvs) : tyN S (.ref b) = some 5 := by
  unfold tyN
  dsimp only
  rcases h with h | ⟨rfl, h⟩ <;> rw [h]
theorem wp_sm {p : Nat} {ns : List Int} (h : S[p]? = some (.lst (ns.map D.int))) (q : Q (.int ns.sum) S) : wp (smR (.ref p)) S Q := by
  refine wp_bnd.mpr ((wp_lst h).mpr (wp_bnd.mpr ?_))
  rw [mapM_ints]
  exact wp_lft.mpr (wp_ret.mpr q)
end
section
variable {C : Ctl} {ρ : Env} {S : Store} {Q : D → Store → Prop}
theorem eNget {a k x : Exp} (h : wp (evE C a ρ) S fun d S1 => wp (ndM d) S1 fun _ S2 => wp (evE C k ρ) S2 fun y S3 => wp (evE C x ρ) S3 fun z S4 => wp (ngetR d y z) S4 Q) : wp (evE C (.nget a k x) ρ) S Q :=
  wp_bnd.mpr (wp_imp h fun _ _ z => wp_bnd.mpr (wp_imp z fun _ _ z => wp_bnd.mpr (wp_imp z fun _ _ z => wp_bnd.mpr z)))
theorem eSrn {a : Exp} (h : wp (evE C a ρ) S fun d S1 => wp (srnR d) S1 Q) : wp (evE C (.srn a) ρ) S Q := wp_bnd.mpr h
theorem eSm {a : Exp} (h : wp (evE C a ρ) S fun d S1 => wp (smR d) S1 Q) : wp (evE C (.sm a) ρ) S Q := wp_bnd.mpr h
theorem eIsp {a : Exp} {i j : Nat} (h : wp (evE C a ρ) S fun x S' => ∃ t, tyN S' x = some t ∧ i < 6 ∧ j < 6 ∧ Q (.bl ((t == i || (t == 1 && i == 0)) || (t == j || (t == 1 && j == 0)))) S') : wp (evE C (.isp a i j) ρ) S Q := wp_bnd.mpr (wp_imp h fun x S' z => by
  obtain ⟨t, h1, h2, h3, q⟩ := z
  have key : ∀ (n : Nat) (Q : Bool → Store → Prop), n < 6 → Q (t == n || (t == 1 && n == 0)) S' → wp (isiB n x) S' Q := by
    intro n Q hn q
    refine ⟨_, S', ?_, q⟩
    unfold isiB
    rw [h1]
    dsimp only
    rw [if_pos hn]
  exact wp_bnd.mpr (key i _ h2 (wp_bnd.mpr (key j _ h3 (wp_ret.mpr q)))))
/-- a locked one given back -/
theorem eLkN {i b : Nat} {e : Exp} {kvs : List (Nk × Int)} (hv : getV ρ i = some (.ref b)) (hb : S[b]? = some (.nd kvs)) (h : wp (evE C e ρ) (S.set b (.nf kvs)) fun d S' => S'[b]? = some (.nf kvs) ∧ Q d (S'.set b (.nd kvs))) : wp (evE C (.lkE i e) ρ) S Q := by
  refine wp_bnd.mpr ?_
  rw [hv]
  refine wp_lft.mpr ?_
  obtain ⟨d, S', h1, h2, h3⟩ := h
  refine ⟨d, _, ?_, h3⟩
  unfold lockN
  dsimp only
  rw [hb]
  dsimp only
  rw [h1]
  dsimp only
  rw [h2]
theorem eLkE {i b : Nat} {e : Exp} (hv : getV ρ i = some (.ref b)) (hb : S[b]? = some (.dk [])) (h : wp (evE C e ρ) (S.set b (.fk [])) fun d S' => S'[b]? = some (.fk []) ∧ Q d (S'.set b (.dk []))) : wp (evE C (.lkE i e) ρ) S Q := by
  refine wp_bnd.mpr ?_
  rw [hv]
  refine wp_lft.mpr ?_
  obtain ⟨d, S', h1, h2, h3⟩ := h
  refine ⟨d, _, ?_, h3⟩
  unfold lockN
  dsimp only
  rw [hb]
  dsimp only
  rw [h1]
  dsimp only
  rw [h2]
theorem rNdi {i b : Nat} {kvs : List (Nk × Int)} {Q : Seq → Store → Prop} (hv : getV ρ i = some (.ref b)) (hb : S[b]? = some (.nf kvs) ∨ (kvs = [] ∧ S[b]? = some (.fk []))) (q : Q (.fix (kvs.map itD)) S) : wp (evSrc C (.ndi i) ρ) S Q := by
  refine wp_bnd.mpr ?_
  rw [hv]
  refine wp_lft.mpr (wp_bnd.mpr ⟨kvs.map itD, S, ?_, wp_ret.mpr q⟩)
  unfold itemsN
  dsimp only
  rcases hb with hb | ⟨rfl, hb⟩
  · rw [hb]
    rfl
  · rw [hb]
    rfl
theorem eDcn {own : List Nat} {tg : Tg} {src : Src} {ifs : Exps} {ek ev : Exp} (h : wp (evSrc C src ρ) S fun q S1 => ∃ (l : List D) (J : Nat → List (Nk × Int) → Store → Prop), Over q S1 l (fun i S => ∃ acc, J i acc S) ∧ J 0 [] S1 ∧
    (∀ i d acc S2, l[i]? = some d → J i acc S2 → ∃ ρ', bind1 tg d (wip ρ own) = some ρ' ∧ wp (evIf C ifs ρ') S2 fun g S3 => if g = true then wp (evE C ek ρ') S3 fun x S4 => ∃ k, nkOf x = some k ∧ wp (evE C ev ρ') S4 fun y S5 => ∃ c, intD y = some c ∧ acc.length < big ∧ J (i + 1) (nput acc k c) S5 else J (i + 1) acc S3) ∧
    ∀ acc S2, J l.length acc S2 → Q (.ref S2.length) (S2 ++ [.nd acc])) : wp (evE C (.dcn own tg src ifs ek ev) ρ) S Q := by
  refine wp_bnd.mpr (wp_imp h fun q S1 z => ?_)
  obtain ⟨l, J, ov, j0, hs, he⟩ := z
  refine wp_bnd.mpr ⟨_, S1, rfl, wp_bnd.mpr (wp_noExc ?_)⟩
  rw [ov.size]
  refine wp_imp (wp_cmpI ov (fun i d acc S2 hd j => ?_) l.length 0 [] S1 (by omega) j0) fun acc S2 z => wp_new.mpr (he acc S2 z)
  obtain ⟨ρ', hb, hw⟩ := hs i d acc S2 hd j
  refine wp_bnd.mpr ?_
  rw [hb]
  refine wp_lft.mpr (wp_bnd.mpr (wp_imp hw fun g S3 z => ?_))
  cases g with
  | false => exact wp_ret.mpr z
  | true =>
    refine wp_bnd.mpr (wp_imp (Q := fun x S4 => ∃ k, nkOf x = some k ∧ wp (evE C ev ρ') S4 fun y S5 => ∃ c, intD y = some c ∧ acc.length < big ∧ J (i + 1) (nput acc k c) S5) z fun x S4 z => ?_)
    obtain ⟨k, hk, z⟩ := z
    refine wp_bnd.mpr ?_
    rw [hk]
    refine wp_lft.mpr (wp_bnd.mpr (wp_imp z fun y S5 z => wp_bnd.mpr ?_))
    obtain ⟨c, hc, hl, z⟩ := z
    rw [hc]
    exact wp_lft.mpr ((wp_grd hl).mpr (wp_ret.mpr z))
theorem iNil {Q : Bool → Store → Prop} (q : Q true S) : wp (evIf C .nil ρ) S Q := wp_ret.mpr q
theorem iCons {e : Exp} {es : Exps} {Q : Bool → Store → Prop} (h : wp (evE C e ρ) S fun d S1 => wp (truth d) S1 fun g S2 => if g = true then wp (evIf C es ρ) S2 Q else Q false S2) : wp (evIf C (.cons e es) ρ) S Q :=
  wp_bnd.mpr (wp_imp h fun _ _ z => wp_bnd.mpr (wp_imp z fun g _ z => by
    cases g with
    | true => exact z
    | false => exact wp_ret.mpr z))
end
end VM
namespace VM
open PySem
/-- it raises the n-th class, and so -/
def rz {α : Type} (m : M α) (S : Store) (n : Nat) (Q : Store → Prop) : Prop := ∃ S', m S = .exc n S' ∧ Q S'
end VM
namespace VM
open PySem
def Tm.low : Tm → Bool
  | .num k => decide (k.natAbs ≤ 20)
  | .nt c => c.low
  | .bin _ a b => a.low && b.low
  | _ => true
/-- a drawn term: of its kind, small -/
structure Dr (cols : List (List Nat)) (kd : Bool) (e : Nat) (tm : Tm) : Prop where
  wf : tm.wf cols = true
  kd : tm.kind = kd
  sz : tm.sz + 1 ≤ 2 ^ e
  dep : tm.dep ≤ e
  low : tm.low = true
theorem Dr.mono {cols : List (List Nat)} {kd : Bool} {e e' : Nat} {tm : Tm} (h : Dr cols kd e tm) (l : e ≤ e') : Dr cols kd e' tm := ⟨h.wf, h.kd, Nat.le_trans h.sz (Nat.pow_le_pow_right (by decide) l), Nat.le_trans h.dep l, h.low⟩
theorem Dr.bin {cols : List (List Nat)} {e : Nat} {a b : Tm} {o : Op} (h : Dr cols o.kin e a) (g : Dr cols o.kin e b) : Dr cols o.kout (e + 1) (.bin o a b) := by
  refine ⟨?_, rfl, ?_, ?_, ?_⟩
  · show ((a.wf cols && (a.kind == o.kin)) && (b.wf cols && (b.kind == o.kin))) = true
    rw [h.wf, g.wf, h.kd, g.kd]
    simp
  · have := h.sz
    have := g.sz
    show 1 + a.sz + b.sz + 1 ≤ 2 ^ (e + 1)
    rw [Nat.pow_succ]
    omega
  · have := h.dep
    have := g.dep
    show 1 + max a.dep b.dep ≤ _
    omega
  · show (a.low && b.low) = true
    rw [h.low, g.low]
    rfl
theorem Dr.nt {cols : List (List Nat)} {e : Nat} {a : Tm} (h : Dr cols false e a) : Dr cols false (e + 1) (.nt a) := by
  refine ⟨?_, rfl, ?_, ?_, h.low⟩
  · show (a.wf cols && (a.kind == false)) = true
    rw [h.wf, h.kd]
    rfl
  · have := h.sz
    show 1 + a.sz + 1 ≤ 2 ^ (e + 1)
    rw [Nat.pow_succ]
    omega
  · have := h.dep
    show 1 + a.dep ≤ _
    omega
end VM
namespace VM
open PySem
end VM
namespace VM
open PySem
end VM
namespace VM
open PySem
end VM
namespace VM
open PySem
/-- may be shown: of leaves of at most 40 signs -/
structure Nm (d : PyData) (a b : Nat) : Prop where
  sh : d.leavesShort 40 = true
  st : strsOk d = true
  show_ : d.showable = true
  dep : d.depth ≤ a
  wt : d.weight ≤ b
structure NmL (ds : List PyData) (a b : Nat) : Prop where
  sh : PyData.leavesShortAll 40 ds = true
  st : strsOkA ds = true
  show_ : PyData.showableAll ds = true
  dep : PyData.depthAll ds ≤ a
  wt : PyData.weightAll ds ≤ b
theorem NmL.nil {a : Nat} : NmL [] a 0 := ⟨rfl, rfl, rfl, Nat.zero_le _, Nat.le_refl _⟩
theorem NmL.cons {d : PyData} {ds : List PyData} {a b c : Nat} (h : Nm d a b) (t : NmL ds a c) : NmL (d :: ds) a (b + 1 + c) := by
  refine ⟨?_, ?_, ?_, ?_, ?_⟩
  · show (d.leavesShort 40 && PyData.leavesShortAll 40 ds) = true
    rw [h.sh, t.sh]; rfl
  · show (strsOk d && strsOkA ds) = true
    rw [h.st, t.st]; rfl
  · show (d.showable && PyData.showableAll ds) = true
    rw [h.show_, t.show_]; rfl
  · exact Nat.max_le.mpr ⟨h.dep, t.dep⟩
  · have := h.wt
    have := t.wt
    show d.weight + 1 + PyData.weightAll ds ≤ _
    omega
theorem NmL.tup {ds : List PyData} {a b : Nat} (h : NmL ds a b) : Nm (.tuple ds) (a + 1) b := ⟨h.sh, h.st, h.show_, Nat.succ_le_succ h.dep, h.wt⟩
theorem NmL.list {ds : List PyData} {a b : Nat} (h : NmL ds a b) : Nm (.list ds) (a + 1) b := ⟨h.sh, h.st, h.show_, Nat.succ_le_succ h.dep, h.wt⟩
theorem NR.mx {d : PyData} {a b : Nat} {f : Bool} (h : NR d a b f) : Nm d a b := ⟨h.sh, h.st, h.show_, h.dep, h.wt⟩
def Mx (S : Store) (m : Nat) (d : VM.D) (b : Nat) : Prop := ∃ p, deepR S m d = some p ∧ Nm p m b
section
variable {S S' : Store} {m b : Nat}
theorem Th.mx {d : VM.D} {f : Bool} (h : Th S m d b f) : Mx S m d b := let ⟨p, h1, h2⟩ := h; ⟨p, h1, h2.mx⟩
theorem Mx.mono {d : VM.D} {b' : Nat} (h : Mx S m d b) (hb : b ≤ b') : Mx S m d b' := let ⟨p, h1, h2⟩ := h; ⟨p, h1, h2.sh, h2.st, h2.show_, h2.dep, Nat.le_trans h2.wt hb⟩
theorem Mx.up {d : VM.D} (h : Mx S m d b) : Mx S (m + 1) d b := let ⟨p, h1, h2⟩ := h; ⟨p, deepR_up _ _ _ h1, h2.sh, h2.st, h2.show_, Nat.le_succ_of_le h2.dep, h2.wt⟩
theorem Mx.le {d : VM.D} (h : Mx S m d b) (l : Le S S') : Mx S' m d b := let ⟨p, h1, h2⟩ := h; ⟨p, deepR_keep (fun _ _ e _ => l.get e) _ _ _ h1, h2⟩
end
def Tm.word : Tm → List Nat
  | .col _ => wColumn
  | .num _ => wNumber
  | .yes => wYes
  | .nt _ => wNot
  | .bin o _ _ => o.w
def Tm.args : Tm → List VM.D
  | .col w => [.str w]
  | .num k => [.int k]
  | .yes => []
  | .nt c => [c.toD]
  | .bin _ a b => [a.toD, b.toD]
structure Odd (cols : List (List Nat)) (kd : Bool) (S : Store) (m b z : Nat) (d : VM.D) : Prop where
  mx : Mx S m d b
  no : termB cols d kd = false
  sz : szD d ≤ z
theorem Odd.le {cols : List (List Nat)} {kd : Bool} {S S' : Store} {m b z : Nat} {d : VM.D} (h : Odd cols kd S m b z d) (l : Le S S') : Odd cols kd S' m b z d := ⟨h.mx.le l, h.no, h.sz⟩
end VM
namespace VM
open PySem
def bAlike (f : Nat) : Stms := (.cons (.ife (.isi (.var 1) 5) (.cons (.ife (.or (.nt (.isi (.var 0) 5)) (.cmp .ne (.bif .len (.cons (.var 0) .nil)) (.bif .len (.cons (.var 1) .nil)))) (.cons (.ret (.lit (.bl false))) .nil) .nil) (.cons (.ret (.call f (.cons (.srn (.var 0)) (.cons (.srn (.var 1)) .nil)))) .nil)) .nil) (.cons (.ife (.isp (.var 1) 3 4) (.cons (.ife (.or (.cmp .ne (.isi (.var 0) 3) (.isi (.var 1) 3)) (.cmp .ne (.isi (.var 0) 4) (.isi (.var 1) 4))) (.cons (.ret (.lit (.bl false))) .nil) .nil) (.cons (.ret (.and (.cmp .eq (.bif .len (.cons (.var 0) .nil)) (.bif .len (.cons (.var 1) .nil))) (.bif .all (.cons (.lc [2] (.name 2) (.rng1 (.bif .len (.cons (.var 1) .nil))) .nil (.call f (.cons (.idx (.var 0) (.var 2)) (.cons (.idx (.var 1) (.var 2)) .nil)))) .nil)))) .nil)) .nil) (.cons (.ret (.and (.cmp .eq (.isi (.var 0) 1) (.isi (.var 1) 1)) (.cmp .eq (.var 0) (.var 1)))) .nil)))
/-- a number, or a tuple of such, so deep at most -/
def PlD : Nat → D → Prop
  | _, .int _ => True
  | n + 1, .tup l => l.length ≤ 1000 ∧ ∀ x ∈ l, PlD n x
  | _, _ => False
theorem pl_nk (k : Nk) (h : k.2.length ≤ 100) : PlD 2 (nkD k) := by
  refine ⟨by show 2 ≤ 1000; decide, fun x hx => ?_⟩
  rcases List.mem_cons.mp hx with rfl | hx
  · exact True.intro
  · rw [List.mem_singleton.mp hx]
    refine ⟨by rw [List.length_map]; omega, fun y hy => ?_⟩
    obtain ⟨z, _, rfl⟩ := List.mem_map.mp hy
    exact True.intro
theorem pl_it (p : Nk × Int) (h : p.1.2.length ≤ 100) : PlD 3 (itD p) := by
  refine ⟨by show 2 ≤ 1000; decide, fun x hx => ?_⟩
  rcases List.mem_cons.mp hx with rfl | hx
  · exact pl_nk _ h
  · rw [List.mem_singleton.mp hx]
    exact True.intro
theorem wp_all_tt {S : Store} {n : Nat} {l : List D} {Q : D → Store → Prop} (h : S[n]? = some (.lst (l.map fun _ => D.bl true))) (q : Q (.bl true) S) : wp (bifR .all [.ref n]) S Q :=
  wp_all_true (n := n) h (fun d hd => by obtain ⟨_, _, rfl⟩ := List.mem_map.mp hd; rfl) q
section
variable {P : Prg} {i : Nat} {S : Store}
theorem wp_eqBl {b : Bool} {Q : D → Store → Prop} (q : Q (.bl true) S) : wp (opC .eq (.bl b) (.bl b)) S Q := wp_eqS (p := .bool b) rfl rfl (nice_bl b) (by decide) q
theorem ls_look (k : Nat) (hf : P.fns[i]? = some ⟨2, 3, bAlike i⟩) {x y : D} {t : Nat} {l : List D} (tx : ∀ S', Le S S' → tyN S' x = some t ∧ tyN S' y = some t) (ht : t = 3 ∨ t = 4)
    (lx : ∀ S', Le S S' → ∀ Q : D → Store → Prop, Q (.int l.length) S' → wp (bifR .len [x]) S' Q ∧ wp (bifR .len [y]) S' Q)
    (ix : ∀ S', Le S S' → ∀ (j : Nat) (d : D), l[j]? = some d → ∀ Q : D → Store → Prop, Q d S' → wp (opIx x (.int j)) S' Q ∧ wp (opIx y (.int j)) S' Q) (hl : l.length ≤ 1000)
    (hit : ∀ S', Le S S' → ∀ d ∈ l, wp (callN P k i [d, d]) S' fun r S2 => r = .bl true ∧ Le S' S2) :
    wp (callN P (k + 1) i [x, y]) S fun r S2 => r = .bl true ∧ Le S S2 := by
  have t0 := tx S (Le.refl _)
  refine callR (ρ := [some x, some y, none]) hf rfl rfl ?_
  unfold bAlike
  refine sCons (sIf (eIsi (eVar rfl ⟨t, t0.2, by decide, ?_⟩)))
  refine tBl ?_
  rw [show (t == 5 || (t == 1 && (5 == 0))) = false by rcases ht with rfl | rfl <;> rfl]
  refine iteF (sNil ?_)
  refine sCons (sIf (eIsp (eVar rfl ⟨t, t0.2, by decide, by decide, ?_⟩)))
  refine tBl ?_
  rw [show ((t == 3 || (t == 1 && (3 == 0))) || (t == 4 || (t == 1 && (4 == 0)))) = true by rcases ht with rfl | rfl <;> rfl]
  refine iteT ?_
  refine sCons (sIf (eOr (eCmp (eIsi (eVar rfl ⟨t, t0.1, by decide, eIsi (eVar rfl ⟨t, t0.2, by decide, wp_neBl (tBl (iteF ?_))⟩)⟩)))))
  refine eCmp (eIsi (eVar rfl ⟨t, t0.1, by decide, eIsi (eVar rfl ⟨t, t0.2, by decide, wp_neBl (tBl (iteF (sNil ?_)))⟩)⟩))
  refine sCons (sRet (eAnd (eCmp (eBif (esCons (eVar rfl (esNil ((lx S (Le.refl _) _ ?_).1))))))))
  refine eBif (esCons (eVar rfl (esNil ((lx S (Le.refl _) _ ?_).2))))
  refine wp_eq_int.mpr (tBl ?_)
  rw [show decide ((l.length : Int) = l.length) = true from decide_eq_true rfl]
  refine iteT ?_
  refine eBif (esCons (eMap (g := fun _ => D.bl true) (rRng1 (eBif (esCons (eVar rfl (esNil ((lx S (Le.refl _) _ ⟨_, rfl, ?_, ?_⟩).2))))))))
  · unfold rngOk
    rw [decide_eq_true (show -(2 ^ 62 : Int) ≤ l.length by omega), decide_eq_true (show (l.length : Int) < 2 ^ 62 by omega)]
    rfl
  · refine ⟨_, Over.rng, ?_, ?_, ?_⟩
    · show (rngL 0 (l.length : Int).toNat).length ≤ 16777216
      unfold rngL
      rw [List.length_map, List.length_range]
      omega
    · intro d hd S2 l2
      obtain ⟨j, hj⟩ := List.mem_iff_getElem?.mp hd
      obtain ⟨hlt, rfl⟩ := rngL_get hj
      have hlt : j < l.length := by omega
      refine ⟨_, rfl, ?_⟩
      refine eCall (esCons (eIdx (eVar rfl (eVar rfl ?_))))
      have e0 : ((0 : Int) + (j : Int)) = (j : Int) := by omega
      rw [e0]
      refine (ix S2 l2 j _ (List.getElem?_eq_getElem hlt) _ ?_).1
      refine esCons (eIdx (eVar rfl (eVar rfl ?_)))
      refine (ix S2 l2 j _ (List.getElem?_eq_getElem hlt) _ ?_).2
      refine esNil ?_
      exact hit S2 l2 _ (List.getElem_mem hlt)
    · intro S2 l2
      refine esNil (wp_all_tt get_new ?_)
      exact ⟨rfl, l2.trans (Le.new _ _)⟩
theorem atI_j {α : Type} {l : List α} {j : Nat} {d : α} (h : l[j]? = some d) : atI l (j : Int) = some d := by
  unfold atI ixN
  have hlt := (List.getElem?_eq_some_iff.mp h).1
  rw [if_pos (by omega), if_pos (by omega)]
  show l[(j : Int).toNat]? = some d
  rw [Int.toNat_natCast]
  exact h
theorem alike_pl (hf : P.fns[i]? = some ⟨2, 3, bAlike i⟩) : ∀ (n : Nat) (d : D) (S : Store) (k : Nat), PlD n d → wp (callN P (k + n + 1) i [d, d]) S fun r S2 => r = .bl true ∧ Le S S2 := by
  have hz : ∀ (z : Int) (S : Store) (k : Nat), wp (callN P (k + 1) i [.int z, .int z]) S fun r S2 => r = .bl true ∧ Le S S2 := by
    intro z S k
    refine callR (ρ := [some (.int z), some (.int z), none]) hf rfl rfl ?_
    unfold bAlike
    refine sCons (sIf (eIsi (eVar rfl ⟨0, rfl, by decide, tBl (iteF (sNil ?_))⟩)))
    refine sCons (sIf (eIsp (eVar rfl ⟨0, rfl, by decide, by decide, tBl (iteF (sNil ?_))⟩)))
    refine sCons (sRet (eAnd (eCmp (eIsi (eVar rfl ⟨0, rfl, by decide, eIsi (eVar rfl ⟨0, rfl, by decide, wp_eqBl (tBl (iteT ?_))⟩)⟩)))))
    refine eCmp (eVar rfl (eVar rfl (wp_eq_int.mpr ?_)))
    exact ⟨by rw [decide_eq_true rfl], Le.refl _⟩
  intro n
  induction n with
  | zero =>
    intro d S k h
    cases d with
    | int z => exact hz z S _
    | _ => exact h.elim
  | succ n ih =>
    intro d S k h
    cases d with
    | int z => exact hz z S _
    | tup l =>
      obtain ⟨hl, hx⟩ := h
      refine ls_look (k + n + 1) hf (t := 3) (l := l) (fun _ _ => ⟨rfl, rfl⟩) (.inl rfl) (fun S' _ Q q => ⟨wp_ret.mpr q, wp_ret.mpr q⟩) (fun S' _ j d hd Q q => ⟨(wp_ix_tp (atI_j hd)).mpr q, (wp_ix_tp (atI_j hd)).mpr q⟩) hl fun S' _ d hd => ih d S' k (hx d hd)
    | _ => exact h.elim
theorem alike_ls (hf : P.fns[i]? = some ⟨2, 3, bAlike i⟩) {n k a b : Nat} {l : List D} {S : Store} (ha : S[a]? = some (.lst l)) (hb : S[b]? = some (.lst l)) (hl : l.length ≤ 1000) (hx : ∀ d ∈ l, PlD n d) :
    wp (callN P (k + n + 2) i [.ref a, .ref b]) S fun r S2 => r = .bl true ∧ Le S S2 := by
  refine ls_look (k + n + 1) hf (t := 4) (l := l) (fun S' le => ⟨by unfold tyN; dsimp only; rw [le.get ha], by unfold tyN; dsimp only; rw [le.get hb]⟩) (.inr rfl) (fun S' le Q q => ⟨(wp_len_ls (le.get ha)).mpr q, (wp_len_ls (le.get hb)).mpr q⟩)
    (fun S' le j d hd Q q => ⟨(wp_ix_ls (le.get ha) (atI_j hd)).mpr q, (wp_ix_ls (le.get hb) (atI_j hd)).mpr q⟩) hl fun S' _ d hd => alike_pl hf n d S' k (hx d hd)
theorem sortI_perm (kvs : List (Nk × Int)) : (sortI kvs).Perm kvs := List.mergeSort_perm _ _
/-- two such dicts, their items in order the same -/
theorem alike_nd (hf : P.fns[i]? = some ⟨2, 3, bAlike i⟩) {k a b : Nat} {u v : List (Nk × Int)} {S : Store} (ha : NdS S a u) (hb : NdS S b v) (e : sortI u = sortI v) (hl : u.length ≤ 1000) (hx : ∀ p ∈ u, p.1.2.length ≤ 100) :
    wp (callN P (k + 6) i [.ref a, .ref b]) S fun r S2 => r = .bl true ∧ Le S S2 := by
  have ll : u.length = v.length := by rw [← (sortI_perm u).length_eq, e, (sortI_perm v).length_eq]
  refine callR (ρ := [some (.ref a), some (.ref b), none]) hf rfl rfl ?_
  unfold bAlike
  refine sCons (sIf (eIsi (eVar rfl ⟨5, hb.ty, by decide, tBl (iteT ?_)⟩)))
  refine sCons (sIf (eOr (eNt (eIsi (eVar rfl ⟨5, ha.ty, by decide, tBl (tBl (iteF ?_))⟩)))))
  refine eCmp (eBif (esCons (eVar rfl (esNil (wp_lenN ha (eBif (esCons (eVar rfl (esNil (wp_lenN hb (wp_ne_int (tBl ?_))))))))))))
  rw [show (!decide ((u.length : Int) = v.length)) = false by rw [decide_eq_true (by omega)]; rfl]
  refine iteF (sNil ?_)
  refine sCons (sRet (eCall (esCons (eSrn (eVar rfl (wp_srn ha (esCons (eSrn (eVar rfl (wp_srn (hb.le (Le.new _ _)) (esNil ?_)))))))))))
  refine wp_imp (alike_ls (n := 3) (k := k) hf (l := (sortI u).map itD) (get_old get_new) (by rw [← e]; exact get_new) ?_ ?_) fun r S2 z => ⟨z.1, ((Le.new _ _).trans (Le.new _ _)).trans z.2⟩
  · rw [List.length_map, (sortI_perm u).length_eq]
    exact hl
  · intro d hd
    obtain ⟨p, hp, rfl⟩ := List.mem_map.mp hd
    exact pl_it p (hx p ((sortI_perm u).mem_iff.mp hp))
end
end VM
namespace VM
open PySem
def bSummed : Stms := (.cons (.asg (.name 1) .dct0) (.cons (.loop (.tup [(.name 2), (.name 3), (.name 4)]) (.seq (.var 0)) (.cons (.sub (.var 1) (.tup (.cons (.var 2) (.cons (.var 3) .nil))) (.bin .add (.nget (.var 1) (.tup (.cons (.var 2) (.cons (.var 3) .nil))) (.lit (.int 0))) (.var 4))) .nil)) (.cons (.ret (.lkE 1 (.dcn [5, 4] (.tup [(.name 5), (.name 4)]) (.ndi 1) (.cons (.cmp .ne (.var 4) (.lit (.int 0))) .nil) (.var 5) (.var 4)))) .nil)))
def tri (p : Nk × Int) : D := .tup [.int p.1.1, .tup (p.1.2.map D.int), .int p.2]
def addN (acc : List (Nk × Int)) (p : Nk × Int) : List (Nk × Int) := nput acc p.1 ((nget acc p.1).getD 0 + p.2)
def accN (L : List (Nk × Int)) : List (Nk × Int) := L.foldl addN []
def nzN (l : List (Nk × Int)) : List (Nk × Int) := l.filter fun p => !decide (p.2 = 0)
theorem nput_le (kvs : List (Nk × Int)) (k : Nk) (c : Int) : (nput kvs k c).length ≤ kvs.length + 1 := nput_len kvs k c
theorem accN_len (L : List (Nk × Int)) : (accN L).length ≤ L.length := by
  have key : ∀ (L acc : List (Nk × Int)), (L.foldl addN acc).length ≤ acc.length + L.length := by
    intro L
    induction L with
    | nil => intro acc; exact Nat.le_refl _
    | cons p L ih =>
      intro acc
      refine Nat.le_trans (ih (addN acc p)) ?_
      have : (addN acc p).length ≤ acc.length + 1 := nput_le _ _ _
      rw [List.length_cons]
      omega
  have := key L []
  rw [List.length_nil, Nat.zero_add] at this
  exact this
theorem accN_nd (L : List (Nk × Int)) : ((accN L).map (·.1)).Nodup := by
  have key : ∀ (L acc : List (Nk × Int)), (acc.map (·.1)).Nodup → ((L.foldl addN acc).map (·.1)).Nodup := by
    intro L
    induction L with
    | nil => intro acc h; exact h
    | cons p L ih => intro acc h; exact ih _ (nput_keys _ _ _ h)
  exact key L [] List.nodup_nil
theorem accN_snoc (L : List (Nk × Int)) (p : Nk × Int) : accN (L ++ [p]) = addN (accN L) p := by
  unfold accN
  rw [List.foldl_append]
  rfl
theorem wip_len : ∀ {ρ : Env} {vs : List Nat}, (wip ρ vs).length = ρ.length
  | _, [] => rfl
  | ρ, v :: vs => by
    show ((wip ρ vs).set v none).length = _
    rw [List.length_set, wip_len]
theorem take_snoc {α : Type} {l : List α} {i : Nat} {x : α} (h : l[i]? = some x) : l.take (i + 1) = l.take i ++ [x] := by rw [List.take_add_one, h]; rfl
/-- what is put behind one another, unlike all -/
theorem nput_new {kvs : List (Nk × Int)} {k : Nk} {c : Int} (h : k ∉ kvs.map (·.1)) : nput kvs k c = kvs ++ [(k, c)] := by
  unfold nput nget
  have e : (kvs.find? fun p => decide (p.1 = k)) = none := by
    rw [List.find?_eq_none]
    intro p hp q
    exact h (List.mem_map.mpr ⟨p, hp, of_decide_eq_true q⟩)
  rw [e]
  rfl
theorem set_mid {S : Store} {o o' : Obj} {X : Store} : (S ++ [o] ++ X).set S.length o' = S ++ [o'] ++ X := by
  rw [List.append_assoc, List.append_assoc, List.set_append_right _ _ (Nat.le_refl _), Nat.sub_self]
  rfl
theorem set_end {S : Store} {o o' : Obj} : (S ++ [o]).set S.length o' = S ++ [o'] := by
  rw [List.set_append_right _ _ (Nat.le_refl _), Nat.sub_self]
  rfl
section
variable {P : Prg} {k i : Nat} {S : Store}
/-- the last comprehension: what is not nought -/
theorem nz_dict {C : Ctl} {ρ : Env} {S : Store} {b : Nat} {kvs : List (Nk × Int)} {Q : D → Store → Prop} (nd : (kvs.map (·.1)).Nodup) (hl : kvs.length ≤ 100000) (hv : getV ρ 1 = some (.ref b)) (h6 : ρ.length = 6)
    (hb : S[b]? = some (.nf kvs) ∨ (kvs = [] ∧ S[b]? = some (.fk []))) (q : Q (.ref S.length) (S ++ [.nd (nzN kvs)])) :
    wp (evE C (.dcn [5, 4] (.tup [(.name 5), (.name 4)]) (.ndi 1) (.cons (.cmp .ne (.var 4) (.lit (.int 0))) .nil) (.var 5) (.var 4)) ρ) S Q := by
  refine eDcn (rNdi hv hb ⟨kvs.map itD, fun i acc S2 => S2 = S ∧ acc = nzN (kvs.take i), Over.fix, ⟨rfl, rfl⟩, ?_, ?_⟩)
  · rintro i d acc S2 hd ⟨rfl, rfl⟩
    rw [List.getElem?_map] at hd
    obtain ⟨p, hp, rfl⟩ := Option.map_eq_some_iff.mp hd
    have g5 : ∀ {x y : D}, getV (((wip ρ [5, 4]).set 5 (some x)).set 4 (some y)) 5 = some x := fun {x y} => by
      unfold getV
      rw [List.getElem?_set_ne (by decide), List.getElem?_set_self (by show 5 < (wip ρ [5, 4]).length; rw [wip_len]; omega)]
    have g4 : ∀ {x y : D}, getV (((wip ρ [5, 4]).set 5 (some x)).set 4 (some y)) 4 = some y := fun {x y} => by
      unfold getV
      rw [List.getElem?_set_self (by rw [List.length_set, wip_len]; omega)]
    refine ⟨_, rfl, iCons (eCmp (eVar g4 (eLit (wp_ne_int (tBl ?_)))))⟩
    have ht := take_snoc hp
    have hn : nzN (kvs.take (i + 1)) = if (!decide (p.2 = 0)) = true then nzN (kvs.take i) ++ [p] else nzN (kvs.take i) := by
      rw [ht]
      unfold nzN
      rw [List.filter_append, List.filter_cons, List.filter_nil]
      split
      · rfl
      · rw [List.append_nil]
    refine iteB (fun hz => ?_) (fun hz => ?_)
    · refine iNil ?_
      refine iteT ?_
      refine eVar g5 ⟨p.1, nkOf_nk _, eVar g4 ⟨p.2, rfl, ?_, rfl, ?_⟩⟩
      · have := List.length_filter_le (fun p : Nk × Int => !decide (p.2 = 0)) (kvs.take i)
        have := List.length_take_le i kvs
        show (nzN (kvs.take i)).length < 16777216
        unfold nzN
        have h3 : (kvs.take i).length ≤ kvs.length := by rw [List.length_take]; omega
        omega
      · rw [hn, if_pos hz]
        refine nput_new fun hm => ?_
        have nd2 : ((kvs.take (i + 1)).map (·.1)).Nodup := List.Nodup.sublist (List.Sublist.map _ (List.take_sublist _ _)) nd
        rw [ht, List.map_append, List.nodup_append] at nd2
        obtain ⟨q, hq, e⟩ := List.mem_map.mp hm
        exact nd2.2.2 q.1 (List.mem_map.mpr ⟨q, (List.mem_filter.mp hq).1, rfl⟩) p.1 (by simp) e
    · refine iteF ⟨rfl, ?_⟩
      rw [hn, if_neg (by rw [hz]; decide)]
  · rintro acc S2 ⟨rfl, rfl⟩
    rw [List.length_map, List.take_length]
    exact q
theorem summed_ok (hf : P.fns[i]? = some ⟨1, 6, bSummed⟩) {c : Nat} {L : List (Nk × Int)} (hc : S[c]? = some (.lst (L.map tri))) (hl : L.length ≤ 100000) :
    wp (callN P (k + 1) i [.ref c]) S fun d S' => ∃ o, d = .ref (S.length + 1) ∧ S' = S ++ [o] ++ [.nd (nzN (accN L))] := by
  refine callR (ρ := [some (.ref c), none, none, none, none, none]) hf rfl rfl ?_
  unfold bSummed
  refine sCons (sAsgN (eDct0 ?_))
  refine sCons (sLoop (rSeq (eVar rfl (seq_lst (get_old hc) ⟨L.map tri, fun i ρ S2 => ∃ x y z, ρ = [some (.ref c), some (.ref S.length), x, y, z, none] ∧ ((S2 = S ++ [.nd (accN (L.take i))]) ∨ (accN (L.take i) = [] ∧ S2 = S ++ [.dk []])), ?_, ⟨_, _, _, rfl, .inr ⟨rfl, rfl⟩⟩, ?_, ?_⟩))))
  · refine .at_ (get_old hc) fun i S2 ⟨ρ, x, y, z, _, h⟩ => ?_
    rcases h with rfl | ⟨_, rfl⟩ <;> exact get_old hc
  · rintro i d ρ2 S2 hd ⟨x, y, z, rfl, hS⟩
    rw [List.getElem?_map] at hd
    obtain ⟨p, hp, rfl⟩ := Option.map_eq_some_iff.mp hd
    have hN : NdS S2 S.length (accN (L.take i)) := by
      rcases hS with rfl | ⟨e, rfl⟩
      · exact .inl get_new
      · exact .inr ⟨e, get_new⟩
    refine ⟨_, rfl, ?_⟩
    refine sCons (sSub (eBin (eNget (eVar rfl (wp_ndM hN (eTup (esCons (eVar rfl (esCons (eVar rfl (esNil ⟨by show 2 ≤ 16777216; omega, eLit (wp_nget (k := p.1) hN (eVar rfl ?_))⟩)))))))))))
    rw [opB_add_i, wp_ret]
    refine eVar rfl (eTup (esCons (eVar rfl (esCons (eVar rfl (esNil ⟨by show 2 ≤ 16777216; omega, wp_setN (k := p.1) hN ?_ (sNil ?_)⟩))))))
    · have := accN_len (L.take i)
      have h3 : (L.take i).length ≤ L.length := by rw [List.length_take]; omega
      show _ < 16777216
      omega
    · refine ⟨_, _, _, rfl, .inl ?_⟩
      rw [take_snoc hp, accN_snoc]
      rcases hS with rfl | ⟨e, rfl⟩
      · exact set_end
      · exact set_end
  · rintro ρ2 S2 ⟨x, y, z, rfl, hS⟩
    rw [List.length_map, List.take_length] at hS
    have ha : (accN L).length ≤ 100000 := Nat.le_trans (accN_len L) hl
    rcases hS with rfl | ⟨e, rfl⟩
    · refine sCons (sRet (eLkN (b := S.length) (kvs := accN L) rfl get_new ?_))
      rw [set_end]
      refine nz_dict (accN_nd L) ha rfl rfl (.inl get_new) ⟨get_old get_new, ?_⟩
      refine ⟨.nd (accN L), ?_, ?_⟩
      · rw [List.length_append]
        rfl
      · exact set_mid
    · refine sCons (sRet (eLkE (b := S.length) rfl get_new ?_))
      rw [set_end]
      refine nz_dict (kvs := []) List.nodup_nil (Nat.zero_le _) rfl rfl (.inr ⟨rfl, get_new⟩) ⟨get_old get_new, ?_⟩
      refine ⟨.dk [], ?_, ?_⟩
      · rw [List.length_append]
        rfl
      · rw [e]
        exact set_mid
def one (k : Nk) : Nk × Int := (k, 1)
end
end VM
namespace VM
open PySem
def bPair6 (t : Nat) : Stms := (.cons (.asg (.name 1) (.idx (.lst (.cons (.lit (.int 0)) (.cons (.lit (.int 1)) (.cons (.lit (.int 2)) (.cons (.lit (.int 3)) (.cons (.lit (.int 4)) (.cons (.lit (.int 199)) .nil))))))) (.call t (.cons (.var 0) (.cons (.lit (.int 6)) .nil))))) (.cons (.asg (.name 2) (.idx (.lst (.cons (.lit (.int 0)) (.cons (.lit (.int 1)) (.cons (.lit (.int 2)) (.cons (.lit (.int 3)) (.cons (.lit (.int 1)) (.cons (.lit (.int 9)) .nil))))))) (.call t (.cons (.var 0) (.cons (.lit (.int 6)) .nil))))) (.cons (.ret (.tup (.cons (.var 1) (.cons (.bif .tuple (.cons (.lc [3] (.name 3) (.rng1 (.var 2)) .nil (.bin .sub (.call t (.cons (.var 0) (.cons (.lit (.int 5)) .nil))) (.lit (.int 2)))) .nil)) .nil)))) .nil)))
theorem int_at {ns : List Int} {z : Int} (h0 : 0 ≤ z) (h1 : z < ns.length) : ∃ m ∈ ns, atI (ns.map D.int) z = some (.int m) := by
  obtain ⟨d, h2, h3⟩ := atI_nat (xs := ns.map D.int) h0 (by rw [List.length_map]; exact h1)
  rw [List.getElem?_map] at h2
  obtain ⟨m, hm, rfl⟩ := Option.map_eq_some_iff.mp h2
  exact ⟨m, List.mem_of_getElem? hm, h3⟩
theorem deep_ints (S : Store) (n : Nat) (r : List Int) : (r.map D.int).mapM (deep S (n + 1)) = some (r.map PyData.int) := by
  induction r with
  | nil => rfl
  | cons x r ih =>
    rw [List.map_cons, List.mapM_cons, ih]
    rfl
theorem deep_nk (S : Store) (n : Nat) (k : Nk) : deep S (n + 3) (nkD k) = some (encK k) := by
  show (([D.int k.1, D.tup (k.2.map .int)]).mapM (deep S (n + 2))).map PyData.tuple = _
  have h : deep S (n + 2) (D.tup (k.2.map .int)) = some (.tuple (k.2.map .int)) := by
    show ((k.2.map D.int).mapM (deep S (n + 1))).map PyData.tuple = _
    rw [deep_ints]
    rfl
  rw [List.mapM_cons, List.mapM_cons, h]
  rfl
theorem lay_ints : ∀ r : List Int, PyData.canLayAll0 (r.map .int) = true
  | [] => rfl
  | _ :: r => by
    show (true && PyData.canLayAll0 (r.map .int)) = true
    rw [lay_ints r]
    rfl
theorem lay_nk (k : Nk) : (encK k).canLay0 = true := by
  show (true && (PyData.canLayAll0 (k.2.map .int) && true)) = true
  rw [lay_ints]
  rfl
section
variable {P : Prg} {k i t : Nat} {S : Store} {n : Nat} {M : Int}
theorem six_ok {m : Int} (h : m ∈ [(0 : Int), 1, 2, 3, 1, 9]) : 0 ≤ m ∧ m ≤ 9 := by
  simp only [List.mem_cons, List.not_mem_nil, or_false] at h
  omega
theorem Fr.keep {n : Nat} {S S' : Store} (f : Fr n S S') {j : Nat} {o : Obj} (h : S[j]? = some o) (hj : j ≠ n) : S'[j]? = some o := f.get j o hj h
theorem pair6_ok (hf : P.fns[i]? = some ⟨1, 4, bPair6 t⟩) (ht : P.fns[t]? = some ⟨2, 5, bTake6⟩) (st : St6 S n M) :
    wp (callN P (k + 2) i [.ref n]) S fun d S' => ∃ key : Nk, d = nkD key ∧ key.2.length ≤ 9 ∧ St6 S' n (M - 1) ∧ Fr n S S' := by
  refine callR (ρ := [some (.ref n), none, none, none]) hf rfl rfl ?_
  unfold bPair6
  repeat (first | refine sCons ?_ | refine sNil ?_ | refine sAsgN ?_ | refine sSub ?_ | refine sRet ?_ | refine sIf ?_ | refine sExpr ?_ | refine eVar rfl ?_ | refine eLit ?_ | refine eBin ?_ | refine eCmp ?_ | refine eIdx ?_ | refine eNt ?_ | refine eAnd ?_ | refine eOr ?_ | refine eBif ?_ | refine esNil ?_ | refine esCons ?_ | refine eLst ?_ | refine eTup ?_ | refine eMth ?_ | refine eCall ?_ | refine eSl ?_ | refine pNo ?_ | refine tBl ?_)
  refine ⟨by decide, ?_⟩
  repeat (first | refine sCons ?_ | refine sNil ?_ | refine sAsgN ?_ | refine sSub ?_ | refine sRet ?_ | refine sIf ?_ | refine sExpr ?_ | refine eVar rfl ?_ | refine eLit ?_ | refine eBin ?_ | refine eCmp ?_ | refine eIdx ?_ | refine eNt ?_ | refine eAnd ?_ | refine eOr ?_ | refine eBif ?_ | refine esNil ?_ | refine esCons ?_ | refine eLst ?_ | refine eTup ?_ | refine eMth ?_ | refine eCall ?_ | refine eSl ?_ | refine pNo ?_ | refine tBl ?_)
  refine wp_imp (take6 (k := k) ht (st.ext (Le.new S (.lst ([(0 : Int), 1, 2, 3, 4, 199].map D.int)))) (by decide) (by decide)) ?_
  rintro _ S1 ⟨z, rfl, z0, z1, s1, f1⟩
  have nl : S.length ≠ n := Nat.ne_of_gt st.below
  obtain ⟨m, _, hm⟩ := int_at (ns := [0, 1, 2, 3, 4, 199]) z0 (by exact z1)
  refine (wp_ix_ls (f1.keep get_new nl) hm).mpr ?_
  repeat (first | refine sCons ?_ | refine sNil ?_ | refine sAsgN ?_ | refine sSub ?_ | refine sRet ?_ | refine sIf ?_ | refine sExpr ?_ | refine eVar rfl ?_ | refine eLit ?_ | refine eBin ?_ | refine eCmp ?_ | refine eIdx ?_ | refine eNt ?_ | refine eAnd ?_ | refine eOr ?_ | refine eBif ?_ | refine esNil ?_ | refine esCons ?_ | refine eLst ?_ | refine eTup ?_ | refine eMth ?_ | refine eCall ?_ | refine eSl ?_ | refine pNo ?_ | refine tBl ?_)
  refine ⟨by decide, ?_⟩
  repeat (first | refine sCons ?_ | refine sNil ?_ | refine sAsgN ?_ | refine sSub ?_ | refine sRet ?_ | refine sIf ?_ | refine sExpr ?_ | refine eVar rfl ?_ | refine eLit ?_ | refine eBin ?_ | refine eCmp ?_ | refine eIdx ?_ | refine eNt ?_ | refine eAnd ?_ | refine eOr ?_ | refine eBif ?_ | refine esNil ?_ | refine esCons ?_ | refine eLst ?_ | refine eTup ?_ | refine eMth ?_ | refine eCall ?_ | refine eSl ?_ | refine pNo ?_ | refine tBl ?_)
  refine wp_imp (take6 (k := k) ht (s1.ext (Le.new S1 (.lst ([(0 : Int), 1, 2, 3, 1, 9].map D.int)))) (by decide) (by decide)) ?_
  rintro _ S2 ⟨y, rfl, y0, y1, s2, f2⟩
  have nl1 : S1.length ≠ n := Nat.ne_of_gt s1.below
  obtain ⟨w, hw, hm2⟩ := int_at (ns := [0, 1, 2, 3, 1, 9]) y0 (by exact y1)
  obtain ⟨w0, w9⟩ := six_ok hw
  refine (wp_ix_ls (f2.keep get_new nl1) hm2).mpr ?_
  have f02 : Fr n S S2 := (Fr.new.trans f1).trans (Fr.new.trans f2)
  refine sCons (sRet (eTup (esCons (eVar rfl (esCons (eBif (esCons (eLc (rRng1 (eVar rfl ⟨w, rfl, ?_, rngL 0 w.toNat, fun j acc S3 => (∃ r : List Int, acc = r.map D.int ∧ r.length = j) ∧ j ≤ 9 ∧ St6 S3 n (M - 1) ∧ Fr n S S3, .rng, ⟨⟨[], rfl, rfl⟩, by omega, s2.mono (by omega), f02⟩, ?_, ?_⟩))))))))))
  · unfold rngOk
    rw [decide_eq_true (show -(2 ^ 62 : Int) ≤ w by omega), decide_eq_true (show w < 2 ^ 62 by omega)]
    rfl
  · rintro j d acc S3 hd ⟨⟨r, rfl, hr⟩, hj, s3, f3⟩
    obtain ⟨hlt, rfl⟩ := rngL_get hd
    refine ⟨_, rfl, ?_⟩
    repeat (first | refine sCons ?_ | refine sNil ?_ | refine sAsgN ?_ | refine sSub ?_ | refine sRet ?_ | refine sIf ?_ | refine sExpr ?_ | refine eVar rfl ?_ | refine eLit ?_ | refine eBin ?_ | refine eCmp ?_ | refine eIdx ?_ | refine eNt ?_ | refine eAnd ?_ | refine eOr ?_ | refine eBif ?_ | refine esNil ?_ | refine esCons ?_ | refine eLst ?_ | refine eTup ?_ | refine eMth ?_ | refine eCall ?_ | refine eSl ?_ | refine pNo ?_ | refine tBl ?_)
    refine wp_imp (take6 (k := k) ht s3 (by decide) (by decide)) ?_
    rintro _ S4 ⟨x, rfl, x0, x1, s4, f4⟩
    repeat (first | refine sCons ?_ | refine sNil ?_ | refine sAsgN ?_ | refine sSub ?_ | refine sRet ?_ | refine sIf ?_ | refine sExpr ?_ | refine eVar rfl ?_ | refine eLit ?_ | refine eBin ?_ | refine eCmp ?_ | refine eIdx ?_ | refine eNt ?_ | refine eAnd ?_ | refine eOr ?_ | refine eBif ?_ | refine esNil ?_ | refine esCons ?_ | refine eLst ?_ | refine eTup ?_ | refine eMth ?_ | refine eCall ?_ | refine eSl ?_ | refine pNo ?_ | refine tBl ?_)
    rw [opB_sub_i, wp_ret]
    refine ⟨by rw [List.length_map, hr]; show j < 16777216; omega, ⟨r ++ [x - 2], by rw [List.map_append]; rfl, by rw [List.length_append, hr]; rfl⟩, by omega, s4.mono (by omega), f3.trans f4⟩
  · rintro acc S3 ⟨⟨r, rfl, hr⟩, hj, s3, f3⟩
    have hj : r.length ≤ 9 := by
      rw [hr]
      unfold rngL
      rw [List.length_map, List.length_range]
      omega
    refine esNil (wp_tuple get_new (esNil ⟨by show 2 ≤ 16777216; omega, ?_⟩))
    exact ⟨(m, r), rfl, hj, s3.ext (Le.new _ _), f3.trans Fr.new⟩
theorem Fr.put {n p : Nat} {S S' : Store} {o : Obj} (f : Fr n S S') (h : S.length ≤ p) : Fr n S (S'.set p o) := ⟨by rw [List.length_set]; exact f.len, fun j ob hj e => by
  rw [List.getElem?_set_ne (by have := (List.getElem?_eq_some_iff.mp e).1; omega)]
  exact f.get j ob hj e⟩
theorem St6.app {S : Store} {n p : Nat} {M : Int} {ob : Obj} (h : St6 S n M) (hp : n < p) : St6 (S.set p ob) n M := by
  obtain ⟨c, xs, a, r, lf, m, o, h, q⟩ := h
  have := h.lt
  exact ⟨c, xs, a, r, lf, m, o, ⟨get_ne h.ob (by omega), get_ne h.ce (by omega), h.lt, h.px, h.pa, h.pr, h.pm⟩, q⟩
end
end VM
namespace VM
open PySem
def keysF (ks : List Nk) : List Nk := ks.foldl (fun s k => if k ∈ s then s else s ++ [k]) []
def tot (L : List (Nk × Int)) (k : Nk) : Int := ((L.filter fun p => decide (p.1 = k)).map (·.2)).sum
theorem keysF_snoc (ks : List Nk) (k : Nk) : keysF (ks ++ [k]) = if k ∈ keysF ks then keysF ks else keysF ks ++ [k] := by
  unfold keysF
  rw [List.foldl_append]
  rfl
theorem snoc_ind {α : Type} {p : List α → Prop} (h0 : p []) (hs : ∀ l x, p l → p (l ++ [x])) : ∀ l, p l := by
  have key : ∀ (n : Nat) (l : List α), l.length = n → p l := by
    intro n
    induction n with
    | zero =>
      intro l h
      cases l with
      | nil => exact h0
      | cons _ _ => cases h
    | succ n ih =>
      intro l h
      have hne : l ≠ [] := by rintro rfl; cases h
      rw [← List.dropLast_concat_getLast hne]
      exact hs _ _ (ih _ (by rw [List.length_dropLast]; omega))
  exact fun l => key _ l rfl
theorem mem_keysF (ks : List Nk) (k : Nk) : k ∈ keysF ks ↔ k ∈ ks := by
  refine snoc_ind (p := fun ks => k ∈ keysF ks ↔ k ∈ ks) Iff.rfl (fun l x ih => ?_) ks
  rw [keysF_snoc]
  by_cases q : x ∈ keysF l
  · rw [if_pos q, ih, List.mem_append, List.mem_singleton]
    constructor
    · exact .inl
    · rintro (h | rfl)
      · exact h
      · exact ih.mp q
  · rw [if_neg q, List.mem_append, List.mem_append, ih]
theorem nget_map {f : Nk → Int} {k : Nk} : ∀ ks : List Nk, nget (ks.map fun x => (x, f x)) k = if k ∈ ks then some (f k) else none
  | [] => rfl
  | x :: ks => by
    have ih := nget_map (f := f) (k := k) ks
    unfold nget at ih ⊢
    rw [List.map_cons, List.find?_cons]
    by_cases h : x = k
    · subst h
      rw [show decide ((x, f x).1 = x) = true from decide_eq_true rfl]
      rw [if_pos (.head _)]
      rfl
    · rw [show decide ((x, f x).1 = k) = false from decide_eq_false h]
      dsimp only
      rw [ih]
      by_cases g : k ∈ ks
      · rw [if_pos g, if_pos (.tail _ g)]
      · rw [if_neg g, if_neg (fun z => by
          rcases List.mem_cons.mp z with e | e
          · exact h e.symm
          · exact g e)]
theorem nput_in {f : Nk → Int} {k : Nk} {c : Int} {ks : List Nk} (h : k ∈ ks) : nput (ks.map fun x => (x, f x)) k c = ks.map fun x => (x, if x = k then c else f x) := by
  unfold nput
  rw [nget_map, if_pos h]
  rw [if_pos (show (some (f k)).isSome = true from rfl), List.map_map]
  refine List.map_congr_left fun x _ => ?_
  show (if x = k then (x, c) else (x, f x)) = (x, if x = k then c else f x)
  split <;> rfl
theorem nput_out {f : Nk → Int} {k : Nk} {c : Int} {ks : List Nk} (h : k ∉ ks) : nput (ks.map fun x => (x, f x)) k c = (ks.map fun x => (x, f x)) ++ [(k, c)] := by
  refine nput_new fun z => ?_
  rw [List.map_map] at z
  obtain ⟨x, hx, e⟩ := List.mem_map.mp z
  exact h (by rw [← show x = k from e]; exact hx)
theorem tot_snoc (L : List (Nk × Int)) (p : Nk × Int) (k : Nk) : tot (L ++ [p]) k = tot L k + if p.1 = k then p.2 else 0 := by
  unfold tot
  rw [List.filter_append, List.map_append, List.sum_append]
  congr 1
  by_cases h : p.1 = k
  · rw [if_pos h, List.filter_cons_of_pos (by simp [h])]
    simp
  · rw [if_neg h, List.filter_cons_of_neg (by simp [h])]
    rfl
theorem tot_out {L : List (Nk × Int)} {k : Nk} (h : k ∉ L.map (·.1)) : tot L k = 0 := by
  unfold tot
  rw [List.filter_eq_nil_iff.mpr fun p hp z => h (List.mem_map.mpr ⟨p, hp, of_decide_eq_true z⟩)]
  rfl
theorem accN_is (L : List (Nk × Int)) : accN L = (keysF (L.map (·.1))).map fun k => (k, tot L k) := by
  refine snoc_ind (p := fun L => accN L = (keysF (L.map (·.1))).map fun k => (k, tot L k)) rfl (fun L p ih => ?_) L
  rw [accN_snoc, ih, List.map_append, List.map_cons, List.map_nil, keysF_snoc]
  unfold addN
  rw [nget_map]
  by_cases h : p.1 ∈ keysF (L.map (·.1))
  · rw [if_pos h, if_pos h, nput_in h]
    refine List.map_congr_left fun x _ => ?_
    rw [tot_snoc]
    by_cases e : x = p.1
    · subst e
      rw [if_pos rfl, if_pos rfl]
      rfl
    · rw [if_neg e, if_neg (fun z => e z.symm), Int.add_zero]
  · rw [if_neg h, if_neg h, nput_out h, List.map_append]
    congr 1
    · refine List.map_congr_left fun x hx => ?_
      rw [tot_snoc, if_neg (fun z => h (by rw [z]; exact hx)), Int.add_zero]
    · show [(p.1, (none : Option Int).getD 0 + p.2)] = [(p.1, tot (L ++ [p]) p.1)]
      rw [tot_snoc, if_pos rfl, tot_out (fun z => h ((mem_keysF _ _).mpr z))]
      rfl
/-- each key's sum, put where it is not nought -/
def dueN (g : Nk → Int) (ks : List Nk) : List (Nk × Int) := ks.foldl (fun d k => if g k = 0 then d else nput d k (g k)) []
theorem dueN_snoc (g : Nk → Int) (ks : List Nk) (k : Nk) : dueN g (ks ++ [k]) = if g k = 0 then dueN g ks else nput (dueN g ks) k (g k) := by
  unfold dueN
  rw [List.foldl_append]
  rfl
theorem mergeN_dl (g : Nk → Int) (ks : List Nk) : (dueN g ks).length ≤ ks.length := by
  refine snoc_ind (p := fun ks => (dueN g ks).length ≤ ks.length) (Nat.le_refl _) (fun ks k ih => ?_) ks
  rw [dueN_snoc, List.length_append, List.length_singleton]
  split
  · omega
  · have := nput_len (dueN g ks) k (g k)
    omega
theorem dueN_is (g : Nk → Int) (ks : List Nk) : dueN g ks = ((keysF ks).filter fun k => !decide (g k = 0)).map fun k => (k, g k) := by
  refine snoc_ind (p := fun ks => dueN g ks = ((keysF ks).filter fun k => !decide (g k = 0)).map fun k => (k, g k)) rfl (fun ks k ih => ?_) ks
  rw [dueN_snoc, ih, keysF_snoc]
  by_cases hg : g k = 0
  · rw [if_pos hg]
    split
    · rfl
    · rw [List.filter_append, List.filter_cons_of_neg (by simp [hg]), List.filter_nil, List.append_nil]
  · rw [if_neg hg]
    by_cases h : k ∈ keysF ks
    · rw [if_pos h, nput_in (List.mem_filter.mpr ⟨h, by simp [hg]⟩)]
      refine List.map_congr_left fun x _ => ?_
      split
      · rename_i e; rw [e]
      · rfl
    · rw [if_neg h, nput_out (fun z => h (List.mem_filter.mp z).1), List.filter_append, List.filter_cons_of_pos (by simp [hg]), List.filter_nil, List.map_append]
      rfl
theorem bag_is (L : List (Nk × Int)) : nzN (accN L) = dueN (tot L) (L.map (·.1)) := by
  rw [accN_is, dueN_is]
  unfold nzN
  rw [List.filter_map]
  rfl
theorem bag_rows {L : List (Nk × Int)} {m : Nat} (h : ∀ p ∈ L, p.1.2.length ≤ m) : ∀ p ∈ nzN (accN L), p.1.2.length ≤ m := by
  intro p hp
  have hp := (List.mem_filter.mp hp).1
  rw [accN_is] at hp
  obtain ⟨k, hk, rfl⟩ := List.mem_map.mp hp
  obtain ⟨q, hq, rfl⟩ := List.mem_map.mp ((mem_keysF _ _).mp hk)
  exact h q hq
end VM
namespace VM
open PySem
def bTold6 (t pr : Nat) : Stms := (.cons (.asg (.name 1) (.lst .nil)) (.cons (.loop (.name 2) (.rng1 (.call t (.cons (.var 0) (.cons (.lit (.int 11)) .nil)))) (.cons (.asg (.tup [(.name 3), (.name 4)]) (.call pr (.cons (.var 0) .nil))) (.cons (.asg (.name 5) (.idx (.lst (.cons (.lit (.int 1)) (.cons (.neg (.lit (.int 1))) (.cons (.lit (.int 2)) (.cons (.neg (.lit (.int 2))) (.cons (.lit (.int 3)) (.cons (.bin .pow (.lit (.int 10)) (.lit (.int 6))) .nil))))))) (.call t (.cons (.var 0) (.cons (.lit (.int 6)) .nil))))) (.cons (.ife (.and (.cmp .ne (.var 1) (.lst .nil)) (.cmp .eq (.call t (.cons (.var 0) (.cons (.lit (.int 3)) .nil))) (.lit (.int 0)))) (.cons (.asg (.tup [(.name 3), (.name 4), (.name 5)]) (.idx (.var 1) (.call t (.cons (.var 0) (.cons (.bif .len (.cons (.var 1) .nil)) .nil))))) (.cons (.asg (.name 5) (.idx (.lst (.cons (.bin .sub (.lit (.int 0)) (.var 5)) (.cons (.var 5) (.cons (.lit (.int 1)) .nil)))) (.call t (.cons (.var 0) (.cons (.lit (.int 3)) .nil))))) .nil)) .nil) (.cons (.expr (.mth .append (.var 1) (.cons (.tup (.cons (.var 3) (.cons (.var 4) (.cons (.var 5) .nil)))) .nil))) .nil))))) (.cons (.ret (.var 1)) .nil)))
def encT (p : Nk × Int) : PyData := .tuple [.int p.1.1, .tuple (p.1.2.map .int), .int p.2]
theorem deep_tri (S : Store) (n : Nat) (p : Nk × Int) : deep S (n + 3) (tri p) = some (encT p) := by
  show (([D.int p.1.1, D.tup (p.1.2.map .int), D.int p.2]).mapM (deep S (n + 2))).map PyData.tuple = _
  have h : deep S (n + 2) (D.tup (p.1.2.map .int)) = some (.tuple (p.1.2.map .int)) := by
    show ((p.1.2.map D.int).mapM (deep S (n + 1))).map PyData.tuple = _
    rw [deep_ints]
    rfl
  rw [List.mapM_cons, List.mapM_cons, List.mapM_cons, h]
  rfl
theorem deep_tris (S : Store) (n : Nat) (l : List (Nk × Int)) : (l.map tri).mapM (deep S (n + 3)) = some (l.map encT) := by
  induction l with
  | nil => rfl
  | cons x r ih =>
    rw [List.map_cons, List.mapM_cons, ih, deep_tri]
    rfl
theorem deep_ltri {S : Store} {p : Nat} {l : List (Nk × Int)} (h : S[p]? = some (.lst (l.map tri))) : deep S dpt (.ref p) = some (.list (l.map encT)) := by
  show (match S[p]? with
      | some (.lst l) => (l.mapM (deep S 59)).map PyData.list
      | some (.ro l) => (l.mapM (deep S 59)).map PyData.list
      | _ => none) = _
  rw [h]
  dsimp only
  rw [deep_tris S 56 l]
  rfl
theorem lay_tri (p : Nk × Int) : (encT p).canLay0 = true := by
  show (true && (PyData.canLayAll0 (p.1.2.map .int) && (true && true))) = true
  rw [lay_ints]
  rfl
theorem lay_tris : ∀ l : List (Nk × Int), PyData.canLayAll0 (l.map encT) = true
  | [] => rfl
  | k :: l => by
    show ((encT k).canLay0 && PyData.canLayAll0 (l.map encT)) = true
    rw [lay_tri, lay_tris l]
    rfl
theorem depth_tri (p : Nk × Int) : (encT p).depth ≤ 2 := by
  have h : PyData.depthAll (p.1.2.map .int) = 0 := PySem.W.depth_ints _
  simp [encT, PyData.depth, PyData.depthAll, h]
theorem depth_tris : ∀ l : List (Nk × Int), PyData.depthAll (l.map encT) ≤ 2
  | [] => by simp [PyData.depthAll]
  | k :: l => by
    rw [List.map_cons, PyData.depthAll]
    have := depth_tri k
    have := depth_tris l
    omega
theorem shp_tris (l : List (Nk × Int)) : SeqAt.shaped (.list (l.map encT)) = true := by
  unfold SeqAt.shaped
  have h := depth_tris l
  rw [show (PyData.list (l.map encT)).canLay0 = true from lay_tris l, decide_eq_true (show (PyData.list (l.map encT)).depth ≤ 64 by rw [PyData.depth]; omega)]
  rfl
theorem ne_sameT {S : Store} {p q : Nat} {l : List (Nk × Int)} {Q : D → Store → Prop} (hp : S[p]? = some (.lst (l.map tri))) (hq : S[q]? = some (.lst (l.map tri))) (k : Q (.bl false) S) : wp (opC .ne (.ref p) (.ref q)) S Q := by
  refine wp_bnd.mpr ((wp_two (deep_ltri hp) (deep_ltri hq) (shp_tris l) (shp_tris l)).mpr (wp_ret.mpr ?_))
  rw [SeqAt.eqv_refl (.list (l.map encT)) (lay_tris l)]
  exact k
theorem ne_nilT {S : Store} {p q : Nat} {l : List (Nk × Int)} {Q : D → Store → Prop} (hp : S[p]? = some (.lst (l.map tri))) (hq : S[q]? = some (.lst [])) (k : ∀ b : Bool, (b = true → l ≠ []) → Q (.bl b) S) : wp (opC .ne (.ref p) (.ref q)) S Q := by
  refine wp_bnd.mpr ((wp_two (deep_ltri hp) (deep_ltri (l := []) hq) (shp_tris l) (shp_tris [])).mpr (wp_ret.mpr (k _ fun h e => ?_)))
  subst e
  rw [SeqAt.eqv_refl (.list (([] : List (Nk × Int)).map encT)) rfl] at h
  cases h
theorem tri_at {K : List (Nk × Int)} {z : Int} (h0 : 0 ≤ z) (h1 : z < K.length) : ∃ k ∈ K, atI (K.map tri) z = some (tri k) := by
  obtain ⟨d, h2, h3⟩ := atI_nat (xs := K.map tri) h0 (by rw [List.length_map]; exact h1)
  rw [List.getElem?_map] at h2
  obtain ⟨m, hm, rfl⟩ := Option.map_eq_some_iff.mp h2
  exact ⟨m, List.mem_of_getElem? hm, h3⟩
section
variable {P : Prg} {k i t : Nat} {S : Store} {n : Nat} {M : Int}
theorem told6_ok {pr : Nat} (hf : P.fns[i]? = some ⟨1, 6, bTold6 t pr⟩) (hp : P.fns[pr]? = some ⟨1, 4, bPair6 t⟩) (ht : P.fns[t]? = some ⟨2, 5, bTake6⟩) (st : St6 S n M) :
    wp (callN P (k + 3) i [.ref n]) S fun d S' => ∃ (p : Nat) (K : List (Nk × Int)), d = .ref p ∧ S.length ≤ p ∧ S'[p]? = some (.lst (K.map tri)) ∧ K.length ≤ 10 ∧ (∀ q ∈ K, q.1.2.length ≤ 9) ∧ St6 S' n (M - 1) ∧ Fr n S S' := by
  have hn := st.below
  refine callR (ρ := [some (.ref n), none, none, none, none, none]) hf rfl rfl ?_
  unfold bTold6
  refine sCons (sAsgN (eLst (esNil ⟨by decide, ?_⟩)))
  refine sCons (sLoop (rRng1 (eCall (esCons (eVar rfl (esCons (eLit (esNil ?_))))))))
  refine wp_imp (take6 (k := k + 1) ht (st.ext (Le.new S (.lst []))) (by decide) (by decide)) ?_
  rintro _ S1 ⟨z, rfl, z0, z1, s1, f1⟩
  have f01 : Fr n S S1 := Fr.new.trans f1
  have g1 : S1[S.length]? = some (.lst (([] : List (Nk × Int)).map tri)) := f1.keep get_new (by omega)
  refine ⟨z, rfl, ?_, rngL 0 z.toNat, fun j ρ S2 => ∃ (K : List (Nk × Int)) (x2 x3 x4 x5 : Option D), ρ = [some (.ref n), some (.ref S.length), x2, x3, x4, x5] ∧ K.length = j ∧ j ≤ 10 ∧ S2[S.length]? = some (.lst (K.map tri)) ∧ (∀ q ∈ K, q.1.2.length ≤ 9) ∧ St6 S2 n (M - 1) ∧ Fr n S S2,
    .rng, ⟨[], _, _, _, _, rfl, rfl, by omega, g1, fun _ h => (by cases h), s1, f01⟩, ?_, ?_⟩
  · unfold rngOk
    rw [decide_eq_true (show -(2 ^ 62 : Int) ≤ z by omega), decide_eq_true (show z < 2 ^ 62 by omega)]
    rfl
  · rintro j d ρ2 S2 hd ⟨K, x2, x3, x4, x5, rfl, hK, hj, g2, h9, s2, f2⟩
    obtain ⟨hlt, rfl⟩ := rngL_get hd
    refine ⟨_, rfl, ?_⟩
    refine sCons (sAsg (eCall (esCons (eVar rfl (esNil ?_)))))
    refine wp_imp (pair6_ok (k := k) hp ht s2) ?_
    rintro _ S3 ⟨⟨m, r⟩, rfl, k9, s3, f3⟩
    refine ⟨_, rfl, ?_⟩
    have g3 := f3.keep g2 (show S.length ≠ n by omega)
    refine sCons (sAsgN (eIdx (eLst (esCons (eLit (esCons (eNeg (eLit ⟨1, rfl, esCons (eLit (esCons (eNeg (eLit ⟨2, rfl, esCons (eLit (esCons (eBin (eLit (eLit (wp_ret.mpr (esNil ⟨by show 6 ≤ 16777216; omega, ?_⟩)))))))⟩))))⟩))))))))
    refine eCall (esCons (eVar rfl (esCons (eLit (esNil ?_)))))
    refine wp_imp (take6 (k := k + 1) ht (s3.ext (Le.new S3 (.lst ([(1 : Int), -1, 2, -2, 3, 10 ^ (6 : Int).toNat].map D.int)))) (by decide) (by decide)) ?_
    rintro _ S4 ⟨y, rfl, y0, y1, s4, f4⟩
    have nl : S3.length ≠ n := Nat.ne_of_gt s3.below
    obtain ⟨c, _, hc⟩ := int_at (ns := [(1 : Int), -1, 2, -2, 3, 10 ^ (6 : Int).toNat]) y0 (by exact y1)
    refine (wp_ix_ls (f4.keep get_new nl) hc).mpr ?_
    have g4 := f4.keep (get_old (o' := .lst ([(1 : Int), -1, 2, -2, 3, 10 ^ (6 : Int).toNat].map D.int)) g3) (show S.length ≠ n by omega)
    have f04 : Fr n S S4 := (f2.trans f3).trans (Fr.new.trans f4)
    have fin : ∀ {R : Flow → Store → Prop} (S4 : Store) (q : Nk × Int), q.1.2.length ≤ 9 → S4[S.length]? = some (.lst (K.map tri)) → St6 S4 n (M - 1) → Fr n S S4 →
        (∀ ρ' S', (∃ (K : List (Nk × Int)) (x2 x3 x4 x5 : Option D), ρ' = [some (.ref n), some (.ref S.length), x2, x3, x4, x5] ∧ K.length = j + 1 ∧ j + 1 ≤ 10 ∧ S'[S.length]? = some (.lst (K.map tri)) ∧ (∀ q ∈ K, q.1.2.length ≤ 9) ∧ St6 S' n (M - 1) ∧ Fr n S S') → R (.nx ρ') S') →
        wp (evSs (ctl P (k + 2)) P.fuel (.cons (.expr (.mth .append (.var 1) (.cons (.tup (.cons (.var 3) (.cons (.var 4) (.cons (.var 5) .nil)))) .nil))) .nil) [some (.ref n), some (.ref S.length), some (.int (0 + (j : Int))), some (.int q.1.1), some (.tup (q.1.2.map .int)), some (.int q.2)]) S4 R := by
      intro R S4 q q9 g4 s4 f4 hR
      refine sCons (sExpr (eMth (eVar rfl (wp_mty g4 (esCons (eTup (esCons (eVar rfl (esCons (eVar rfl (esCons (eVar rfl (esNil ⟨by show 3 ≤ 16777216; omega, esNil (wp_app g4 ?_ (sNil ?_))⟩)))))))))))))
      · rw [List.length_map, hK]
        show j < 16777216
        omega
      · refine hR _ _ ⟨K ++ [q], _, _, _, _, rfl, by rw [List.length_append, hK]; rfl, by omega, ?_, fun p hk => ?_, s4.app hn, f4.put (Nat.le_refl _)⟩
        · rw [get_set g4, List.map_append]
          rfl
        · rcases List.mem_append.mp hk with hk | hk
          · exact h9 p hk
          · rw [List.mem_singleton.mp hk]
            exact q9
    refine sCons (sIf (eAnd (eCmp (eVar rfl (eLst (esNil ⟨by decide, ne_nilT (get_old g4) get_new fun b hb => tBl (iteB (fun h => ?_) (fun h => ?_))⟩))))))
    · have hne : K ≠ [] := hb h
      have s5 : St6 (S4 ++ [.lst []]) n (M - 3) := (s4.ext (Le.new _ _)).mono (by omega)
      refine eCmp (eCall (esCons (eVar rfl (esCons (eLit (esNil ?_))))))
      refine wp_imp (take6 (k := k + 1) ht s5 (by decide) (by decide)) ?_
      rintro _ S5 ⟨w, rfl, w0, w1, s6, f6⟩
      have g5 := f6.keep (get_old (o' := .lst []) g4) (show S.length ≠ n by omega)
      have f05 : Fr n S S5 := f04.trans (Fr.new.trans f6)
      refine eLit (wp_eq_int.mpr (tBl (iteB (fun h2 => ?_) (fun h2 => ?_))))
      · have hpos : 0 < K.length := List.length_pos_iff.mpr hne
        refine sCons (sAsg (eIdx (eVar rfl (eCall (esCons (eVar rfl (esCons (eBif (esCons (eVar rfl (esNil ((wp_len_ls g5).mpr (esNil ?_)))))))))))))
        rw [List.length_map]
        refine wp_imp (take6 (k := k + 1) ht s6 (by omega) (by omega)) ?_
        rintro _ S6 ⟨v, rfl, v0, v1, s7, f7⟩
        have g6 := f7.keep g5 (show S.length ≠ n by omega)
        obtain ⟨⟨⟨m2, r2⟩, c2⟩, hq, hv⟩ := tri_at v0 v1
        refine (wp_ix_ls g6 hv).mpr ⟨_, rfl, ?_⟩
        refine sCons (sAsgN (eIdx (eLst (esCons (eBin (eLit (eVar rfl ?_)))))))
        rw [opB_sub_i]
        refine wp_ret.mpr (esCons (eVar rfl (esCons (eLit (esNil ⟨by show 3 ≤ 16777216; omega, ?_⟩)))))
        refine eCall (esCons (eVar rfl (esCons (eLit (esNil ?_)))))
        refine wp_imp (take6 (k := k + 1) ht (s7.ext (Le.new S6 (.lst ([0 - c2, c2, (1 : Int)].map D.int)))) (by decide) (by decide)) ?_
        rintro _ S7 ⟨u, rfl, u0, u1, s8, f8⟩
        have nl6 : S6.length ≠ n := Nat.ne_of_gt s7.below
        obtain ⟨c3, _, hc3⟩ := int_at (ns := [0 - c2, c2, (1 : Int)]) u0 (by exact u1)
        refine (wp_ix_ls (f8.keep get_new nl6) hc3).mpr (sNil ?_)
        exact fin S7 ((m2, r2), c3) (show r2.length ≤ 9 from h9 ((m2, r2), c2) hq) (f8.keep (get_old g6) (show S.length ≠ n by omega)) (s8.mono (by omega)) ((f05.trans f7).trans (Fr.new.trans f8)) fun _ _ z => z
      · exact sNil (fin S5 ((m, r), c) k9 g5 (s6.mono (by omega)) f05 fun _ _ z => z)
    · subst h
      exact tBl (iteF (sNil (fin _ ((m, r), c) k9 (get_old g4) ((s4.ext (Le.new _ _)).mono (by omega)) (f04.trans Fr.new) fun _ _ z => z)))
  · rintro ρ2 S2 ⟨K, x2, x3, x4, x5, rfl, hK, hj, g2, h9, s2, f2⟩
    have hj : K.length ≤ 10 := by
      rw [hK]
      exact hj
    exact sCons (sRet (eVar rfl ⟨_, K, rfl, Nat.le_refl _, g2, hj, h9, s2, f2⟩))
end
end VM
namespace K20
open PySem
def top (i : Nat) : Stmt := PySem.Challenge.pw_lateriver_k20_changes_summed.main.body.getD i (.Pass ⟨0, 0, 0, 0⟩)
/-- summed -/
def b_0 : VM.Stms := (.cons (.asg (.name 1) .dct0) (.cons (.loop (.tup [(.name 2), (.name 3), (.name 4)]) (.seq (.var 0)) (.cons (.sub (.var 1) (.tup (.cons (.var 2) (.cons (.var 3) .nil))) (.bin .add (.nget (.var 1) (.tup (.cons (.var 2) (.cons (.var 3) .nil))) (.lit (.int 0))) (.var 4))) .nil)) (.cons (.ret (.lkE 1 (.dcn [5, 4] (.tup [(.name 5), (.name 4)]) (.ndi 1) (.cons (.cmp .ne (.var 4) (.lit (.int 0))) .nil) (.var 5) (.var 4)))) .nil)))
def f_0 : VM.Fn := ⟨1, 6, b_0⟩
/-- _law_begun -/
def b_1 : VM.Stms := (.cons (.asg (.name 1) (.and (.cmp .gt (.bif .len (.cons (.var 0) .nil)) (.lit (.int 0))) (.cmp .eq (.bin .mod (.idx (.var 0) (.lit (.int 0))) (.lit (.int 2))) (.lit (.int 0))))) (.cons (.ret (.dct (.cons (.lit (.str [99, 101, 108, 108, 115])) (.cons (.lc [2] (.name 2) (.seq (.var 0)) .nil (.bif .abs (.cons (.var 2) .nil))) (.cons (.lit (.str [97, 116])) (.cons (.lit (.int 0)) (.cons (.lit (.str [114, 101, 115, 116])) (.cons (.lit (.int 0)) (.cons (.lit (.str [108, 101, 102, 116])) (.cons (.lit (.int 0)) (.cons (.lit (.str [109, 111, 114, 101])) (.cons (.bin .add (.lit (.int 7)) (.bif .len (.cons (.var 0) .nil))) (.cons (.lit (.str [111, 119, 110])) (.cons (.var 1) .nil)))))))))))))) .nil))
def f_1 : VM.Fn := ⟨1, 3, b_1⟩
/-- _law_take -/
def b_2 : VM.Stms := (.cons (.asg (.name 2) (.idx (.var 0) (.lit (.str [99, 101, 108, 108, 115])))) (.cons (.ife (.and (.idx (.var 0) (.lit (.str [111, 119, 110]))) (.or (.cmp .gt (.idx (.var 0) (.lit (.str [108, 101, 102, 116]))) (.lit (.int 0))) (.cmp .lt (.idx (.var 0) (.lit (.str [97, 116]))) (.bif .len (.cons (.var 2) .nil))))) (.cons (.ife (.cmp .eq (.idx (.var 0) (.lit (.str [108, 101, 102, 116]))) (.lit (.int 0))) (.cons (.sub (.var 0) (.lit (.str [114, 101, 115, 116])) (.bin .mod (.bin .fdiv (.idx (.var 2) (.idx (.var 0) (.lit (.str [97, 116])))) (.idx (.lst (.cons (.lit (.int 1)) (.cons (.lit (.int 2)) .nil))) (.bif .int (.cons (.cmp .eq (.idx (.var 0) (.lit (.str [97, 116]))) (.lit (.int 0))) .nil)))) (.bin .pow (.lit (.int 10)) (.lit (.int 64))))) (.cons (.sub (.var 0) (.lit (.str [97, 116])) (.bin .add (.idx (.var 0) (.lit (.str [97, 116]))) (.lit (.int 1)))) (.cons (.sub (.var 0) (.lit (.str [108, 101, 102, 116])) (.lit (.int 40))) .nil))) .nil) (.cons (.sub (.var 0) (.lit (.str [108, 101, 102, 116])) (.mx (.lit (.int 0)) (.bin .sub (.idx (.var 0) (.lit (.str [108, 101, 102, 116]))) (.lit (.int 1))))) (.cons (.asg (.name 3) (.bin .mod (.idx (.var 0) (.lit (.str [114, 101, 115, 116]))) (.var 1))) (.cons (.sub (.var 0) (.lit (.str [114, 101, 115, 116])) (.bin .fdiv (.idx (.var 0) (.lit (.str [114, 101, 115, 116]))) (.var 1))) (.cons (.ret (.var 3)) .nil))))) .nil) (.cons (.asg (.name 4) (.lit (.int 0))) (.cons (.ife (.cmp .gt (.bif .len (.cons (.var 2) .nil)) (.lit (.int 0))) (.cons (.asg (.name 4) (.idx (.var 2) (.bin .mod (.idx (.var 0) (.lit (.str [97, 116]))) (.bif .len (.cons (.var 2) .nil))))) .nil) .nil) (.cons (.sub (.var 0) (.lit (.str [97, 116])) (.bin .add (.idx (.var 0) (.lit (.str [97, 116]))) (.lit (.int 1)))) (.cons (.sub (.var 0) (.lit (.str [109, 111, 114, 101])) (.bin .mod (.bin .add (.bin .add (.bin .mul (.idx (.var 0) (.lit (.str [109, 111, 114, 101]))) (.lit (.int 48271))) (.var 4)) (.idx (.var 0) (.lit (.str [97, 116])))) (.lit (.int 2147483647)))) (.cons (.ret (.bin .mod (.bin .mod (.bin .add (.bin .mul (.idx (.var 0) (.lit (.str [109, 111, 114, 101]))) (.idx (.var 0) (.lit (.str [109, 111, 114, 101])))) (.bin .mul (.lit (.int 16807)) (.idx (.var 0) (.lit (.str [109, 111, 114, 101]))))) (.lit (.int 2147483629))) (.var 1))) .nil)))))))
def f_2 : VM.Fn := ⟨2, 5, b_2⟩
/-- _law_pair -/
def b_3 : VM.Stms := (.cons (.asg (.name 1) (.idx (.lst (.cons (.lit (.int 0)) (.cons (.lit (.int 1)) (.cons (.lit (.int 2)) (.cons (.lit (.int 3)) (.cons (.lit (.int 4)) (.cons (.lit (.int 199)) .nil))))))) (.call 2 (.cons (.var 0) (.cons (.lit (.int 6)) .nil))))) (.cons (.asg (.name 2) (.idx (.lst (.cons (.lit (.int 0)) (.cons (.lit (.int 1)) (.cons (.lit (.int 2)) (.cons (.lit (.int 3)) (.cons (.lit (.int 1)) (.cons (.lit (.int 9)) .nil))))))) (.call 2 (.cons (.var 0) (.cons (.lit (.int 6)) .nil))))) (.cons (.ret (.tup (.cons (.var 1) (.cons (.bif .tuple (.cons (.lc [3] (.name 3) (.rng1 (.var 2)) .nil (.bin .sub (.call 2 (.cons (.var 0) (.cons (.lit (.int 5)) .nil))) (.lit (.int 2)))) .nil)) .nil)))) .nil)))
def f_3 : VM.Fn := ⟨1, 4, b_3⟩
/-- _law_alike -/
def b_4 : VM.Stms := (.cons (.ife (.isi (.var 1) 5) (.cons (.ife (.or (.nt (.isi (.var 0) 5)) (.cmp .ne (.bif .len (.cons (.var 0) .nil)) (.bif .len (.cons (.var 1) .nil)))) (.cons (.ret (.lit (.bl false))) .nil) .nil) (.cons (.ret (.call 4 (.cons (.srn (.var 0)) (.cons (.srn (.var 1)) .nil)))) .nil)) .nil) (.cons (.ife (.isp (.var 1) 3 4) (.cons (.ife (.or (.cmp .ne (.isi (.var 0) 3) (.isi (.var 1) 3)) (.cmp .ne (.isi (.var 0) 4) (.isi (.var 1) 4))) (.cons (.ret (.lit (.bl false))) .nil) .nil) (.cons (.ret (.and (.cmp .eq (.bif .len (.cons (.var 0) .nil)) (.bif .len (.cons (.var 1) .nil))) (.bif .all (.cons (.lc [2] (.name 2) (.rng1 (.bif .len (.cons (.var 1) .nil))) .nil (.call 4 (.cons (.idx (.var 0) (.var 2)) (.cons (.idx (.var 1) (.var 2)) .nil)))) .nil)))) .nil)) .nil) (.cons (.ret (.and (.cmp .eq (.isi (.var 0) 1) (.isi (.var 1) 1)) (.cmp .eq (.var 0) (.var 1)))) .nil)))
def f_4 : VM.Fn := ⟨2, 3, b_4⟩
/-- _law_told -/
def b_5 : VM.Stms := (.cons (.asg (.name 1) (.lst .nil)) (.cons (.loop (.name 2) (.rng1 (.call 2 (.cons (.var 0) (.cons (.lit (.int 11)) .nil)))) (.cons (.asg (.tup [(.name 3), (.name 4)]) (.call 3 (.cons (.var 0) .nil))) (.cons (.asg (.name 5) (.idx (.lst (.cons (.lit (.int 1)) (.cons (.neg (.lit (.int 1))) (.cons (.lit (.int 2)) (.cons (.neg (.lit (.int 2))) (.cons (.lit (.int 3)) (.cons (.bin .pow (.lit (.int 10)) (.lit (.int 6))) .nil))))))) (.call 2 (.cons (.var 0) (.cons (.lit (.int 6)) .nil))))) (.cons (.ife (.and (.cmp .ne (.var 1) (.lst .nil)) (.cmp .eq (.call 2 (.cons (.var 0) (.cons (.lit (.int 3)) .nil))) (.lit (.int 0)))) (.cons (.asg (.tup [(.name 3), (.name 4), (.name 5)]) (.idx (.var 1) (.call 2 (.cons (.var 0) (.cons (.bif .len (.cons (.var 1) .nil)) .nil))))) (.cons (.asg (.name 5) (.idx (.lst (.cons (.bin .sub (.lit (.int 0)) (.var 5)) (.cons (.var 5) (.cons (.lit (.int 1)) .nil)))) (.call 2 (.cons (.var 0) (.cons (.lit (.int 3)) .nil))))) .nil)) .nil) (.cons (.expr (.mth .append (.var 1) (.cons (.tup (.cons (.var 3) (.cons (.var 4) (.cons (.var 5) .nil)))) .nil))) .nil))))) (.cons (.ret (.var 1)) .nil)))
def f_5 : VM.Fn := ⟨1, 6, b_5⟩
/-- law -/
def b_6 : VM.Stms := (.cons (.asg (.name 1) (.call 1 (.cons (.var 0) .nil))) (.cons (.asg (.name 2) (.lit (.bl true))) (.cons (.whil (.var 2) (.cons (.asg (.name 3) (.call 5 (.cons (.var 1) .nil))) (.cons (.asg (.name 4) (.bif .list (.cons (.var 3) .nil))) (.cons (.asg (.name 5) .dct0) (.cons (.loop (.tup [(.name 6), (.name 7), (.name 8)]) (.seq (.var 3)) (.cons (.asg (.name 9) (.sm (.lc [10] (.name 10) (.seq (.var 3)) (.cons (.cmp .eq (.sl (.var 10) .no (.at_ (.lit (.int 2)))) (.tup (.cons (.var 6) (.cons (.var 7) .nil)))) .nil) (.idx (.var 10) (.lit (.int 2)))))) (.cons (.ife (.cmp .ne (.var 9) (.lit (.int 0))) (.cons (.sub (.var 5) (.tup (.cons (.var 6) (.cons (.var 7) .nil))) (.var 9)) .nil) .nil) .nil))) (.cons (.loop (.name 11) (.rng1 (.lit (.int 2))) (.cons (.asg (.name 12) (.call 0 (.cons (.var 3) .nil))) (.cons (.ife (.or (.nt (.call 4 (.cons (.var 12) (.cons (.var 5) .nil)))) (.cmp .ne (.var 3) (.var 4))) (.cons (.ret (.lit (.bl false))) .nil) .nil) (.cons (.sub (.var 12) (.tup (.cons (.lit (.int 8)) (.cons (.tup (.cons (.lit (.int 8)) .nil)) .nil))) (.lit (.int 1))) .nil)))) (.cons (.asg (.name 2) (.cmp .lt (.idx (.var 1) (.lit (.str [97, 116]))) (.bif .len (.cons (.idx (.var 1) (.lit (.str [99, 101, 108, 108, 115]))) .nil)))) .nil))))))) (.cons (.ret (.lit (.bl true))) .nil))))
def f_6 : VM.Fn := ⟨1, 13, b_6⟩
def gn : List PySem.Str := []
def cn : List PySem.Str := []
def prg : VM.Prg := { fns := [f_0, f_1, f_2, f_3, f_4, f_5, f_6], globs := [], fuel := 1000000 }
def defs : List VM.DefE := [
  ⟨"summed", "summed", top 1, ["changes", "bag", "moment", "row", "count", "pair"], ["changes"], "summed", true⟩,
  ⟨"_law_begun", "_law_begun", top 3, ["script", "own", "cell"], ["script"], "_law_begun", true⟩,
  ⟨"_law_take", "_law_take", top 4, ["state", "many", "cells", "found", "cell"], ["state", "many"], "_law_take", true⟩,
  ⟨"_law_pair", "_law_pair", top 5, ["state", "moment", "many", "k"], ["state"], "_law_pair", true⟩,
  ⟨"_law_alike", "_law_alike", top 6, ["found", "due", "k"], ["found", "due"], "_law_alike", true⟩,
  ⟨"_law_told", "_law_told", top 7, ["state", "found", "k", "moment", "row", "count"], ["state"], "_law_told", true⟩,
  ⟨"law", "law", top 8, ["script", "state", "going", "told", "held", "due", "moment", "row", "count", "total", "one", "turn", "found"], ["script"], "law", true⟩]
theorem text_ok : VM.TextOk prg defs gn cn := VM.textOk_of (by decide +kernel)
end K20
namespace K20
open PySem VM
def bLaw20 (bg tl sm al : Nat) : Stms := (.cons (.asg (.name 1) (.call bg (.cons (.var 0) .nil))) (.cons (.asg (.name 2) (.lit (.bl true))) (.cons (.whil (.var 2) (.cons (.asg (.name 3) (.call tl (.cons (.var 1) .nil))) (.cons (.asg (.name 4) (.bif .list (.cons (.var 3) .nil))) (.cons (.asg (.name 5) .dct0) (.cons (.loop (.tup [(.name 6), (.name 7), (.name 8)]) (.seq (.var 3)) (.cons (.asg (.name 9) (.sm (.lc [10] (.name 10) (.seq (.var 3)) (.cons (.cmp .eq (.sl (.var 10) .no (.at_ (.lit (.int 2)))) (.tup (.cons (.var 6) (.cons (.var 7) .nil)))) .nil) (.idx (.var 10) (.lit (.int 2)))))) (.cons (.ife (.cmp .ne (.var 9) (.lit (.int 0))) (.cons (.sub (.var 5) (.tup (.cons (.var 6) (.cons (.var 7) .nil))) (.var 9)) .nil) .nil) .nil))) (.cons (.loop (.name 11) (.rng1 (.lit (.int 2))) (.cons (.asg (.name 12) (.call sm (.cons (.var 3) .nil))) (.cons (.ife (.or (.nt (.call al (.cons (.var 12) (.cons (.var 5) .nil)))) (.cmp .ne (.var 3) (.var 4))) (.cons (.ret (.lit (.bl false))) .nil) .nil) (.cons (.sub (.var 12) (.tup (.cons (.lit (.int 8)) (.cons (.tup (.cons (.lit (.int 8)) .nil)) .nil))) (.lit (.int 1))) .nil)))) (.cons (.asg (.name 2) (.cmp .lt (.idx (.var 1) (.lit (.str [97, 116]))) (.bif .len (.cons (.idx (.var 1) (.lit (.str [99, 101, 108, 108, 115]))) .nil)))) .nil))))))) (.cons (.ret (.lit (.bl true))) .nil))))
theorem callq {P : Prg} {k f : Nat} {vs : List VM.D} {S : Store} {Q : VM.D → Store → Prop} (h : wp (callN P k f vs) S Q) : wp ((ctl P k).call f vs) S Q := h
theorem going_ok {C : Ctl} {ρ : VM.Env} {S : Store} {n : Nat} {M : Int} {Q : VM.D → Store → Prop} (hv : getV ρ 1 = some (.ref n)) (st : St6 S n M) (q : ∀ b : Bool, (b = true → 41 ≤ M) → Q (.bl b) S) :
    wp (evE C (.cmp .lt (.idx (.var 1) (.lit (.str [97, 116]))) (.bif .len (.cons (.idx (.var 1) (.lit (.str [99, 101, 108, 108, 115]))) .nil))) ρ) S Q := by
  obtain ⟨c, xs, a, r, l, m, o, s, h0, h1⟩ := st
  refine eCmp (eIdx (eVar hv (eLit ((wp_ix_dk s.ob kj_at).mpr (eBif (esCons (eIdx (eVar hv (eLit ((wp_ix_dk s.ob kj_cells).mpr (esNil ((wp_len_ls s.ce).mpr ?_))))))))))))
  rw [opC_lt_i, List.length_map]
  refine wp_ret.mpr (q _ fun h => ?_)
  have := of_decide_eq_true h
  omega
theorem wp_eqNk {S : Store} {a b : Nk} {Q : VM.D → Store → Prop} (q : Q (.bl (decide (a = b))) S) : wp (opC .eq (nkD a) (nkD b)) S Q := by
  have sh : ∀ k : Nk, SeqAt.shaped (encK k) = true := fun k => by
    unfold SeqAt.shaped
    have := depth_nk k
    rw [lay_nk, decide_eq_true (show (encK k).depth ≤ 64 by omega)]
    rfl
  refine wp_bnd.mpr ((wp_two (deep_nk S 57 a) (deep_nk S 57 b) (sh a) (sh b)).mpr (wp_ret.mpr ?_))
  rw [eqv_nk]
  exact q
/-- one key's sum -/
theorem tot_ok {C : Ctl} {ρ : VM.Env} {S : Store} {p : Nat} {L : List (Nk × Int)} {q : Nk × Int} {x : Option VM.D} {Q : VM.D → Store → Prop} (hp : S[p]? = some (.lst (L.map tri))) (hl : L.length ≤ 1000) (hρ : ρ.length = 13) (h3 : getV ρ 3 = some (.ref p)) (h6 : ∀ d : VM.D, getV ((wip ρ [10]).set 10 (some d)) 6 = some (.int q.1.1)) (h7 : ∀ d : VM.D, getV ((wip ρ [10]).set 10 (some d)) 7 = some (.tup (q.1.2.map .int)))
    (k : Q (.int (tot L q.1)) (S ++ [.lst (((L.filter fun p => decide (p.1 = q.1)).map (·.2)).map VM.D.int)])) :
    wp (evE C (.sm (.lc [10] (.name 10) (.seq (.var 3)) (.cons (.cmp .eq (.sl (.var 10) .no (.at_ (.lit (.int 2)))) (.tup (.cons (.var 6) (.cons (.var 7) .nil)))) .nil) (.idx (.var 10) (.lit (.int 2))))) ρ) S Q := by
  refine eSm (eLcG (rSeq (eVar h3 (seq_lst hp ⟨L.map tri, fun i acc S2 => S2 = S ∧ acc = (((L.take i).filter fun p => decide (p.1 = q.1)).map (·.2)).map VM.D.int, .at_ hp (fun i S2 ⟨acc, h, _⟩ => by rw [h]; exact hp), ⟨rfl, rfl⟩, ?_, ?_⟩))))
  · rintro i d acc S2 hd ⟨rfl, rfl⟩
    rw [List.getElem?_map] at hd
    obtain ⟨y, hy, rfl⟩ := Option.map_eq_some_iff.mp hd
    have g10 : ∀ {d : VM.D}, getV ((wip ρ [10]).set 10 (some d)) 10 = some d := fun {d} => by
      unfold getV
      rw [List.getElem?_set_self (by rw [wip_len]; omega)]
    refine ⟨_, rfl, iCons (eCmp (eSl (eVar g10 (pNo (pAt (eLit ⟨2, rfl, ?_⟩))))))⟩
    have e2 : opSl (tri y) none (some 2) = ret (nkD y.1) := rfl
    rw [e2]
    refine wp_ret.mpr (eTup (esCons (eVar (h6 _) (esCons (eVar (h7 _) (esNil ⟨by show 2 ≤ 16777216; omega, ?_⟩))))))
    refine wp_eqNk (b := q.1) (tBl ?_)
    have hn : ((L.take (i + 1)).filter fun p => decide (p.1 = q.1)) = if decide (y.1 = q.1) = true then ((L.take i).filter fun p => decide (p.1 = q.1)) ++ [y] else (L.take i).filter fun p => decide (p.1 = q.1) := by
      rw [take_snoc hy, List.filter_append, List.filter_cons, List.filter_nil]
      split
      · rfl
      · rw [List.append_nil]
    refine iteB (fun hz => ?_) (fun hz => ?_)
    · refine iNil (iteT (eIdx (eVar g10 (eLit ((wp_ix_tp (v := .int y.2) rfl).mpr ⟨?_, rfl, ?_⟩)))))
      · rw [List.length_map, List.length_map]
        have h1 := List.length_filter_le (fun p : Nk × Int => decide (p.1 = q.1)) (L.take i)
        have h2 : (L.take i).length ≤ L.length := by rw [List.length_take]; omega
        show _ < 16777216
        omega
      · rw [hn, if_pos hz, List.map_append, List.map_append]
        rfl
    · refine iteF ⟨rfl, ?_⟩
      rw [hn, if_neg (by rw [hz]; decide)]
  · rintro acc S2 ⟨rfl, rfl⟩
    rw [List.length_map, List.take_length]
    exact wp_sm get_new k
theorem frU {S S' : Store} {n u : Nat} {M : Int} (h : St6 S n M) (f : Fr u S S') (hu : n < u) : St6 S' n M := by
  obtain ⟨c, xs, a, r, l, m, o, s, q⟩ := h
  have := s.lt
  exact ⟨c, xs, a, r, l, m, o, ⟨f.get _ _ (by omega) s.ob, f.get _ _ (by omega) s.ce, s.lt, s.px, s.pa, s.pr, s.pm⟩, q⟩
theorem law_ok {S : Store} {sv : VM.D} {ns : List Int} (hs : Script sv ns S) (hl : ns.length ≤ 63) : wp (callN prg 40 6 [sv]) S fun d _ => d = .bl true := by
  refine callR (fn := ⟨1, 13, bLaw20 1 5 0 4⟩) (ρ := [some sv, none, none, none, none, none, none, none, none, none, none, none, none]) rfl rfl rfl ?_
  unfold bLaw20
  refine sCons (sAsgN (eCall (esCons (eVar rfl (esNil (callq ?_))))))
  refine wp_imp (begun6 (P := prg) (k := 38) rfl hs hl) ?_
  rintro _ S1 ⟨n, rfl, st1, _, _⟩
  refine sCons (sAsgN (eLit ?_))
  refine sCons (sWhil (m := 2583) (J := fun m ρ S => ∃ (b : Bool) (x3 x4 x5 x6 x7 x8 x9 x11 x12 : Option VM.D), ρ = [some sv, some (.ref n), some (.bl b), x3, x4, x5, x6, x7, x8, x9, none, x11, x12] ∧ (b = true → 1 ≤ m) ∧ St6 S n m) (by decide) ⟨true, _, _, _, _, _, _, _, _, _, rfl, fun _ => by omega, st1⟩ ?_)
  rintro m ρ S ⟨b, x3, x4, x5, x6, x7, x8, x9, x11, x12, rfl, hm, st⟩
  refine eVar rfl (tBl (iteB (fun hb => ?_) (fun hb => ?_)))
  · have hm := hm hb
    have hn := st.below
    refine sCons (sAsgN (eCall (esCons (eVar rfl (esNil (callq ?_))))))
    refine wp_imp (told6_ok (P := prg) (k := 36) (t := 2) (pr := 3) (i := 5) rfl rfl rfl st) ?_
    rintro _ S2 ⟨p, K, rfl, hp, gp, hK, h9, st2, f2⟩
    refine sCons (sAsgN (eBif (esCons (eVar rfl (esNil (wp_bnd.mpr ((wp_lst gp).mpr (wp_new.mpr ?_))))))))
    have gp3 : (S2 ++ [Obj.lst (K.map tri)])[p]? = some (.lst (K.map tri)) := get_old gp
    have gh3 : (S2 ++ [Obj.lst (K.map tri)])[S2.length]? = some (.lst (K.map tri)) := get_new
    have st3 := st2.ext (Le.new S2 (Obj.lst (K.map tri)))
    have l3 : S.length ≤ (S2 ++ [Obj.lst (K.map tri)]).length := by
      have := f2.len
      rw [List.length_append]
      omega
    show wp (evSs (ctl prg 39) prg.fuel _ [some sv, some (.ref n), some (.bl b), some (.ref p), some (.ref S2.length), x5, x6, x7, x8, x9, none, x11, x12]) (S2 ++ [Obj.lst (K.map tri)]) _
    generalize S2.length = h at gh3 ⊢
    generalize S2 ++ [Obj.lst (K.map tri)] = S3 at gp3 gh3 st3 l3 ⊢
    refine sCons (sAsgN (eDct0 ?_))
    have nu : n < S3.length := by omega
    have pu : p < S3.length := (List.getElem?_eq_some_iff.mp gp3).1
    have hu : h < S3.length := (List.getElem?_eq_some_iff.mp gh3).1
    refine sCons (sLoop (rSeq (eVar rfl (seq_lst (get_old gp3) ⟨K.map tri, fun j ρ S' => ∃ (y6 y7 y8 y9 : Option VM.D), ρ = [some sv, some (.ref n), some (.bl b), some (.ref p), some (.ref h), some (.ref S3.length), y6, y7, y8, y9, none, x11, x12] ∧ NdS S' S3.length (dueN (tot K) ((K.take j).map (·.1))) ∧ Fr S3.length S3 S',
      .at_ (get_old gp3) (fun j S' ⟨ρ, _, _, _, _, _, _, f⟩ => f.keep gp3 (by omega)), ⟨_, _, _, _, rfl, .inr ⟨rfl, get_new⟩, Fr.new⟩, ?_, ?_⟩))))
    · rintro j d ρ2 S4 hd ⟨y6, y7, y8, y9, rfl, hN, f4⟩
      rw [List.getElem?_map] at hd
      obtain ⟨y, hy, rfl⟩ := Option.map_eq_some_iff.mp hd
      refine ⟨_, rfl, ?_⟩
      refine sCons (sAsgN (tot_ok (q := y) (x := none) (f4.keep gp3 (by omega)) (by omega) rfl rfl (fun _ => rfl) (fun _ => rfl) ?_))
      have hN5 : NdS (S4 ++ [.lst (((K.filter fun p => decide (p.1 = y.1)).map (·.2)).map VM.D.int)]) S3.length (dueN (tot K) ((K.take j).map (·.1))) := hN.le (Le.new _ _)
      have f5 : Fr S3.length S3 (S4 ++ [.lst (((K.filter fun p => decide (p.1 = y.1)).map (·.2)).map VM.D.int)]) := f4.trans Fr.new
      have hs : dueN (tot K) ((K.take (j + 1)).map (·.1)) = if tot K y.1 = 0 then dueN (tot K) ((K.take j).map (·.1)) else nput (dueN (tot K) ((K.take j).map (·.1))) y.1 (tot K y.1) := by
        rw [take_snoc hy, List.map_append, List.map_cons, List.map_nil, dueN_snoc]
      have dl : (dueN (tot K) ((K.take j).map (·.1))).length < big := by
        have h1 : (K.take j).length ≤ K.length := by rw [List.length_take]; omega
        have h2 := mergeN_dl (tot K) ((K.take j).map (·.1))
        rw [List.length_map] at h2
        show _ < 16777216
        omega
      refine sCons (sIf (eCmp (eVar rfl (eLit (wp_ne_int (tBl (iteB (fun hz => ?_) (fun hz => ?_))))))))
      · have hz : ¬ tot K y.1 = 0 := by
          intro e
          rw [e] at hz
          cases hz
        refine sCons (sSub (eVar rfl (eVar rfl (eTup (esCons (eVar rfl (esCons (eVar rfl (esNil ⟨by show 2 ≤ 16777216; omega, wp_setN (k := y.1) hN5 dl (sNil (sNil ?_))⟩)))))))))
        refine ⟨_, _, _, _, rfl, .inl ?_, f5.trans Fr.set⟩
        rw [hs, if_neg hz]
        rcases hN5 with e | ⟨_, e⟩ <;> exact get_set e
      · have hz : tot K y.1 = 0 := by
          rw [Bool.not_eq_false', decide_eq_true_eq] at hz
          exact hz
        refine sNil (sNil ⟨_, _, _, _, rfl, ?_, f5⟩)
        rw [hs, if_pos hz]
        exact hN5
    · rintro ρ2 S4 ⟨y6, y7, y8, y9, rfl, hN, f4⟩
      rw [List.length_map, List.take_length, ← bag_is] at hN
      have gp4 := f4.keep gp3 (show p ≠ S3.length by omega)
      have gh4 := f4.keep gh3 (show h ≠ S3.length by omega)
      have st4 := frU st3 f4 nu
      have uw : S3.length < S4.length := by
        rcases hN with e | ⟨_, e⟩ <;> exact (List.getElem?_eq_some_iff.mp e).1
      have l4 := f4.len
      show wp (evSs (ctl prg 39) prg.fuel _ [some sv, some (.ref n), some (.bl b), some (.ref p), some (.ref h), some (.ref S3.length), y6, y7, y8, y9, none, x11, x12]) S4 _
      generalize S3.length = u at hN uw ⊢
      have rows : ∀ q ∈ nzN (accN K), q.1.2.length ≤ 100 := fun q hq => by
        have := bag_rows h9 q hq
        omega
      have blen : (nzN (accN K)).length ≤ 1000 := by
        have h1 := accN_len K
        have h2 := List.length_filter_le (fun p : Nk × Int => !decide (p.2 = 0)) (accN K)
        show (List.filter _ _).length ≤ 1000
        omega
      refine sCons (sLoop (rRng1 (eLit ⟨2, rfl, rfl, rngL 0 (2 : Int).toNat, fun j ρ S' => ∃ (y11 y12 : Option VM.D), ρ = [some sv, some (.ref n), some (.bl b), some (.ref p), some (.ref h), some (.ref u), y6, y7, y8, y9, none, y11, y12] ∧ Fr S4.length S4 S',
        .rng, ⟨_, _, rfl, Fr.refl _⟩, ?_, ?_⟩)))
      · rintro j d ρ2 S5 hd ⟨y11, y12, rfl, f5⟩
        obtain ⟨_, rfl⟩ := rngL_get hd
        refine ⟨_, rfl, ?_⟩
        have gp5 := f5.keep gp4 (Nat.ne_of_lt (List.getElem?_eq_some_iff.mp gp4).1)
        have gh5 := f5.keep gh4 (Nat.ne_of_lt (List.getElem?_eq_some_iff.mp gh4).1)
        have hN5 : NdS S5 u (nzN (accN K)) := hN.imp (fun e => f5.keep e (by omega)) fun e => ⟨e.1, f5.keep e.2 (by omega)⟩
        refine sCons (sAsgN (eCall (esCons (eVar rfl (esNil (callq ?_))))))
        refine wp_imp (summed_ok (P := prg) (k := 38) (i := 0) rfl gp5 (by omega)) ?_
        rintro _ S6 ⟨ob, rfl, rfl⟩
        have l6 : Le S5 (S5 ++ [ob] ++ [.nd (nzN (accN K))]) := (Le.new _ _).trans (Le.new _ _)
        have gw : (S5 ++ [ob] ++ [Obj.nd (nzN (accN K))])[S5.length + 1]? = some (.nd (nzN (accN K))) := by
          rw [show S5.length + 1 = (S5 ++ [ob]).length by rw [List.length_append]; rfl]
          exact get_new
        generalize S5 ++ [ob] ++ [.nd (nzN (accN K))] = S6 at l6 gw ⊢
        refine sCons (sIf (eOr (eNt (eCall (esCons (eVar rfl (esCons (eVar rfl (esNil (callq ?_))))))))))
        refine wp_imp (alike_nd (P := prg) (k := 33) (i := 4) rfl (.inl gw) (hN5.le l6) rfl blen rows) ?_
        rintro _ S7 ⟨rfl, l7⟩
        refine tBl (tBl (iteF ?_))
        refine eCmp (eVar rfl (eVar rfl (ne_sameT ((l6.trans l7).get gp5) ((l6.trans l7).get gh5) (tBl (iteF (sNil ?_))))))
        refine sCons (sSub (eLit (eVar rfl (eTup (esCons (eLit (esCons (eTup (esCons (eLit (esNil ⟨by show 1 ≤ 16777216; omega, esNil ⟨by show 2 ≤ 16777216; omega, wp_setN (k := (8, [8])) (c := 1) (.inl (l7.get gw)) (by show _ < 16777216; omega) (sNil ?_)⟩⟩)))))))))))
        exact ⟨_, _, rfl, (f5.trans (Fr.le (l6.trans l7))).put (by have := f5.len; omega)⟩
      · rintro ρ2 S5 ⟨y11, y12, rfl, f5⟩
        have st5 := frU st4 f5 (by omega)
        refine sCons (sAsgN (going_ok rfl st5 fun g hg => sNil ?_))
        exact ⟨m - 1, by omega, g, _, _, _, _, _, _, _, _, _, rfl, fun z => by have := hg z; omega, st5.mono (by omega)⟩
  · exact sCons (sRet (eLit rfl))
theorem law_is (ns : List Int) (h : ns.length ≤ 63) (hb : ∀ z ∈ ns, Builtin.Int.intBits z ≤ 1048576) : VM.LawIs prg 40 6 ns := by
  refine ⟨?_, ?_⟩
  · obtain ⟨d, S, e, rfl⟩ := law_ok (S := [.ro (ns.map .int)]) (sv := .ref 0) (ns := ns) (.inr ⟨0, rfl, rfl⟩) h
    exact ⟨S, e⟩
  · obtain ⟨d, S, e, rfl⟩ := law_ok (S := []) (sv := .kl (ns.map .int)) (ns := ns) (.inl rfl) h
    exact ⟨S, e⟩
end K20
namespace K20
open PySem L2 PySem.Spec PyProof.Rows
def tab (l m n : List Addr) : VM.Tab := { cA := fun i => l.getD i 0, fA := fun i => m.getD i 0, iA := fun i => n.getD i 0 }
theorem facts (w : World) {K : PySem.W.Frag} {h : Heap} {mg : PySem.Str → Option Value} {fa : Addr} (X : K.In h) (G : h.Ns mainGlobals mg) (hfa : mg "law" = some (.ref fa))
    {f0 : Addr} {od0 an0 : Option Addr} {sl0 : Array (Option Value)} {oc0 kV0 dc0 pm0 cd0 ct0 : Value}
    {f1 : Addr} {od1 an1 : Option Addr} {sl1 : Array (Option Value)} {oc1 kV1 dc1 pm1 cd1 ct1 : Value}
    {f2 : Addr} {od2 an2 : Option Addr} {sl2 : Array (Option Value)} {oc2 kV2 dc2 pm2 cd2 ct2 : Value}
    {f3 : Addr} {od3 an3 : Option Addr} {sl3 : Array (Option Value)} {oc3 kV3 dc3 pm3 cd3 ct3 : Value}
    {f4 : Addr} {od4 an4 : Option Addr} {sl4 : Array (Option Value)} {oc4 kV4 dc4 pm4 cd4 ct4 : Value}
    {f5 : Addr} {od5 an5 : Option Addr} {sl5 : Array (Option Value)} {oc5 kV5 dc5 pm5 cd5 ct5 : Value}
    {f6 : Addr} {od6 an6 : Option Addr} {sl6 : Array (Option Value)} {oc6 kV6 dc6 pm6 cd6 ct6 : Value}
    (a0 : PySem.W.nsIn K mainGlobals "summed" = some (some (.ref f0))) (l0 : K.lookup f0 = some ⟨oc0, od0, .func (PySem.W.fnOf "summed" "summed" (defArgs (top 1)) (defBody (top 1)) (defScope (top 1)) .none kV0 dc0 pm0 an0 cd0 ct0), sl0⟩) (c0 : PySem.W.codeIn K cd0 "summed" = true) (k0 : PySem.W.keepIn K (.ref f0) = true)
    (a1 : PySem.W.nsIn K mainGlobals "_law_begun" = some (some (.ref f1))) (l1 : K.lookup f1 = some ⟨oc1, od1, .func (PySem.W.fnOf "_law_begun" "_law_begun" (defArgs (top 3)) (defBody (top 3)) (defScope (top 3)) .none kV1 dc1 pm1 an1 cd1 ct1), sl1⟩) (c1 : PySem.W.codeIn K cd1 "_law_begun" = true) (k1 : PySem.W.keepIn K (.ref f1) = true)
    (a2 : PySem.W.nsIn K mainGlobals "_law_take" = some (some (.ref f2))) (l2 : K.lookup f2 = some ⟨oc2, od2, .func (PySem.W.fnOf "_law_take" "_law_take" (defArgs (top 4)) (defBody (top 4)) (defScope (top 4)) .none kV2 dc2 pm2 an2 cd2 ct2), sl2⟩) (c2 : PySem.W.codeIn K cd2 "_law_take" = true) (k2 : PySem.W.keepIn K (.ref f2) = true)
    (a3 : PySem.W.nsIn K mainGlobals "_law_pair" = some (some (.ref f3))) (l3 : K.lookup f3 = some ⟨oc3, od3, .func (PySem.W.fnOf "_law_pair" "_law_pair" (defArgs (top 5)) (defBody (top 5)) (defScope (top 5)) .none kV3 dc3 pm3 an3 cd3 ct3), sl3⟩) (c3 : PySem.W.codeIn K cd3 "_law_pair" = true) (k3 : PySem.W.keepIn K (.ref f3) = true)
    (a4 : PySem.W.nsIn K mainGlobals "_law_alike" = some (some (.ref f4))) (l4 : K.lookup f4 = some ⟨oc4, od4, .func (PySem.W.fnOf "_law_alike" "_law_alike" (defArgs (top 6)) (defBody (top 6)) (defScope (top 6)) .none kV4 dc4 pm4 an4 cd4 ct4), sl4⟩) (c4 : PySem.W.codeIn K cd4 "_law_alike" = true) (k4 : PySem.W.keepIn K (.ref f4) = true)
    (a5 : PySem.W.nsIn K mainGlobals "_law_told" = some (some (.ref f5))) (l5 : K.lookup f5 = some ⟨oc5, od5, .func (PySem.W.fnOf "_law_told" "_law_told" (defArgs (top 7)) (defBody (top 7)) (defScope (top 7)) .none kV5 dc5 pm5 an5 cd5 ct5), sl5⟩) (c5 : PySem.W.codeIn K cd5 "_law_told" = true) (k5 : PySem.W.keepIn K (.ref f5) = true)
    (a6 : PySem.W.nsIn K mainGlobals "law" = some (some (.ref f6))) (l6 : K.lookup f6 = some ⟨oc6, od6, .func (PySem.W.fnOf "law" "law" (defArgs (top 8)) (defBody (top 8)) (defScope (top 8)) .none kV6 dc6 pm6 an6 cd6 ct6), sl6⟩) (c6 : PySem.W.codeIn K cd6 "law" = true) (k6 : PySem.W.keepIn K (.ref f6) = true)
    (z0 : PySem.W.nsIn K mainGlobals "len" = some none)
    (z1 : PySem.W.nsIn K mainGlobals "abs" = some none)
    (z2 : PySem.W.nsIn K mainGlobals "int" = some none)
    (z3 : PySem.W.nsIn K mainGlobals "str" = some none)
    (z4 : PySem.W.nsIn K mainGlobals "repr" = some none)
    (z5 : PySem.W.nsIn K mainGlobals "tuple" = some none)
    (z6 : PySem.W.nsIn K mainGlobals "list" = some none)
    (z7 : PySem.W.nsIn K mainGlobals "all" = some none)
    (z8 : PySem.W.nsIn K mainGlobals "any" = some none)
    (z9 : PySem.W.nsIn K mainGlobals "range" = some none)
    (z10 : PySem.W.nsIn K mainGlobals "zip" = some none)
    (z11 : PySem.W.nsIn K mainGlobals "isinstance" = some none)
    (z12 : PySem.W.nsIn K mainGlobals "bool" = some none)
    (z13 : PySem.W.nsIn K mainGlobals "dict" = some none)
    (z14 : PySem.W.nsIn K mainGlobals "ValueError" = some none)
    (z15 : PySem.W.nsIn K mainGlobals "set" = some none)
    (z16 : PySem.W.nsIn K mainGlobals "sorted" = some none)
    (z17 : PySem.W.nsIn K mainGlobals "reversed" = some none)
    (z18 : PySem.W.nsIn K mainGlobals "max" = some none)
    (z19 : PySem.W.nsIn K mainGlobals "min" = some none)
    (z20 : PySem.W.nsIn K mainGlobals "sum" = some none) :
    ∃ (T : VM.Tab) (dL : VM.DefE) (fd : FuncData) (x : PySem.Str), VM.Facts w T prg K mg defs gn cn ∧ defs[6]? = some dL ∧ dL.ps = [x] ∧ VM.FunA K dL.nm dL.qual dL.stm fa fd ∧ ∀ (s : Shared) (u : Value), BindsTo s fd ⟨[u], []⟩ [(x, u)] := by
  have e : f6 = fa := (PySem.Value.ref.inj (Option.some.inj (hfa.symm.trans (PySem.W.mg_of X G a6)))).symm
  subst e
  have F00 := fun_mk (st := top 1) l0 c0 k0
  have F0 := VM.funA_of F00
  have b0 := F00.binds (ps := ["changes"]) fun _ _ _ _ _ _ us hl => match us, hl with | [_], _ => rfl
  have F10 := fun_mk (st := top 3) l1 c1 k1
  have F1 := VM.funA_of F10
  have b1 := F10.binds (ps := ["script"]) fun _ _ _ _ _ _ us hl => match us, hl with | [_], _ => rfl
  have F20 := fun_mk (st := top 4) l2 c2 k2
  have F2 := VM.funA_of F20
  have b2 := F20.binds (ps := ["state", "many"]) fun _ _ _ _ _ _ us hl => match us, hl with | [_, _], _ => rfl
  have F30 := fun_mk (st := top 5) l3 c3 k3
  have F3 := VM.funA_of F30
  have b3 := F30.binds (ps := ["state"]) fun _ _ _ _ _ _ us hl => match us, hl with | [_], _ => rfl
  have F40 := fun_mk (st := top 6) l4 c4 k4
  have F4 := VM.funA_of F40
  have b4 := F40.binds (ps := ["found", "due"]) fun _ _ _ _ _ _ us hl => match us, hl with | [_, _], _ => rfl
  have F50 := fun_mk (st := top 7) l5 c5 k5
  have F5 := VM.funA_of F50
  have b5 := F50.binds (ps := ["state"]) fun _ _ _ _ _ _ us hl => match us, hl with | [_], _ => rfl
  have F60 := fun_mk (st := top 8) l6 c6 k6
  have F6 := VM.funA_of F60
  have b6 := F60.binds (ps := ["script"]) fun _ _ _ _ _ _ us hl => match us, hl with | [_], _ => rfl
  refine ⟨tab [] [f0, f1, f2, f3, f4, f5, f6] [], _, _, "script", ⟨fun i d h hg => match i, h, hg with
  | 0, h, _ => by cases h; exact ⟨_, _, PySem.W.mg_of X G a0, k0, b0, F0⟩
  | 1, h, _ => by cases h; exact ⟨_, _, PySem.W.mg_of X G a1, k1, b1, F1⟩
  | 2, h, _ => by cases h; exact ⟨_, _, PySem.W.mg_of X G a2, k2, b2, F2⟩
  | 3, h, _ => by cases h; exact ⟨_, _, PySem.W.mg_of X G a3, k3, b3, F3⟩
  | 4, h, _ => by cases h; exact ⟨_, _, PySem.W.mg_of X G a4, k4, b4, F4⟩
  | 5, h, _ => by cases h; exact ⟨_, _, PySem.W.mg_of X G a5, k5, b5, F5⟩
  | 6, h, _ => by cases h; exact ⟨_, _, PySem.W.mg_of X G a6, k6, b6, F6⟩
  | _ + 7, h, _ => (by cases h), fun x hx => ?_, fun i x h => match i, h with
  | _ + 0, h => (by cases h), fun i x h => match i, h with
  | _ + 0, h => (by cases h), ?exck, ?kdsk, ?fask, ?dfsk, ?clsk⟩, rfl, rfl, F6, fun s u => .of_eq rfl⟩
  case exck => exact fun n j b h => by cases h
  case kdsk => exact fun x kvs h => by cases h
  case fask => exact fun i a h => by cases h
  case dfsk => exact fun i ds h => by cases h
  case clsk => exact fun q ce h => by cases h
  simp only [VM.blts, List.mem_cons, List.not_mem_nil, or_false] at hx
  rcases hx with rfl | rfl | rfl | rfl | rfl | rfl | rfl | rfl | rfl | rfl | rfl | rfl | rfl | rfl | rfl | rfl | rfl | rfl | rfl | rfl | rfl
  · exact PySem.W.mg_none_of X G z0
  · exact PySem.W.mg_none_of X G z1
  · exact PySem.W.mg_none_of X G z2
  · exact PySem.W.mg_none_of X G z3
  · exact PySem.W.mg_none_of X G z4
  · exact PySem.W.mg_none_of X G z5
  · exact PySem.W.mg_none_of X G z6
  · exact PySem.W.mg_none_of X G z7
  · exact PySem.W.mg_none_of X G z8
  · exact PySem.W.mg_none_of X G z9
  · exact PySem.W.mg_none_of X G z10
  · exact PySem.W.mg_none_of X G z11
  · exact PySem.W.mg_none_of X G z12
  · exact PySem.W.mg_none_of X G z13
  · exact PySem.W.mg_none_of X G z14
  · exact PySem.W.mg_none_of X G z15
  · exact PySem.W.mg_none_of X G z16
  · exact PySem.W.mg_none_of X G z17
  · exact PySem.W.mg_none_of X G z18
  · exact PySem.W.mg_none_of X G z19
  · exact PySem.W.mg_none_of X G z20
end K20
open PySem PySem.W PyProof.Rows
set_option maxRecDepth 100000 in
set_option maxHeartbeats 0 in
theorem PySem.Challenge.cw_lateriver_k20_changes_summed_holds : PySem.Challenge.rw_lateriver_k20_changes_summed.Holds := by
  w_on; o_law; k_head; (case hw => w_witness2)
  k_fill
  refine VM.walkV (l := PySem.Challenge.rw_lateriver_k20_changes_summed) (n := 63) (k := 40) (iL := 6) (P := K20.prg) (L := K20.defs) (gn := K20.gn) (cn := K20.cn) rfl (by decide) rfl ⟨rfl, by decide, by decide⟩ (fun w h Y => PySem.W.kIn_of Y) K20.text_ok ?F ?law
  case F =>
    intro w mg fa h KX G hmg
    refine' K20.facts w KX G hmg ?my_a0 ?my_l0 ?my_c0 ?my_k0 ?my_a1 ?my_l1 ?my_c1 ?my_k1 ?my_a2 ?my_l2 ?my_c2 ?my_k2 ?my_a3 ?my_l3 ?my_c3 ?my_k3 ?my_a4 ?my_l4 ?my_c4 ?my_k4 ?my_a5 ?my_l5 ?my_c5 ?my_k5 ?my_a6 ?my_l6 ?my_c6 ?my_k6 ?my_z0 ?my_z1 ?my_z2 ?my_z3 ?my_z4 ?my_z5 ?my_z6 ?my_z7 ?my_z8 ?my_z9 ?my_z10 ?my_z11 ?my_z12 ?my_z13 ?my_z14 ?my_z15 ?my_z16 ?my_z17 ?my_z18 ?my_z19 ?my_z20
    (case my_a0 => k_is)
    (case my_l0 => k_is)
    (case my_c0 => k_is)
    (case my_k0 => k_is)
    (case my_a1 => k_is)
    (case my_l1 => k_is)
    (case my_c1 => k_is)
    (case my_k1 => k_is)
    (case my_a2 => k_is)
    (case my_l2 => k_is)
    (case my_c2 => k_is)
    (case my_k2 => k_is)
    (case my_a3 => k_is)
    (case my_l3 => k_is)
    (case my_c3 => k_is)
    (case my_k3 => k_is)
    (case my_a4 => k_is)
    (case my_l4 => k_is)
    (case my_c4 => k_is)
    (case my_k4 => k_is)
    (case my_a5 => k_is)
    (case my_l5 => k_is)
    (case my_c5 => k_is)
    (case my_k5 => k_is)
    (case my_a6 => k_is)
    (case my_l6 => k_is)
    (case my_c6 => k_is)
    (case my_k6 => k_is)
    (case my_z0 => k_is)
    (case my_z1 => k_is)
    (case my_z2 => k_is)
    (case my_z3 => k_is)
    (case my_z4 => k_is)
    (case my_z5 => k_is)
    (case my_z6 => k_is)
    (case my_z7 => k_is)
    (case my_z8 => k_is)
    (case my_z9 => k_is)
    (case my_z10 => k_is)
    (case my_z11 => k_is)
    (case my_z12 => k_is)
    (case my_z13 => k_is)
    (case my_z14 => k_is)
    (case my_z15 => k_is)
    (case my_z16 => k_is)
    (case my_z17 => k_is)
    (case my_z18 => k_is)
    (case my_z19 => k_is)
    (case my_z20 => k_is)
  case law =>
    exact K20.law_is
