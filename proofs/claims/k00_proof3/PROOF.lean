import PyProof.Rows.All
import Wide.All
import OpenK.AllK
import Wide.FinOn
import HandS.ForMost
import HandS.ForExc
import HandS.ExcInit
import HandS.ExcIs
import HandS.IsInst
import HandS.Flow
import HandS.Style
import HandS.NoneIn
import HandS.Zip
import HandS.Wide
import HandS.CallSlots
import HandS.Defaults
import HandS.HeadEnd
import HandS.HeadHook1
import HandS.HeadHook2
import PyProof.CollectStr
import PyProof.ListNew
import KE.KExcIs
import HandS.ExcValue
import HandS.HeadHook3
import HandS.HeadHook4
import HandS.Ends
import KE.KxText
import HandS.Head2
import HandS.Head0
import HandS.Head1
import PySem.Challenge.RW_toldlate_k00_errors
set_option Elab.async false
set_option linter.all false
set_option maxRecDepth 100000
set_option maxHeartbeats 4000000
/-! VI: an interpreter of one's own for the texts' subset, over a store of one's own; its faith to the model over the hand layer. -/
namespace VI
open PySem L2

/-! ### values, objects, results -/
inductive MV where
  | non | bl (b : Bool) | int (i : Int) | str (x : Str) | ref (a : Nat)
  deriving DecidableEq
inductive MO where
  | lst (xs : List MV) | frz (xs : List MV) | tup (xs : List MV)
  | dct (kvs : List (Key × MV))
  | ins (c : Nat) (fs : List (Str × MV))
  | exo (c : Nat) (d : Option Nat)
  | exd (fs : List (Str × MV))
  | dead
abbrev M := List MO
abbrev SL := List (Option MV)
inductive Rs (α : Type) where
  | ok (a : α) (m : M) | ex (c : Nat) (d : Option Nat) (m : M) | no
def Rs.bind {α β : Type} : Rs α → (α → M → Rs β) → Rs β
  | .ok a m, f => f a m
  | .ex c d m, _ => .ex c d m
  | .no, _ => .no
inductive Fl where
  | nx (s : SL) (m : M) | rt (v : MV) (m : M) | bk (s : SL) (m : M) | ct (s : SL) (m : M)
  | ex (c : Nat) (d : Option Nat) (s : SL) (m : M) | no
/-- an expression's result, then a statement's -/
def Rs.fl {α : Type} (s : SL) : Rs α → (α → M → Fl) → Fl
  | .ok a m, f => f a m
  | .ex c d m, _ => .ex c d s m
  | .no, _ => .no

/-! ### the text -/
/-- a class in isinstance -/
inductive Cl where
  | ty (n : String) | own (c : Nat)
/-- a target -/
inductive Tg where
  | nm (i : Nat) | tp (is : List Nat)
/-- built-in functions and types, called -/
inductive Bi where
  | abs | int | len | list | tuple | min | max | all | str
  deriving DecidableEq
/-- methods of built-in types -/
inductive Mt where
  | append | pop
  deriving DecidableEq
mutual
inductive E where
  | var (i : Nat) | int (i : Int) | str (x : Str) | bl (b : Bool) | non | nop
  | bin (o : Operator) (a b : E) | cmp (o : CmpOp) (a b : E)
  | and (a b : E) | or (a b : E) | not (a : E) | neg (a : E) | ite (c a b : E)
  | tup (es : Es) | lst (es : Es) | sub (a i : E) | sl (a lo hi : E)
  | call (f : Nat) (es : Es) | bi (b : Bi) (es : Es) | isi (a : E) (cs : List Cl) (many : Bool) | mt (b : Mt) (o : E) (es : Es)
  | join (o e : E) | mk (c : Nat) (es : Es) | mkK (c : Nat) (es : Es) | fld (o : E) (f : Str)
  | lc (elt : E) (t : Tg) (it : It)
inductive Es where
  | nil | cons (e : E) (es : Es)
inductive It where
  | rng (a : E) | seq (a : E) | tup (a : E) | enum (a : E) | zip (a b : E)
end
mutual
inductive S where
  | asg (i : Nat) (e : E) | par (is : List Nat) (es : Es) | unp (is : List Nat) (e : E)
  | sub (o i e : E) | fst (o : E) (f : Str) (e : E) | ex (e : E) | ret (e : E)
  | ife (t : E) (a b : Ss) | for (t : Tg) (it : It) (b : Ss) | pas
inductive Ss where
  | nil | cons (s : S) (ss : Ss)
end

/-! ### reckoning -/
def big : Nat := 16777216
def tyName (m : M) : MV → Option (String ⊕ Nat)
  | .non => some (.inl "NoneType")
  | .bl _ => some (.inl "bool")
  | .int _ => some (.inl "int")
  | .str _ => some (.inl "str")
  | .ref a => match m[a]? with
    | some (.lst _) => some (.inl "list")
    | some (.tup _) => some (.inl "tuple")
    | some (.dct _) => some (.inl "dict")
    | some (.exo c none) => some (.inr c)
    | some (.exo c (some d)) => match m[d]? with
      | some (.exd _) => some (.inr c)
      | _ => none
    | _ => none
def truV (m : M) : MV → Option Bool
  | .non => some false
  | .bl b => some b
  | .int i => some (i != 0)
  | .str x => if x.length ≤ big then some ((x.length : Int) != 0) else none
  | .ref a => match m[a]? with
    | some (.lst xs) => some (!xs.isEmpty)
    | some (.frz xs) => some (!xs.isEmpty)
    | some (.tup xs) => some (!xs.isEmpty)
    | some (.dct xs) => some (!xs.isEmpty)
    | _ => none
/-- two scalars that == tells apart as data does -/
def scalM : MV → MV → Bool
  | .non, .non => true | .non, .int _ => true | .int _, .non => true | .non, .bl _ => true | .bl _, .non => true | .non, .str _ => true | .str _, .non => true
  | .int _, .int _ => true | .bl _, .bl _ => true | .str _, .str _ => true
  | .int _, .str _ => true | .str _, .int _ => true | .bl _, .str _ => true | .str _, .bl _ => true
  | _, _ => false
def okN (v : MV) (m : M) : Rs MV := .ok v m
def newO (o : MO) (m : M) : Rs MV := .ok (.ref m.length) (m ++ [o])
def opV (o : Operator) (x y : MV) (m : M) : Rs MV :=
  match x, y with
  | .int i, .int j => match o with
    | .Add => .ok (.int (i + j)) m
    | .Sub => .ok (.int (i - j)) m
    | .Mult => if (-(2 ^ 64) < i ∧ i < 2 ^ 64) ∨ (-(2 ^ 64) < j ∧ j < 2 ^ 64) ∨ (i.natAbs.log2 + j.natAbs.log2 < 1000000) then .ok (.int (i * j)) m else .no
    | .FloorDiv => if 0 < j ∧ j.natAbs.log2 < 9000 then .ok (.int (i / j)) m else .no
    | .Mod => if 0 < j then .ok (.int (i % j)) m else .no
    | .Pow => if 0 ≤ j ∧ j ≤ 1000000 ∧ i.natAbs < 2 ^ 64 then .ok (.int (i ^ j.toNat)) m else .no
    | _ => .no
  | .str i, .str j => match o with
    | .Add => if i.length + j.length ≤ big then .ok (.str (i ++ j)) m else .no
    | _ => .no
  | .ref a, .ref b => match o with
    | .Add => match m[a]?, m[b]? with
      | some (.lst xs), some (.lst ys) => if xs.length + ys.length ≤ big then newO (.lst (xs ++ ys)) m else .no
      | _, _ => .no
    | _ => .no
  | .ref a, .int k => match o with
    | .Mult => match m[a]? with
      | some (.lst xs) => if -(2 ^ 63) ≤ k ∧ k < 2 ^ 63 ∧ xs.length * k.toNat ≤ big then newO (.lst (List.replicate k.toNat xs).flatten) m else .no
      | _ => .no
    | _ => .no
  | _, _ => .no
def cmpV (o : CmpOp) (x y : MV) (m : M) : Rs MV :=
  match o with
  | .Eq => if scalM x y then .ok (.bl (decide (x = y))) m else .no
  | .NotEq => if scalM x y then .ok (.bl (!decide (x = y))) m else .no
  | .Is => if y = .non then .ok (.bl (decide (x = .non))) m else .no
  | .IsNot => if y = .non then .ok (.bl (!decide (x = .non))) m else .no
  | .Lt => match x, y with | .int i, .int j => .ok (.bl (decide (i < j))) m | _, _ => .no
  | .LtE => match x, y with | .int i, .int j => .ok (.bl (decide (i ≤ j))) m | _, _ => .no
  | .Gt => match x, y with | .int i, .int j => .ok (.bl (decide (j < i))) m | _, _ => .no
  | .GtE => match x, y with | .int i, .int j => .ok (.bl (decide (j ≤ i))) m | _, _ => .no
  | _ => .no
def seqOf (m : M) (a : Nat) : Option (List MV) := match m[a]? with
  | some (.lst xs) => some xs
  | some (.frz xs) => some xs
  | some (.tup xs) => some xs
  | _ => none
def subV (x y : MV) (m : M) : Rs MV := match y with
  | .int i => match x with
    | .ref a => match seqOf m a with
      | some xs => match atI xs i with
        | some v => .ok v m
        | none => .no
      | none => .no
    | .str z => if z.length ≤ big then match atI z.cps.toList i with
        | some c => .ok (.str ⟨#[c]⟩) m
        | none => .no
      else .no
    | _ => .no
  | _ => .no
def cutM (xs : List MV) (lo hi : Option Int) : List MV := (xs.drop (HT.sIx xs.length 0 lo)).take (HT.sIx xs.length xs.length hi - HT.sIx xs.length 0 lo)
def slV (x : MV) (lo hi : Option Int) (m : M) : Rs MV := match x with
  | .ref a => match m[a]? with
    | some (.lst xs) => newO (.lst (cutM xs lo hi)) m
    | some (.frz xs) => newO (.lst (cutM xs lo hi)) m
    | _ => .no
  | _ => .no
def blsOf : List MV → Option (List Bool)
  | [] => some []
  | .bl b :: r => (blsOf r).map (b :: ·)
  | _ => none
def strsOf : List MV → Option (List Str)
  | [] => some []
  | .str b :: r => (strsOf r).map (b :: ·)
  | _ => none
def biV (b : Bi) (xs : List MV) (m : M) : Rs MV := match b, xs with
  | .abs, [.int i] => .ok (.int (if i < 0 then -i else i)) m
  | .int, [.int i] => .ok (.int i) m
  | .int, [.bl k] => .ok (.int (if k then 1 else 0)) m
  | .len, [.str z] => if z.length ≤ big then .ok (.int z.length) m else .no
  | .len, [.ref a] => match seqOf m a with
    | some ys => .ok (.int ys.length) m
    | none => .no
  | .list, [.ref a] => match seqOf m a with
    | some ys => newO (.lst ys) m
    | none => .no
  | .list, [.str z] => if z.length ≤ big then newO (.lst (z.cps.toList.map fun c => .str ⟨#[c]⟩)) m else .no
  | .tuple, [.ref a] => match m[a]? with
    | some (.lst ys) => newO (.tup ys) m
    | some (.frz ys) => newO (.tup ys) m
    | some (.tup ys) => .ok (.ref a) m
    | _ => .no
  | .min, [.int i, .int j] => .ok (.int (if j < i then j else i)) m
  | .max, [.int i, .int j] => .ok (.int (if j > i then j else i)) m
  | .all, [.ref a] => match m[a]? with
    | some (.lst ys) => match blsOf ys with
      | some bs => .ok (.bl (bs.all id)) m
      | none => .no
    | _ => .no
  | .str, [.str a] => .no
  | .str, [.int i] => if i.natAbs.log2 < 1920 then .ok (.str (toString i)) m else .no
  | _, _ => .no
def mtV (b : Mt) (x : MV) (xs : List MV) (m : M) : Rs MV := match b, x, xs with
  | .append, .ref a, [y] => match m[a]? with
    | some (.lst ys) => if ys.length < big then .ok .non (m.set a (.lst (ys ++ [y]))) else .no
    | _ => .no
  | .pop, .ref a, [.int i] => match m[a]? with
    | some (.lst ys) => if -(2 ^ 63) ≤ i ∧ i < 2 ^ 63 then match seqIndex? i ys.length with
        | some k => match ys[k]? with
          | some y => .ok y (m.set a (.lst (ys.eraseIdx k)))
          | none => .no
        | none => .no
      else .no
    | _ => .no
  | _, _, _ => .no
def joinV (x y : MV) (m : M) : Rs MV := match x, y with
  | .str a, .ref p => match seqOf m p with
    | some ys => match strsOf ys with
      | some zs => if (zs.map (·.length)).sum + zs.length * a.length ≤ 16777216 then .ok (.str (Txt.join a zs)) m else .no
      | none => .no
    | none => .no
  | _, _ => .no
def isLst (m : M) : MV → Bool
  | .ref a => (match m[a]? with
    | some (.lst _) => true
    | _ => false)
  | _ => false
def isStr : MV → Bool
  | .str _ => true
  | _ => false
/-- what a for walks -/
inductive Src where
  | rng (n : Nat) | seq (a : Nat) | tup (a : Nat) | enum (a : Nat) | zip (a b : Nat) | zipT (a b : Nat)
def lstOf (m : M) (a : Nat) : Option (List MV) := match m[a]? with
  | some (.lst xs) => some xs
  | some (.frz xs) => some xs
  | _ => none
def tupOf (m : M) (a : Nat) : Option (List MV) := match m[a]? with
  | some (.tup xs) => some xs
  | _ => none
/-- the turn's item: none: stuck; some none: it stops -/
def Src.at (m : M) (i : Nat) : Src → Option (Option (MV × M))
  | .rng n => some (if i < n then some (.int i, m) else none)
  | .seq a => match lstOf m a with
    | some xs => match xs[i]? with
      | some x => some (some (x, m))
      | none => some none
    | none => none
  | .tup a => match tupOf m a with
    | some xs => match xs[i]? with
      | some x => some (some (x, m))
      | none => some none
    | none => none
  | .enum a => match lstOf m a with
    | some xs => match xs[i]? with
      | some x => some (some (.ref m.length, m ++ [.tup [.int i, x]]))
      | none => some none
    | none => none
  | .zip a b => match lstOf m a, lstOf m b with
    | some xs, some ys => match xs[i]?, ys[i]? with
      | some x, some y => some (some (.ref m.length, m ++ [.tup [x, y]]))
      | _, _ => some none
    | _, _ => none
  | .zipT a b => match tupOf m a, tupOf m b with
    | some xs, some ys => match xs[i]?, ys[i]? with
      | some x, some y => some (some (.ref m.length, m ++ [.tup [x, y]]))
      | _, _ => some none
    | _, _ => none
def setAll : SL → List Nat → List MV → SL
  | s, i :: is, v :: vs => setAll (s.set i (some v)) is vs
  | s, _, _ => s
def Tg.put (m : M) (v : MV) (s : SL) : Tg → Option SL
  | .nm i => some (s.set i (some v))
  | .tp is => match v with
    | .ref a => match m[a]? with
      | some (.tup xs) => if xs.length = is.length then some (setAll s is xs) else none
      | _ => none
    | _ => none
def Tg.own : Tg → List Nat
  | .nm i => [i]
  | .tp is => is
def wipeM (s : SL) : List Nat → SL
  | [] => s
  | v :: vs => (wipeM s vs).set v none
/-- a class's table -/
structure Cfg where
  cf : Nat → List MV → M → Rs MV
  ini : Nat → Option Nat
  sub : Nat → Nat → Option Bool
  subT : Nat → String → Option Bool
  subB : String → Nat → Option Bool
  fuel : Nat
def tySub (G : Cfg) : (String ⊕ Nat) → Cl → Option Bool
  | .inl a, .ty b => kitB a b
  | .inl a, .own d => G.subB a d
  | .inr c, .ty b => G.subT c b
  | .inr c, .own d => G.sub c d
def anyO : List (Option Bool) → Option Bool
  | [] => some false
  | some true :: _ => some true
  | some false :: r => anyO r
  | none :: _ => none
/-- the turns of a comprehension -/
def lcGo (f : MV → M → Rs MV) (src : Src) (D : Nat) : Nat → Nat → M → Rs MV
  | 0, _, _ => .no
  | k + 1, i, m => match src.at m i with
    | none => .no
    | some none => .ok (.ref D) m
    | some (some (v, m1)) => match f v m1 with
      | .ok y m2 => match m2[D]? with
        | some (.lst acc) => if acc.length < big then lcGo f src D k (i + 1) (m2.set D (.lst (acc ++ [y]))) else .no
        | _ => .no
      | _ => .no
/-- the turns of a for -/
def forGo (f : MV → SL → M → Fl) (src : Src) : Nat → Nat → SL → M → Fl
  | 0, _, _, _ => .no
  | k + 1, i, s, m => match src.at m i with
    | none => .no
    | some none => .nx s m
    | some (some (v, m1)) => match f v s m1 with
      | .nx s2 m2 => forGo f src k (i + 1) s2 m2
      | .ct s2 m2 => forGo f src k (i + 1) s2 m2
      | .bk s2 m2 => .nx s2 m2
      | r => r
def mkX (G : Cfg) (c : Nat) (xs : List MV) (m : M) : Rs MV := match G.ini c with
  | some f => if xs.length ≤ 1000 then match G.cf f (.ref m.length :: xs) (m ++ [.exo c none]) with
      | .ok .non m1 => .ok (.ref m.length) m1
      | _ => .no
    else .no
  | none => match xs with
    | [] => newO (.exo c none) m
    | _ => .no
def fldV (x : MV) (f : Str) (m : M) : Rs MV := match x with
  | .ref a => match m[a]? with
    | some (.exo _ (some d)) => match m[d]? with
      | some (.exd fs) => match fs.lookup f with
        | some v => .ok v m
        | none => .no
      | _ => .no
    | _ => .no
  | _ => .no
def optI : Option MV → Option (Option Int)
  | none => some none
  | some (.int i) => some (some i)
  | _ => none
mutual
def evE (G : Cfg) : E → SL → M → Rs MV
  | .var i, s, m => match s[i]? with
    | some (some v) => .ok v m
    | _ => .no
  | .int i, _, m => .ok (.int i) m
  | .str x, _, m => .ok (.str x) m
  | .bl b, _, m => .ok (.bl b) m
  | .non, _, m => .ok .non m
  | .nop, _, _ => .no
  | .bin o a b, s, m => (evE G a s m).bind fun x m1 => (evE G b s m1).bind fun y m2 => opV o x y m2
  | .cmp o a b, s, m => (evE G a s m).bind fun x m1 => (evE G b s m1).bind fun y m2 => cmpV o x y m2
  | .and a b, s, m => (evE G a s m).bind fun x m1 => match truV m1 x with
    | some true => evE G b s m1
    | some false => .ok x m1
    | none => .no
  | .or a b, s, m => (evE G a s m).bind fun x m1 => match truV m1 x with
    | some true => .ok x m1
    | some false => evE G b s m1
    | none => .no
  | .not a, s, m => (evE G a s m).bind fun x m1 => match x with
    | .bl b => .ok (.bl (!b)) m1
    | _ => .no
  | .neg a, s, m => (evE G a s m).bind fun x m1 => match x with
    | .int i => .ok (.int (-i)) m1
    | _ => .no
  | .ite c a b, s, m => (evE G c s m).bind fun x m1 => match truV m1 x with
    | some true => evE G a s m1
    | some false => evE G b s m1
    | none => .no
  | .tup es, s, m => (evEs G es s m).bind fun xs m1 => if xs.length ≤ big then newO (.tup xs) m1 else .no
  | .lst es, s, m => (evEs G es s m).bind fun xs m1 => if xs.length ≤ big then newO (.lst xs) m1 else .no
  | .sub a i, s, m => (evE G a s m).bind fun x m1 => (evE G i s m1).bind fun y m2 => subV x y m2
  | .sl a lo hi, s, m => (evE G a s m).bind fun x m1 => (evO G lo s m1).bind fun l m2 => (evO G hi s m2).bind fun h m3 => slV x l h m3
  | .call f es, s, m => (evEs G es s m).bind fun xs m1 => G.cf f xs m1
  | .bi b es, s, m => (evEs G es s m).bind fun xs m1 => biV b xs m1
  | .isi a cs many, s, m => (evE G a s m).bind fun x m1 => match tyName m1 x with
    | some t => match anyO (cs.map (tySub G t)) with
      | some b => if many && t.isRight then .no else .ok (.bl b) m1
      | none => .no
    | none => .no
  | .mt b o es, s, m => (evE G o s m).bind fun x m1 => if isLst m1 x then (evEs G es s m1).bind fun xs m2 => mtV b x xs m2 else .no
  | .join o e, s, m => (evE G o s m).bind fun x m1 => if isStr x then (evE G e s m1).bind fun y m2 => joinV x y m2 else .no
  | .mk c es, s, m => (evEs G es s m).bind fun xs m1 => mkX G c xs m1
  | .mkK c es, s, m => (evEs G es s m).bind fun xs m1 => mkX G c xs m1
  | .fld o f, s, m => (evE G o s m).bind fun x m1 => fldV x f m1
  | .lc elt t it, s, m => (evI G it s m).bind fun src m1 => lcGo (fun v m2 => match t.put m2 v (wipeM s t.own) with
    | some s2 => evE G elt s2 m2
    | none => .no) src m1.length G.fuel 0 (m1 ++ [.lst []])
def evO (G : Cfg) : E → SL → M → Rs (Option Int)
  | .nop, _, m => .ok none m
  | .int i, _, m => .ok (some i) m
  | .var i, s, m => match s[i]? with
    | some (some (.int k)) => .ok (some k) m
    | _ => .no
  | .bin o a b, s, m => ((evE G a s m).bind fun x m1 => (evE G b s m1).bind fun y m2 => opV o x y m2).bind fun v m3 => match v with
    | .int k => .ok (some k) m3
    | _ => .no
  | _, _, _ => .no
def evEs (G : Cfg) : Es → SL → M → Rs (List MV)
  | .nil, _, m => .ok [] m
  | .cons e es, s, m => (evE G e s m).bind fun x m1 => (evEs G es s m1).bind fun xs m2 => .ok (x :: xs) m2
def evI (G : Cfg) : It → SL → M → Rs Src
  | .rng a, s, m => (evE G a s m).bind fun x m1 => match x with
    | .int i => if -(2 ^ 62) ≤ i ∧ i < 2 ^ 62 then .ok (.rng i.toNat) m1 else .no
    | _ => .no
  | .seq a, s, m => (evE G a s m).bind fun x m1 => match x with
    | .ref p => match lstOf m1 p with
      | some _ => .ok (.seq p) m1
      | none => .no
    | _ => .no
  | .tup a, s, m => (evE G a s m).bind fun x m1 => match x with
    | .ref p => match tupOf m1 p with
      | some _ => .ok (.tup p) m1
      | none => .no
    | _ => .no
  | .enum a, s, m => (evE G a s m).bind fun x m1 => match x with
    | .ref p => match lstOf m1 p with
      | some _ => .ok (.enum p) m1
      | none => .no
    | _ => .no
  | .zip a b, s, m => (evE G a s m).bind fun x m1 => (evE G b s m1).bind fun y m2 => match x, y with
    | .ref p, .ref q => match lstOf m2 p, lstOf m2 q with
      | some _, some _ => .ok (.zip p q) m2
      | _, _ => match tupOf m2 p, tupOf m2 q with
        | some _, some _ => .ok (.zipT p q) m2
        | _, _ => .no
    | _, _ => .no
end
mutual
def evS (G : Cfg) : S → SL → M → Fl
  | .asg i e, s, m => (evE G e s m).fl s fun v m1 => .nx (s.set i (some v)) m1
  | .par is es, s, m => (evEs G es s m).fl s fun vs m1 => if vs.length = is.length then .nx (setAll s is vs) m1 else .no
  | .unp is e, s, m => (evE G e s m).fl s fun v m1 => match v with
    | .ref a => match m1[a]? with
      | some (.tup xs) => if xs.length = is.length then .nx (setAll s is xs) m1 else .no
      | some (.lst xs) => if xs.length = is.length then .nx (setAll s is xs) m1 else .no
      | _ => .no
    | _ => .no
  | .sub o i e, s, m => (evE G e s m).fl s fun v m1 => (evE G o s m1).fl s fun x m2 => (evE G i s m2).fl s fun k m3 => match x, k with
    | .ref a, .int j => match m3[a]? with
      | some (.lst xs) => match ixN xs.length j with
        | some n => .nx s (m3.set a (.lst (xs.set n v)))
        | none => .no
      | _ => .no
    | _, _ => .no
  | .fst o f e, s, m => (evE G e s m).fl s fun v m1 => (evE G o s m1).fl s fun x m2 => match x with
    | .ref a => match m2[a]? with
      | some (.exo c none) => .nx s (List.set (m2 ++ [MO.exd [(f, v)]]) a (MO.exo c (some m2.length)))
      | some (.exo _ (some d)) => match m2[d]? with
        | some (.exd fs) => if fs.length ≤ 900 then .nx s (m2.set d (.exd ((f, v) :: fs))) else .no
        | _ => .no
      | _ => .no
    | _ => .no
  | .ex e, s, m => (evE G e s m).fl s fun _ m1 => .nx s m1
  | .ret e, s, m => (evE G e s m).fl s fun v m1 => .rt v m1
  | .ife t a b, s, m => (evE G t s m).fl s fun x m1 => match truV m1 x with
    | some true => evSs G a s m1
    | some false => evSs G b s m1
    | none => .no
  | .for t it b, s, m => (evI G it s m).fl s fun src m1 => forGo (fun v s2 m2 => match t.put m2 v s2 with
    | some s3 => evSs G b s3 m2
    | none => .no) src G.fuel 0 s m1
  | .pas, s, m => .nx s m
def evSs (G : Cfg) : Ss → SL → M → Fl
  | .nil, s, m => .nx s m
  | .cons a r, s, m => match evS G a s m with
    | .nx s2 m2 => evSs G r s2 m2
    | f => f
end
/-- a def: how many slots, how many parameters, its body -/
structure Df where
  n : Nat
  ps : Nat
  body : Ss
structure Pg where
  fs : List Df
  ini : Nat → Option Nat
  sub : Nat → Nat → Option Bool
  subT : Nat → String → Option Bool
  subB : String → Nat → Option Bool
  fuel : Nat
def Pg.cfg (P : Pg) (cf : Nat → List MV → M → Rs MV) : Cfg := ⟨cf, P.ini, P.sub, P.subT, P.subB, P.fuel⟩
def callF (P : Pg) : Nat → Nat → List MV → M → Rs MV
  | 0, _, _, _ => .no
  | k + 1, f, vs, m => match P.fs[f]? with
    | some d => if vs.length = d.ps then match evSs (P.cfg (callF P k)) d.body (vs.map some ++ List.replicate (d.n - vs.length) none) m with
        | .rt v m1 => .ok v m1
        | .nx _ m1 => .ok .non m1
        | .ex c e _ m1 => .ex c e m1
        | _ => .no
      else .no
    | none => .no
end VI


set_option Elab.async false
set_option linter.all false
set_option maxRecDepth 100000
set_option maxHeartbeats 4000000
namespace VI
open PySem PySem.Spec PyProof.Rows L2

/-! ### the store beside the abstract heap -/
def RV (ι : List Addr) : MV → V → Prop
  | .non, v => v = .non
  | .bl b, v => v = .bl b
  | .int i, v => v = .int i
  | .str x, v => v = .str x
  | .ref a, v => ∃ p, ι[a]? = some p ∧ v = .ref p
abbrev RVs (ι : List Addr) : List MV → List V → Prop := Paired (RV ι)
abbrev RFs (ι : List Addr) : List (Str × MV) → List (Str × V) → Prop := Paired fun a b => a.1 = b.1 ∧ RV ι a.2 b.2
abbrev RKs (ι : List Addr) : List (Key × MV) → List (Key × V) → Prop := Paired fun a b => a.1 = b.1 ∧ RV ι a.2 b.2
theorem pre_get {ι ι' : List Addr} {i : Nat} {p : Addr} (h : ι <+: ι') (e : ι[i]? = some p) : ι'[i]? = some p := by
  obtain ⟨t, rfl⟩ := h
  rw [List.getElem?_append_left (List.getElem?_eq_some_iff.mp e).1]
  exact e
theorem RV.mono {ι ι' : List Addr} (h : ι <+: ι') : ∀ {v : MV} {w : V}, RV ι v w → RV ι' v w
  | .non, _, r => r
  | .bl _, _, r => r
  | .int _, _, r => r
  | .str _, _, r => r
  | .ref _, _, ⟨p, e, r⟩ => ⟨p, pre_get h e, r⟩
theorem pmono {α β : Type} {F F' : α → β → Prop} (h : ∀ a b, F a b → F' a b) : ∀ {xs : List α} {ys : List β}, Paired F xs ys → Paired F' xs ys
  | _, _, .nil => .nil
  | _, _, .cons r t => .cons (h _ _ r) (pmono h t)
theorem RVs.mono {ι ι' : List Addr} (h : ι <+: ι') {xs : List MV} {ys : List V} (r : RVs ι xs ys) : RVs ι' xs ys := pmono (fun _ _ q => q.mono h) r
theorem RFs.mono {ι ι' : List Addr} (h : ι <+: ι') {xs : List (Str × MV)} {ys : List (Str × V)} (r : RFs ι xs ys) : RFs ι' xs ys := pmono (fun _ _ q => ⟨q.1, q.2.mono h⟩) r
theorem RKs.mono {ι ι' : List Addr} (h : ι <+: ι') {xs : List (Key × MV)} {ys : List (Key × V)} (r : RKs ι xs ys) : RKs ι' xs ys := pmono (fun _ _ q => ⟨q.1, q.2.mono h⟩) r
theorem plen {α β : Type} {F : α → β → Prop} {xs : List α} {ys : List β} (h : Paired F xs ys) : xs.length = ys.length := Paired.length h
theorem pget {α β : Type} {F : α → β → Prop} : ∀ {xs : List α} {ys : List β} {i : Nat} {x : α}, Paired F xs ys → xs[i]? = some x → ∃ y, ys[i]? = some y ∧ F x y
  | _, _, _, _, .nil, e => by simp at e
  | _, _, 0, _, .cons r _, e => by simp at e; subst e; exact ⟨_, rfl, r⟩
  | _, _, i + 1, x, .cons _ t, e => by
    obtain ⟨u, h1, h2⟩ := pget (i := i) (x := x) t (by simpa using e)
    exact ⟨u, by simpa using h1, h2⟩
theorem pget_none {α β : Type} {F : α → β → Prop} {xs : List α} {ys : List β} {i : Nat} (r : Paired F xs ys) (e : xs[i]? = none) : ys[i]? = none := by
  have h1 := plen r
  have h2 : xs.length ≤ i := List.getElem?_eq_none_iff.mp e
  exact List.getElem?_eq_none_iff.mpr (by omega)
theorem papp {α β : Type} {F : α → β → Prop} : ∀ {xs xs' : List α} {ys ys' : List β}, Paired F xs ys → Paired F xs' ys' → Paired F (xs ++ xs') (ys ++ ys')
  | _, _, _, _, .nil, s => s
  | _, _, _, _, .cons r t, s => .cons r (papp t s)
theorem ptake {α β : Type} {F : α → β → Prop} : ∀ {xs : List α} {ys : List β} (n : Nat), Paired F xs ys → Paired F (xs.take n) (ys.take n)
  | _, _, 0, _ => .nil
  | _, _, _ + 1, .nil => .nil
  | _, _, n + 1, .cons r t => .cons r (ptake n t)
theorem pdrop {α β : Type} {F : α → β → Prop} : ∀ {xs : List α} {ys : List β} (n : Nat), Paired F xs ys → Paired F (xs.drop n) (ys.drop n)
  | _, _, 0, r => r
  | _, _, _ + 1, .nil => .nil
  | _, _, n + 1, .cons _ t => pdrop n t
theorem pset {α β : Type} {F : α → β → Prop} {x : α} {y : β} (r : F x y) : ∀ {xs : List α} {ys : List β} (i : Nat), Paired F xs ys → Paired F (xs.set i x) (ys.set i y)
  | _, _, _, .nil => .nil
  | _, _, 0, .cons _ t => .cons r t
  | _, _, i + 1, .cons q t => .cons q (pset r i t)
theorem perase {α β : Type} {F : α → β → Prop} : ∀ {xs : List α} {ys : List β} (i : Nat), Paired F xs ys → Paired F (xs.eraseIdx i) (ys.eraseIdx i)
  | _, _, _, .nil => .nil
  | _, _, 0, .cons _ t => t
  | _, _, i + 1, .cons q t => .cons q (perase i t)
theorem prep {α β : Type} {F : α → β → Prop} {xs : List α} {ys : List β} (h : Paired F xs ys) : ∀ k : Nat, Paired F (List.replicate k xs).flatten (List.replicate k ys).flatten
  | 0 => .nil
  | k + 1 => by
    rw [List.replicate_succ, List.replicate_succ, List.flatten_cons, List.flatten_cons]
    exact papp h (prep h k)
theorem pempty {α β : Type} {F : α → β → Prop} {xs : List α} {ys : List β} (h : Paired F xs ys) : xs.isEmpty = ys.isEmpty := by cases h <;> rfl
theorem flook {ι : List Addr} {f : Str} : ∀ {fs : List (Str × MV)} {gs : List (Str × V)} {v : MV}, RFs ι fs gs → fs.lookup f = some v → ∃ w, gs.lookup f = some w ∧ RV ι v w
  | _, _, v, .nil, e => by simp at e
  | (a, x) :: fs, (b, y) :: gs, v, .cons r t, e => by
    obtain ⟨r1, r2⟩ := r
    simp only at r1 r2
    subst r1
    rw [List.lookup_cons] at e ⊢
    cases h : f == a with
    | true => rw [h] at e; cases e; exact ⟨y, rfl, r2⟩
    | false => rw [h] at e; exact flook t e

section
variable (K : PySem.W.Frag) (cl : Nat → Addr)
/-- a list that is read only: known to the object, or one of the module's -/
def FrzAt (H : Hp) (p : Addr) (ys : List V) : Prop := (∃ o, H p = some (.frz o (.lst ys))) ∨
  ∃ (o : Obj) (its : Array Value) (n : Nat), K.lookup p = some o ∧ o.cls = .type "list" ∧ o.dict = none ∧ o.data = .seq its n ∧ its.size ≤ sizeLine ∧ Vals ys its.toList
def RO (ι : List Addr) (H : Hp) (p : Addr) : MO → Prop
  | .lst xs => ∃ ys, RVs ι xs ys ∧ H p = some (.lst ys)
  | .tup xs => ∃ ys, RVs ι xs ys ∧ H p = some (.tup ys)
  | .frz xs => ∃ ys, RVs ι xs ys ∧ FrzAt K H p ys
  | .dct xs => ∃ ys, RKs ι xs ys ∧ H p = some (.dK ys)
  | .ins c fs => ∃ dx gs, RFs ι fs gs ∧ H p = some (.ins (cl c) dx gs)
  | .exo c none => H p = some (exo p (cl c) none)
  | .exo c (some j) => ∃ q, ι[j]? = some q ∧ H p = some (exo p (cl c) (some q))
  | .exd fs => ∃ gs, RFs ι fs gs ∧ H p = some (exd p gs)
  | .dead => True
def loose : MO → Bool
  | .frz _ => true
  | .dead => true
  | _ => false
structure RS (ι : List Addr) (m : M) (H : Hp) : Prop where
  len : ι.length = m.length
  ob : ∀ (i : Nat) (o : MO) (p : Addr), m[i]? = some o → ι[i]? = some p → RO K cl ι H p o
  inj : ∀ (i j : Nat) (o o' : MO) (p : Addr), m[i]? = some o → m[j]? = some o' → ι[i]? = some p → ι[j]? = some p → i ≠ j → loose o = true ∨ loose o' = true
end
section
variable {K : PySem.W.Frag} {cl : Nat → Addr} {ι ι' : List Addr} {m m' : M} {H H' : Hp} {p : Addr} {o : MO}
theorem FrzAt.sq {ys : List V} (h : FrzAt K H p ys) : SqL K H p ys := by
  rcases h with ⟨o, h⟩ | h
  · exact .inl (.inr ⟨o, h⟩)
  · exact .inr h
theorem RO.mono (h : ι <+: ι') (r : RO K cl ι H p o) : RO K cl ι' H p o := by
  cases o with
  | lst xs => obtain ⟨ys, a, b⟩ := r; exact ⟨ys, a.mono h, b⟩
  | tup xs => obtain ⟨ys, a, b⟩ := r; exact ⟨ys, a.mono h, b⟩
  | frz xs => obtain ⟨ys, a, b⟩ := r; exact ⟨ys, a.mono h, b⟩
  | dct xs => obtain ⟨ys, a, b⟩ := r; exact ⟨ys, a.mono h, b⟩
  | ins c fs => obtain ⟨dx, gs, a, b⟩ := r; exact ⟨dx, gs, a.mono h, b⟩
  | exo c d =>
    cases d with
    | none => exact r
    | some j => obtain ⟨q, a, b⟩ := r; exact ⟨q, pre_get h a, b⟩
  | exd fs => obtain ⟨gs, a, b⟩ := r; exact ⟨gs, a.mono h, b⟩
  | dead => trivial
theorem RO.congr (e : H' p = H p) (r : RO K cl ι H p o) : RO K cl ι H' p o := by
  cases o with
  | lst xs => obtain ⟨ys, a, b⟩ := r; exact ⟨ys, a, e.trans b⟩
  | tup xs => obtain ⟨ys, a, b⟩ := r; exact ⟨ys, a, e.trans b⟩
  | frz xs =>
    obtain ⟨ys, a, b⟩ := r
    refine ⟨ys, a, ?_⟩
    rcases b with ⟨o, b⟩ | b
    · exact .inl ⟨o, e.trans b⟩
    · exact .inr b
  | dct xs => obtain ⟨ys, a, b⟩ := r; exact ⟨ys, a, e.trans b⟩
  | ins c fs => obtain ⟨dx, gs, a, b⟩ := r; exact ⟨dx, gs, a, e.trans b⟩
  | exo c d =>
    cases d with
    | none => exact e.trans r
    | some j => obtain ⟨q, a, b⟩ := r; exact ⟨q, a, e.trans b⟩
  | exd fs => obtain ⟨gs, a, b⟩ := r; exact ⟨gs, a, e.trans b⟩
  | dead => trivial
/-- what is not loose is tracked -/
theorem RO.there (r : RO K cl ι H p o) (h : loose o = false) : H p ≠ none := by
  cases o with
  | lst xs => obtain ⟨ys, a, b⟩ := r; rw [b]; simp
  | tup xs => obtain ⟨ys, a, b⟩ := r; rw [b]; simp
  | frz xs => cases h
  | dct xs => obtain ⟨ys, a, b⟩ := r; rw [b]; simp
  | ins c fs => obtain ⟨dx, gs, a, b⟩ := r; rw [b]; simp
  | exo c d =>
    cases d with
    | none => rw [show H p = _ from r]; simp
    | some j => obtain ⟨q, a, b⟩ := r; rw [b]; simp
  | exd fs => obtain ⟨gs, a, b⟩ := r; rw [b]; simp
  | dead => cases h
/-- what is loose stays where a tracked, not frozen thing changes or a new one is laid -/
theorem RO.loose_upd {q : Addr} {u : HO} (r : RO K cl ι H p o) (h : loose o = true) (hq : ∀ ob v, H q ≠ some (.frz ob v)) : RO K cl ι (upd H q u) p o := by
  cases o with
  | frz xs =>
    obtain ⟨ys, a, b⟩ := r
    refine ⟨ys, a, ?_⟩
    rcases b with ⟨o, b⟩ | b
    · by_cases e : p = q
      · subst e; exact absurd b (hq _ _)
      · exact .inl ⟨o, by rw [upd_ne e]; exact b⟩
    · exact .inr b
  | dead => trivial
  | _ => cases h
theorem RS.frame {u : HO} (r : RS K cl ι m H) (hp : H p = none) : RS K cl ι m (upd H p u) where
  len := r.len
  ob := fun i o q e1 e2 => by
    have x := r.ob i o q e1 e2
    cases hl : loose o with
    | true => exact x.loose_upd hl (fun _ _ => by rw [hp]; simp)
    | false =>
      refine x.congr (upd_ne fun z => ?_)
      subst z
      exact x.there hl hp
  inj := r.inj
theorem get_snoc {α : Type} {l : List α} {a x : α} {i : Nat} (h : (l ++ [a])[i]? = some x) : l[i]? = some x ∨ (i = l.length ∧ x = a) := by
  rw [List.getElem?_append] at h
  split at h
  · exact .inl h
  · rename_i hlt
    have h2 : i - l.length = 0 := by
      have := (List.getElem?_eq_some_iff.mp h).1
      simp at this
      omega
    rw [h2] at h
    simp at h
    exact .inr ⟨by omega, h.symm⟩
theorem RS.new {u : HO} (r : RS K cl ι m H) (hp : H p = none) (ho : RO K cl (ι ++ [p]) (upd H p u) p o) : RS K cl (ι ++ [p]) (m ++ [o]) (upd H p u) := by
  have r1 := r.frame (u := u) hp
  have pre : ι <+: ι ++ [p] := ⟨[p], rfl⟩
  have key : ∀ (i : Nat) (o : MO) (q : Addr), m[i]? = some o → ι[i]? = some q → q = p → loose o = true := fun i o q e1 e2 z => by
    subst z
    cases hl : loose o with
    | true => rfl
    | false => exact absurd hp ((r.ob i o _ e1 e2).there hl)
  have old : ∀ (i : Nat) (o : MO) (q : Addr), m[i]? = some o → (ι ++ [p])[i]? = some q → ι[i]? = some q := fun i o q e1 e2 => by
    have h1 := (List.getElem?_eq_some_iff.mp e1).1
    rw [List.getElem?_append_left (by rw [r.len]; exact h1)] at e2
    exact e2
  have lst : ∀ (i : Nat) (q : Addr), i = m.length → (ι ++ [p])[i]? = some q → q = p := fun i q e1 e2 => by
    rw [e1, ← r.len] at e2
    simpa using e2.symm
  refine ⟨by rw [List.length_append, List.length_append, r.len] <;> rfl, fun i o' q e1 e2 => ?_, fun i j o1 o2 q e1 e2 e3 e4 ne => ?_⟩
  · rcases get_snoc e1 with f1 | ⟨z1, f1⟩
    · exact (r1.ob i o' q f1 (old i o' q f1 e2)).mono pre
    · have f2 := lst i q z1 e2
      subst f1 f2
      exact ho
  · rcases get_snoc e1 with f1 | ⟨z1, f1⟩ <;> rcases get_snoc e2 with f2 | ⟨z2, f2⟩
    · exact r.inj i j o1 o2 q f1 f2 (old i o1 q f1 e3) (old j o2 q f2 e4) ne
    · exact .inl (key i o1 q f1 (old i o1 q f1 e3) (lst j q z2 e4))
    · exact .inr (key j o2 q f2 (old j o2 q f2 e4) (lst i q z1 e3))
    · exact absurd (z1.trans z2.symm) ne
theorem RS.last (r : RS K cl ι m H) : (ι ++ [p])[m.length]? = some p := by
  rw [← r.len]
  simp
theorem RS.upd {i : Nat} {o' : MO} {u : HO} (r : RS K cl ι m H) (e : m[i]? = some o) (e2 : ι[i]? = some p) (hl : loose o = false) (hl2 : loose o' = false ∨ o' = .dead) (hf : ∀ ob v, H p ≠ some (.frz ob v)) (ho : RO K cl ι (L2.upd H p u) p o') : RS K cl ι (m.set i o') (L2.upd H p u) := by
  have hi : i < m.length := (List.getElem?_eq_some_iff.mp e).1
  refine ⟨by rw [List.length_set]; exact r.len, fun j oj q f1 f2 => ?_, fun j k oj ok q f1 f2 f3 f4 ne => ?_⟩
  · by_cases hj : i = j
    · subst hj
      rw [List.getElem?_set_self hi] at f1
      cases f1
      rw [e2] at f2; cases f2
      exact ho
    · rw [List.getElem?_set_ne hj] at f1
      have x := r.ob j oj q f1 f2
      cases hlj : loose oj with
      | true => exact x.loose_upd hlj hf
      | false =>
        refine x.congr (upd_ne fun z => ?_)
        subst z
        rcases r.inj i j o oj q e f1 e2 f2 hj with z | z
        · rw [hl] at z; cases z
        · rw [hlj] at z; cases z
  · by_cases hj : i = j
    · subst hj
      rw [List.getElem?_set_self hi] at f1
      cases f1
      rw [List.getElem?_set_ne ne] at f2
      rcases r.inj i k o ok q e f2 f3 f4 ne with z | z
      · rw [hl] at z; cases z
      · exact .inr z
    · rw [List.getElem?_set_ne hj] at f1
      by_cases hk : i = k
      · subst hk
        rw [List.getElem?_set_self hi] at f2
        cases f2
        rcases r.inj j i oj o q f1 e f3 f4 ne with z | z
        · exact .inl z
        · rw [hl] at z; cases z
      · rw [List.getElem?_set_ne hk] at f2
        exact r.inj j k oj ok q f1 f2 f3 f4 ne
theorem RS.at_ {a : Nat} (r : RS K cl ι m H) {w : V} (h : RV ι (.ref a) w) (e : m[a]? = some o) : ∃ p, ι[a]? = some p ∧ w = .ref p ∧ RO K cl ι H p o := by
  obtain ⟨p, h1, h2⟩ := h
  exact ⟨p, h1, h2, r.ob a o p e h1⟩
/-- a readable sequence -/
theorem RS.seq {a : Nat} {xs : List MV} (r : RS K cl ι m H) {w : V} (h : RV ι (.ref a) w) (e : seqOf m a = some xs) : ∃ p ys, w = .ref p ∧ RVs ι xs ys ∧ (SqL K H p ys ∨ SqT K H p ys) := by
  unfold seqOf at e
  cases q : m[a]? with
  | none => rw [q] at e; cases e
  | some o =>
    rw [q] at e
    obtain ⟨p, h1, h2, h3⟩ := r.at_ h q
    cases o <;> simp at e
    · subst e; obtain ⟨ys, x, y⟩ := h3; exact ⟨p, ys, h2, x, .inl (SqL.of y)⟩
    · subst e; obtain ⟨ys, x, y⟩ := h3; exact ⟨p, ys, h2, x, .inl y.sq⟩
    · subst e; obtain ⟨ys, x, y⟩ := h3; exact ⟨p, ys, h2, x, .inr (SqT.of y)⟩
end

/-! ### slots -/
def RSl (ι : List Addr) (s : SL) (σ : L2.St) : Prop := s.length = σ.length ∧ ∀ (i : Nat) (v : MV), s[i]? = some (some v) → ∃ w, σ[i]? = some (some w) ∧ RV ι v w
section
variable {ι ι' : List Addr} {s : SL} {σ : L2.St}
theorem RSl.mono (h : ι <+: ι') (r : RSl ι s σ) : RSl ι' s σ := ⟨r.1, fun i v e => by
  obtain ⟨w, a, b⟩ := r.2 i v e
  exact ⟨w, a, b.mono h⟩⟩
theorem RSl.set {v : MV} {w : V} (r : RSl ι s σ) (i : Nat) (h : RV ι v w) : RSl ι (s.set i (some v)) (σ.set i (some w)) := by
  refine ⟨by rw [List.length_set, List.length_set]; exact r.1, fun j u e => ?_⟩
  by_cases hj : i = j
  · subst hj
    by_cases hi : i < s.length
    · rw [List.getElem?_set_self hi] at e
      cases e
      exact ⟨w, List.getElem?_set_self (by rw [← r.1]; exact hi), h⟩
    · rw [List.getElem?_eq_none (by rw [List.length_set]; omega)] at e
      cases e
  · rw [List.getElem?_set_ne hj] at e
    rw [List.getElem?_set_ne hj]
    exact r.2 j u e
theorem RSl.setN (r : RSl ι s σ) (i : Nat) : RSl ι (s.set i none) (σ.set i none) := by
  refine ⟨by rw [List.length_set, List.length_set]; exact r.1, fun j u e => ?_⟩
  by_cases hj : i = j
  · subst hj
    by_cases hi : i < s.length
    · rw [List.getElem?_set_self hi] at e
      cases e
    · rw [List.getElem?_eq_none (by rw [List.length_set]; omega)] at e
      cases e
  · rw [List.getElem?_set_ne hj] at e
    rw [List.getElem?_set_ne hj]
    exact r.2 j u e
theorem RSl.wipe (r : RSl ι s σ) : ∀ vs : List Nat, RSl ι (wipeM s vs) (L2.wipe σ vs)
  | [] => r
  | v :: vs => (RSl.wipe r vs).setN v
end
end VI


set_option Elab.async false
set_option linter.all false
set_option maxRecDepth 100000
set_option maxHeartbeats 4000000
/-! list(text): the signs, one by one -/
namespace PySem
section
variable {prog : Program} {w : World} {A : Around} {s : Shared} {R : Result → Shared → Prop} {x : Str} {t : Tok}
/-- the fresh list S is filled -/
theorem vi_fill (hh : A.handled = none) (S : Addr) (res : Value) (c0 : Nat) (hS : s.heap.get? S = some { cls := .type "list", data := .seq #[] c0 }) (hn : x.cps.size ≤ sizeLine)
    (hR : ∀ s' acc c', (∀ b o, b ≠ S → s.heap.get? b = some o → s'.heap.get? b = some o) → s'.gens = s.gens → s'.drawn = s.drawn → s'.os = s.os →
      s'.heap.get? S = some { cls := .type "list", dict := none, data := .seq acc c', slots := #[] } → ItemsOf (SignAt x) acc x.cps.size → R (.ok (.ret res)) s') :
    wpAny (model prog w) A.in1 (Builtin.List.listExtendWith (.ref S) (.str x t) res) (fun fin s' => match fin with
      | .done f => R (.ok f) s'
      | .again c' => c'.quiet = true ∧ codeAny (model prog w) A c' R s') (fun e s' => R (.error e) s') s := by
  unfold Builtin.List.listExtendWith
  refine wpAny_bind (wpAny_typeOf (T := "str") (v := .str x t) rfl ?_)
  have e1 : Builtin.List.listSameRef (.ref S) (.str x t) = false := rfl
  have e2 : (Value.type "str" == Value.type "list") = false := by decide
  have e3 : (Value.type "str" == Value.type "tuple") = false := by decide
  simp only [e1, e2, e3, Bool.or_false, Bool.false_eq_true, if_false]
  refine wpAny_bind (wpAny_pyIter_str fun o St W hst => wpAny_bind (wpAny_holding ?_))
  unfold Builtin.List.listLengthHint
  refine wpAny_bind (wpAny_specialOf (T := "str") (v := .str x t) rfl F.str_len ?_)
  wp_delta
  refine wpAny_bind (wpAny_isInstance (T := "str") (v := .str x t) (b := true) rfl (by rw [isSubtype_type]; kernel_rfl) ?_)
  show wpAny _ A.in1 (typeOf (Value.str x t) >>= _) _ _ _
  refine wpAny_bind (wpAny_typeOf (T := "str") (v := .str x t) rfl (wpAny_pure ?_))
  rw [if_neg (by decide)]
  have out : S ∉ [s.heap.objs.size] := fun hm => Nat.lt_irrefl _ (List.mem_singleton.mp hm ▸ Heap.lt_size hS)
  refine wpAny_pure ⟨plainId_quiet F.plain_extend_loop _, codeAny_extend_loopS (W A.in1 hh).toS hn _ out _ x.cps.size 0 _ _ _ rfl (Nat.zero_le _) hst (Heap.get?_push_of_some _ hS) (ItemsOf.nil _) fun s' acc c' hm hS' ha => ?_⟩
  refine hR s' acc c' (fun b ob hb e => hm.heap b ob (fun hb2 => ?_) (Heap.get?_push_of_some _ e)) hm.gens hm.drawn hm.os hS' ha
  rcases List.mem_cons.mp hb2 with z | z
  · exact hb z
  · exact Nat.lt_irrefl _ (List.mem_singleton.mp z ▸ Heap.lt_size e)
theorem vi_init (hh : A.handled = none) (S : Addr) (hS : s.heap.get? S = some { cls := .type "list", data := .seq #[] }) (hn : x.cps.size ≤ sizeLine)
    (hR : ∀ s' acc c', (∀ b o, b ≠ S → s.heap.get? b = some o → s'.heap.get? b = some o) → s'.gens = s.gens → s'.drawn = s.drawn → s'.os = s.os →
      s'.heap.get? S = some { cls := .type "list", dict := none, data := .seq acc c', slots := #[] } → ItemsOf (SignAt x) acc x.cps.size → R (.ok (.ret .none)) s') :
    wpAny (model prog w) A.in1 (Builtin.«list.__init__» ⟨[.ref S, .str x t], []⟩) (fun fin s' => match fin with
      | .done f => R (.ok f) s'
      | .again c' => c'.quiet = true ∧ codeAny (model prog w) A c' R s') (fun e s' => R (.error e) s') s := by
  show wpAny _ _ (do
    let old ← Builtin.List.listItems (.ref S)
    Builtin.List.listUpdate (.ref S) (fun _ => #[])
    letGo old.toList.reverse
    Builtin.List.listExtendWith (.ref S) (.str x t) .none) _ _ s
  refine wpAny_bind ?_
  unfold Builtin.List.listItems
  refine wpAny_bind (wpAny_seqItems hS rfl (wpAny_pure ?_))
  show wpAny _ _ (updateSeq S (fun _ => #[]) >>= fun _ => letGo (#[] : Array Value).toList.reverse >>= fun _ => Builtin.List.listExtendWith (.ref S) (.str x t) .none) _ _ s
  refine wpAny_bind (wpAny_updateSeq hS rfl (wpAny_bind (wpAny_letGo ?_)))
  refine vi_fill hh S .none _ (Heap.get?_update_self (Obj.mapSeq fun _ => (#[] : Array Value)) hS rfl) hn fun s' acc c' kp g d os l ha => ?_
  exact hR s' acc c' (fun b o hb e => kp b o hb ((Heap.get?_update_other _ _ (Ne.symm hb)).trans e)) g d os l ha
theorem vi_list_str {E : Value → Shared → Prop} {Q : Value → Shared → Prop} (hh : A.handled = none) (hn : x.cps.size ≤ sizeLine)
    (hQ : ∀ h' tk acc c', (∀ b o, s.heap.get? b = some o → h'.get? b = some o) → h'.get? s.heap.objs.size = some { cls := .type "list", dict := none, data := .seq acc c', slots := #[] } →
      ItemsOf (SignAt x) acc x.cps.size → Q (.ref s.heap.objs.size) { s with heap := h', toks := tk }) :
    wpAny (model prog w) A (call (.type "list") [.str x t]) Q E s := by
  refine callType_codes (Q₁ := fun v s1 => v = .ref s.heap.objs.size ∧ s1 = { s with heap := s.heap.push { cls := .type "list", data := .seq #[] } }) F.called_list (F.typeCall_list_1 _) F.entry_list_init
    (code_list_new _ ⟨rfl, rfl⟩) fun v s1 h1 => ?_
  obtain ⟨rfl, rfl⟩ := h1
  have new : (s.heap.push { cls := .type "list", data := .seq #[] }).get? s.heap.objs.size = some { cls := .type "list", data := .seq #[] } := Heap.get?_push_size _ rfl
  refine ⟨⟨_, new, rfl⟩, F.args_list_init_2 _ _, vi_init (A := A.in1) hh _ new hn fun s' acc c' kp g d os l ha => ⟨rfl, ?_⟩⟩
  have es : s' = { s with heap := s'.heap, toks := s'.toks } := by
    obtain ⟨h', g', d', t', o'⟩ := s'
    cases g
    cases d
    cases os
    rfl
  rw [es]
  exact hQ s'.heap s'.toks acc c' (fun b o e => kp b o (Nat.ne_of_lt (Heap.lt_size e)) (Heap.get?_push_of_some _ e)) l ha
end
end PySem


set_option Elab.async false
set_option linter.all false
set_option maxRecDepth 100000
set_option maxHeartbeats 4000000
namespace VI
open PySem PySem.Spec PyProof.Rows L2

def RD (ι : List Addr) : Option Nat → Option Addr → Prop
  | none, d => d = none
  | some j, d => ∃ q, ι[j]? = some q ∧ d = some q
theorem RD.mono {ι ι' : List Addr} (h : ι <+: ι') : ∀ {d : Option Nat} {d' : Option Addr}, RD ι d d' → RD ι' d d'
  | none, _, r => r
  | some _, _, ⟨q, a, b⟩ => ⟨q, pre_get h a, b⟩
abbrev Wh := Value → Option Addr → Hp → Prop
/-- what is wanted of a result -/
def Post (K : PySem.W.Frag) (cl : Nat → Addr) {α β : Type} (R : List Addr → α → β → Prop) (W : Wh) (ι : List Addr) (Q : β → Hp → Prop) : Rs α → Prop
  | .ok v m => ∀ ι' w H', ι <+: ι' → R ι' v w → RS K cl ι' m H' → Q w H'
  | .ex c d m => ∀ ι' d' H', ι <+: ι' → RD ι' d d' → RS K cl ι' m H' → W (.ref (cl c)) d' H'
  | .no => False
section
variable {K : PySem.W.Frag} {cl : Nat → Addr} {α β γ δ : Type} {R : List Addr → α → β → Prop} {R' : List Addr → γ → δ → Prop} {W : Wh} {ι ι' : List Addr} {Q Q' : β → Hp → Prop} {r : Rs α} {m : M} {H : Hp}
theorem Post.mono (h : Post K cl R W ι Q r) (le : ι <+: ι') : Post K cl R W ι' Q r := by
  cases r with
  | ok v m => exact fun ι2 w H' l2 => h ι2 w H' (le.trans l2)
  | ex c d m => exact fun ι2 w H' l2 => h ι2 w H' (le.trans l2)
  | no => exact h
theorem Post.imp (h : Post K cl R W ι Q r) (f : ∀ w H, Q w H → Q' w H) : Post K cl R W ι Q' r := by
  cases r with
  | ok v m => exact fun ι2 w H' l2 a b => f _ _ (h ι2 w H' l2 a b)
  | ex c d m => exact h
  | no => exact h
theorem Post.bind {f : α → M → Rs γ} {Q2 : δ → Hp → Prop} (h : Post K cl R' W ι Q2 (r.bind f)) :
    Post K cl R W ι (fun w H => ∃ ι1 v m1, ι <+: ι1 ∧ R ι1 v w ∧ RS K cl ι1 m1 H ∧ r = .ok v m1 ∧ Post K cl R' W ι1 Q2 (f v m1)) r := by
  cases r with
  | ok v m => exact fun ι2 w H' l2 a b => ⟨ι2, v, m, l2, a, b, rfl, Post.mono h l2⟩
  | ex c d m => exact h
  | no => exact h
theorem Post.here {v : α} {w : β} (h : Post K cl R W ι Q (.ok v m)) (a : R ι v w) (b : RS K cl ι m H) : Q w H := h ι w H (List.prefix_refl ι) a b
theorem Post.new {Q : V → Hp → Prop} {o : MO} {u : HO} (h : Post K cl RV W ι Q (newO o m)) (r : RS K cl ι m H) {p : Addr} (hp : H p = none) (ho : RO K cl (ι ++ [p]) (L2.upd H p u) p o) : Q (.ref p) (L2.upd H p u) :=
  h (ι ++ [p]) (.ref p) _ ⟨[p], rfl⟩ ⟨p, r.last, rfl⟩ (r.new hp ho)
theorem pre1 {p : Addr} : ι <+: ι ++ [p] := ⟨[p], rfl⟩
end

/-! ### operators -/
theorem opr_no {X : Cx} {f : Value → Value → Sem Value} : OpR X f (fun _ _ _ _ => False) := fun _ _ _ _ _ _ _ _ _ _ _ _ h => h.elim
def rOp (K : PySem.W.Frag) : Operator → R2
  | .Add => fun x y H Q => (rI0 fun i j => .int (i + j)) x y H Q ∨ ((∃ i j, x = .str i ∧ y = .str j ∧ i.length + j.length ≤ sizeLine ∧ Q (.str (i ++ j)) H) ∨ rCat x y H Q)
  | .Sub => rI0 fun i j => .int (i - j)
  | .Mult => fun x y H Q => (rI CMul fun i j => .int (i * j)) x y H Q ∨ ((rI CMulW fun i j => .int (i * j)) x y H Q ∨ rRep x y H Q)
  | .FloorDiv => rI CDivW fun i j => .int (i / j)
  | .Mod => rI (fun _ j => 0 < j) fun i j => .int (i % j)
  | .Pow => rI CPow fun i j => .int (i ^ j.toNat)
  | _ => fun _ _ _ _ => False
theorem rOp_ok {X : Cx} : ∀ o : Operator, OpR X (binaryOp o) (rOp X.K o) := by
  intro o
  cases o
  case Add => exact op_add.or (op_add_str.or op_cat)
  case Sub => exact op_sub
  case Mult => exact op_mul.or (op_mulW.or op_rep)
  case FloorDiv => exact op_fdivW
  case Mod => exact op_mod
  case Pow => exact op_pow
  all_goals exact opr_no
theorem big_eq : big = sizeLine := sizeLine_eq.symm
theorem big_le {n : Nat} (h : n ≤ big) : n ≤ sizeLine := by rw [← big_eq]; exact h
theorem big_lt {n : Nat} (h : n < big) : n < sizeLine := by rw [← big_eq]; exact h
section
variable {K : PySem.W.Frag} {cl : Nat → Addr} {W : Wh} {ι : List Addr} {Q : VK} {m : M} {H : Hp} {x y : MV} {w u : V}
theorem opV_ok {o : Operator} (h : Post K cl RV W ι Q (opV o x y m)) (rx : RV ι x w) (ry : RV ι y u) (rs : RS K cl ι m H) : rOp K o w u H Q := by
  unfold opV at h
  cases x <;> cases y <;> (try exact h.elim)
  · rename_i i j
    cases rx; cases ry
    cases o <;> (try exact h.elim)
    · exact .inl ⟨i, j, rfl, rfl, Post.here h rfl rs⟩
    · exact ⟨i, j, rfl, rfl, Post.here h rfl rs⟩
    · simp only at h
      split at h
      · rename_i c
        have q := Post.here (w := V.int (i * j)) h rfl rs
        rcases c with c | c | c
        · exact .inl ⟨i, j, rfl, rfl, .inl c, q⟩
        · exact .inl ⟨i, j, rfl, rfl, .inr c, q⟩
        · exact .inr (.inl ⟨i, j, rfl, rfl, c, q⟩)
      · exact h.elim
    · simp only at h
      split at h
      · rename_i c
        exact ⟨i, j, rfl, rfl, c, Post.here h rfl rs⟩
      · exact h.elim
    · simp only at h
      split at h
      · rename_i c
        exact ⟨i, j, rfl, rfl, c, Post.here h rfl rs⟩
      · exact h.elim
    · simp only at h
      split at h
      · rename_i c
        exact ⟨i, j, rfl, rfl, c, Post.here h rfl rs⟩
      · exact h.elim
  · rename_i i j
    cases rx; cases ry
    cases o <;> (try exact h.elim)
    simp only at h
    split at h
    · rename_i c
      exact .inr (.inl ⟨i, j, rfl, rfl, big_le c, Post.here h rfl rs⟩)
    · exact h.elim
  · rename_i a k
    cases ry
    cases o <;> (try exact h.elim)
    simp only at h
    split at h
    · rename_i xs e
      split at h
      · rename_i c
        obtain ⟨p, e1, e2, ys, r, hp⟩ := rs.at_ rx e
        subst e2
        refine .inr (.inr ⟨p, k, ys, rfl, rfl, hp, c.1, c.2.1, by rw [← plen r]; exact big_le c.2.2, fun q hq => ?_⟩)
        exact Post.new h rs hq ⟨_, RVs.mono pre1 (prep r _), upd_same⟩
      · exact h.elim
    · exact h.elim
  · rename_i a b
    cases o <;> (try exact h.elim)
    simp only at h
    split at h
    · rename_i xs ys e e'
      split at h
      · rename_i c
        obtain ⟨p, e1, e2, zs, r, hp⟩ := rs.at_ rx e
        obtain ⟨p', e1', e2', zs', r', hp'⟩ := rs.at_ ry e'
        subst e2 e2'
        refine .inr (.inr ⟨p, p', zs, zs', rfl, rfl, hp, hp', by rw [← plen r, ← plen r']; exact big_le c, fun q hq => ?_⟩)
        exact Post.new h rs hq ⟨_, RVs.mono pre1 (papp r r'), upd_same⟩
      · exact h.elim
    · exact h.elim

def rCp (K : PySem.W.Frag) : CmpOp → R2
  | .Eq => rEq
  | .NotEq => rNe
  | .Is => fun x y H Q => y = .non ∧ Q (.bl (decide (x = .non))) H
  | .IsNot => fun x y H Q => y = .non ∧ Q (.bl (!decide (x = .non))) H
  | .Lt => rI0 fun i j => .bl (decide (i < j))
  | .LtE => rI0 fun i j => .bl (decide (i ≤ j))
  | .Gt => rI0 fun i j => .bl (decide (j < i))
  | .GtE => rI0 fun i j => .bl (decide (j ≤ i))
  | _ => fun _ _ _ _ => False
theorem rCp_ok {X : Cx} : ∀ o : CmpOp, OpR X (compareOp o) (rCp X.K o) := by
  intro o
  cases o
  case Eq => exact op_eq
  case NotEq => exact op_ne
  case Is => exact op_isN
  case IsNot => exact op_notN
  case Lt => exact op_lt
  case LtE => exact op_le
  case Gt => exact op_gt
  case GtE => exact op_ge
  all_goals exact opr_no
theorem scal_of (rx : RV ι x w) (ry : RV ι y u) (h : scalM x y = true) : scal w u = true ∧ (decide (w = u)) = (decide (x = y)) := by
  cases x <;> cases y <;> (try cases h) <;> (cases rx; cases ry) <;> refine ⟨rfl, ?_⟩ <;> simp
theorem non_of (rx : RV ι x w) : decide (w = V.non) = decide (x = .non) := by
  cases x
  case ref a => obtain ⟨p, _, rfl⟩ := rx; simp
  all_goals (cases rx; simp)
theorem cmpV_ok {o : CmpOp} (h : Post K cl RV W ι Q (cmpV o x y m)) (rx : RV ι x w) (ry : RV ι y u) (rs : RS K cl ι m H) : rCp K o w u H Q := by
  unfold cmpV at h
  cases o <;> (try exact h.elim) <;> simp only at h
  · split at h
    · rename_i c
      obtain ⟨a, b⟩ := scal_of rx ry c
      exact ⟨a, by rw [b]; exact Post.here h rfl rs⟩
    · exact h.elim
  · split at h
    · rename_i c
      obtain ⟨a, b⟩ := scal_of rx ry c
      exact ⟨a, by rw [b]; exact Post.here h rfl rs⟩
    · exact h.elim
  · split at h
    · cases rx; cases ry; exact ⟨_, _, rfl, rfl, Post.here h rfl rs⟩
    · exact h.elim
  · split at h
    · cases rx; cases ry; exact ⟨_, _, rfl, rfl, Post.here h rfl rs⟩
    · exact h.elim
  · split at h
    · cases rx; cases ry; exact ⟨_, _, rfl, rfl, Post.here h rfl rs⟩
    · exact h.elim
  · split at h
    · cases rx; cases ry; exact ⟨_, _, rfl, rfl, Post.here h rfl rs⟩
    · exact h.elim
  · split at h
    · rename_i c
      subst c
      cases ry
      exact ⟨rfl, by rw [non_of rx]; exact Post.here h rfl rs⟩
    · exact h.elim
  · split at h
    · rename_i c
      subst c
      cases ry
      exact ⟨rfl, by rw [non_of rx]; exact Post.here h rfl rs⟩
    · exact h.elim

/-- items -/
theorem atI_rel {xs : List MV} {ys : List V} {i : Int} {v : MV} (r : RVs ι xs ys) (e : atI xs i = some v) : ∃ w, atI ys i = some w ∧ RV ι v w := by
  unfold atI at e ⊢
  rw [← plen r]
  cases h : ixN xs.length i with
  | none => rw [h] at e; cases e
  | some j =>
    rw [h] at e
    exact pget r e
theorem subV_ok (h : Post K cl RV W ι Q (subV x y m)) (rx : RV ι x w) (ry : RV ι y u) (rs : RS K cl ι m H) : rIx K w u H Q := by
  unfold subV at h
  cases y <;> (try exact h.elim)
  rename_i i
  cases ry
  cases x <;> (try exact h.elim)
  · rename_i z
    cases rx
    simp only at h
    split at h
    · rename_i c
      split at h
      · rename_i e
        exact .inr (.inr ⟨z, i, _, rfl, rfl, big_le c, e, Post.here h rfl rs⟩)
      · exact h.elim
    · exact h.elim
  · rename_i a
    simp only at h
    split at h
    · rename_i xs e
      split at h
      · rename_i v e2
        obtain ⟨p, ys, rfl, r, hs⟩ := rs.seq rx e
        obtain ⟨v', e3, r3⟩ := atI_rel r e2
        rcases hs with hs | hs
        · exact .inl ⟨p, ys, i, v', rfl, rfl, hs, e3, Post.here h r3 rs⟩
        · exact .inr (.inl ⟨p, ys, i, v', rfl, rfl, hs, e3, Post.here h r3 rs⟩)
      · exact h.elim
    · exact h.elim
theorem cut_rel {xs : List MV} {ys : List V} (r : RVs ι xs ys) (lo hi : Option Int) : RVs ι (cutM xs lo hi) (cutV ys lo hi) := by
  unfold cutM cutV
  rw [← plen r]
  exact ptake _ (pdrop _ r)
theorem slV_ok {lo hi : Option Int} (h : Post K cl RV W ι Q (slV x lo hi m)) (rx : RV ι x w) (rs : RS K cl ι m H) : rSlL K w lo hi H Q := by
  unfold slV at h
  cases x <;> (try exact h.elim)
  rename_i a
  simp only at h
  split at h
  · rename_i xs e
    obtain ⟨p, e1, rfl, ys, r, hp⟩ := rs.at_ rx e
    exact ⟨p, ys, rfl, SqL.of hp, fun q hq => Post.new h rs hq ⟨_, RVs.mono pre1 (cut_rel r lo hi), upd_same⟩⟩
  · rename_i xs e
    obtain ⟨p, e1, rfl, ys, r, hp⟩ := rs.at_ rx e
    exact ⟨p, ys, rfl, hp.sq, fun q hq => Post.new h rs hq ⟨_, RVs.mono pre1 (cut_rel r lo hi), upd_same⟩⟩
  · exact h.elim
theorem truV_ok {b : Bool} (h : truV m x = some b) (rx : RV ι x w) (rs : RS K cl ι m H) : TruV K w H b := by
  unfold truV at h
  cases x
  · cases rx; exact (Option.some.inj h).symm
  · cases rx; exact (Option.some.inj h).symm
  · cases rx; exact (Option.some.inj h).symm
  · cases rx
    simp only at h
    split at h
    · rename_i c
      exact ⟨big_le c, (Option.some.inj h).symm⟩
    · cases h
  · simp only at h
    split at h
    · rename_i xs e
      obtain ⟨p, e1, rfl, ys, r, hp⟩ := rs.at_ rx e
      exact .inl ⟨ys, SqL.of hp, by rw [← pempty r]; exact (Option.some.inj h).symm⟩
    · rename_i xs e
      obtain ⟨p, e1, rfl, ys, r, hp⟩ := rs.at_ rx e
      exact .inl ⟨ys, hp.sq, by rw [← pempty r]; exact (Option.some.inj h).symm⟩
    · rename_i xs e
      obtain ⟨p, e1, rfl, ys, r, hp⟩ := rs.at_ rx e
      exact .inr (.inl ⟨ys, SqT.of hp, by rw [← pempty r]; exact (Option.some.inj h).symm⟩)
    · rename_i xs e
      obtain ⟨p, e1, rfl, ys, r, hp⟩ := rs.at_ rx e
      exact .inr (.inr ⟨ys, hp, by rw [← pempty r]; exact (Option.some.inj h).symm⟩)
    · cases h
end

theorem p0 {α β : Type} {F : α → β → Prop} {ys : List β} (h : Paired F [] ys) : ys = [] := by cases h; rfl
theorem p1 {α β : Type} {F : α → β → Prop} {x : α} {ys : List β} (h : Paired F [x] ys) : ∃ y, ys = [y] ∧ F x y := by
  cases h with
  | cons a b => cases b; exact ⟨_, rfl, a⟩
theorem p2 {α β : Type} {F : α → β → Prop} {x x' : α} {ys : List β} (h : Paired F [x, x'] ys) : ∃ y y', ys = [y, y'] ∧ F x y ∧ F x' y' := by
  cases h with
  | cons a b =>
    obtain ⟨y, rfl, r⟩ := p1 b
    exact ⟨_, _, rfl, a, r⟩
/-! ### built-in functions -/
def biId : Bi → String ⊕ String
  | .abs => .inl "abs" | .len => .inl "len" | .min => .inl "min" | .max => .inl "max" | .all => .inl "all"
  | .int => .inr "int" | .list => .inr "list" | .tuple => .inr "tuple" | .str => .inr "str"
def biNm : Bi → Str
  | .abs => "abs" | .len => "len" | .min => "min" | .max => "max" | .all => "all"
  | .int => "int" | .list => "list" | .tuple => "tuple" | .str => "str"
def biF (b : Bi) : Value := match biId b with
  | .inl n => .builtin n
  | .inr n => .type n
abbrev R1 := List V → Hp → VK → Prop
/-- list(text) -/
def rSigns : R1 := fun xs H Q => ∃ z, xs = [.str z] ∧ z.length ≤ sizeLine ∧ ∀ l, H l = none → Q (.ref l) (upd H l (.lst (z.cps.toList.map fun c => V.str ⟨#[c]⟩)))
theorem vals_signs {z : Str} : ∀ {acc : List Value} {cs : List Nat}, acc.length = cs.length → (∀ (j : Nat) (u : Value), acc[j]? = some u → ∃ c t, cs[j]? = some c ∧ u = .str ⟨#[c]⟩ t) → Vals (cs.map fun c => V.str ⟨#[c]⟩) acc
  | [], [], _, _ => .nil
  | [], _ :: _, h, _ => by cases h
  | _ :: _, [], h, _ => by cases h
  | u :: us, c :: cs, h, f => by
    obtain ⟨c', t, e1, e2⟩ := f 0 u rfl
    cases e1
    exact .cons ⟨t, e2⟩ (vals_signs (z := z) (Nat.succ.inj h) fun j u hu => f (j + 1) u hu)
theorem call_signs {X : Cx} (hc : X.calm = true) : CallR X (.type "list") rSigns := by
  intro pins s σ H xs us Q I r h
  obtain ⟨z, rfl, hz, q⟩ := h
  obtain ⟨u, rfl, t, rfl⟩ := vals1 r
  refine vi_list_str (I.ok.hd hc) hz fun h' tk acc c' kp e ha => ?_
  have len : acc.toList.length = z.cps.toList.length := by rw [Array.length_toList, Array.length_toList]; exact ha.1
  refine ⟨.ref s.heap.objs.size, _, I.laid (t' := tk) kp (Nat.le_refl _) (show ObjOk X.prog X.w _ h' _ (.lst (z.cps.toList.map fun c => V.str ⟨#[c]⟩)) from ⟨?_, acc.toList, c', ?_, ?_⟩), rfl, q _ (I.hok.fresh (Nat.le_refl _))⟩
  · rw [List.length_map, Array.length_toList]
    exact hz
  · refine vals_signs (z := z) len fun j u hu => ?_
    obtain ⟨c, t, e1, e2⟩ := ha.2 j u (by rw [← hu, Array.getElem?_toList])
    exact ⟨c, t, by rw [Array.getElem?_toList]; exact e1, e2⟩
  · rw [Array.toArray_toList]
    exact e
def rBi (K : PySem.W.Frag) : Bi → R1
  | .abs => fun xs H Q => ∃ i, xs = [.int i] ∧ Q (.int (if i < 0 then -i else i)) H
  | .int => fun xs H Q => (∃ i, xs = [.int i] ∧ Q (.int i) H) ∨ ∃ k, xs = [.bl k] ∧ Q (.int (if k then 1 else 0)) H
  | .len => fun xs H Q => ∃ x n, xs = [x] ∧ LenV K x H n ∧ Q (.int n) H
  | .list => fun xs H Q => (∃ p ys, xs = [.ref p] ∧ (SqL K H p ys ∨ SqT K H p ys) ∧ ∀ l, H l = none → Q (.ref l) (upd H l (.lst ys))) ∨ rSigns xs H Q
  | .tuple => fun xs H Q => ∃ p ys, xs = [.ref p] ∧ ((SqL K H p ys ∧ ∀ l, H l = none → Q (.ref l) (upd H l (.tup ys))) ∨ (SqT K H p ys ∧ Q (.ref p) H))
  | .min => fun xs H Q => ∃ i j, xs = [.int i, .int j] ∧ Q (.int (if j < i then j else i)) H
  | .max => fun xs H Q => ∃ i j, xs = [.int i, .int j] ∧ Q (.int (if j > i then j else i)) H
  | .all => rAll K
  | .str => fun xs H Q => ∃ i, xs = [.int i] ∧ i.natAbs.log2 < 1920 ∧ Q (.str (toString i)) H
theorem rBi_ok {X : Cx} (hc : X.calm = true) : ∀ b : Bi, CallR X (biF b) (rBi X.K b) := by
  intro b
  cases b
  · exact call_abs
  · exact call_int1
  · exact call_len
  · exact CallR.or call_list_of (call_signs hc)
  · exact call_tuple_of
  · exact call_min2 hc
  · exact call_max2 hc
  · exact cr_all hc
  · exact call_str_int
theorem biBoot (b : Bi) : bootBuiltins (biNm b) = some (biF b) := by
  cases b <;> decide +kernel
section
variable {K : PySem.W.Frag} {cl : Nat → Addr} {W : Wh} {ι : List Addr} {Q : VK} {m : M} {H : Hp}
theorem bls_rel : ∀ {xs : List MV} {bs : List Bool} {ys : List V}, blsOf xs = some bs → RVs ι xs ys → ys = bs.map V.bl
  | [], bs, ys, e, r => by cases e; cases r; rfl
  | .bl b :: xs, bs, ys, e, r => by
    cases r with
    | cons r1 r2 =>
      cases r1
      simp only [blsOf] at e
      cases h : blsOf xs with
      | none => rw [h] at e; cases e
      | some cs =>
        rw [h] at e
        cases e
        rw [bls_rel h r2]
        rfl
  | .non :: _, _, _, e, _ => by cases e
  | .int _ :: _, _, _, e, _ => by cases e
  | .str _ :: _, _, _, e, _ => by cases e
  | .ref _ :: _, _, _, e, _ => by cases e
theorem strs_rel : ∀ {xs : List MV} {bs : List Str} {ys : List V}, strsOf xs = some bs → RVs ι xs ys → ys = bs.map V.str
  | [], bs, ys, e, r => by cases e; cases r; rfl
  | .str b :: xs, bs, ys, e, r => by
    cases r with
    | cons r1 r2 =>
      cases r1
      simp only [strsOf] at e
      cases h : strsOf xs with
      | none => rw [h] at e; cases e
      | some cs =>
        rw [h] at e
        cases e
        rw [strs_rel h r2]
        rfl
  | .non :: _, _, _, e, _ => by cases e
  | .int _ :: _, _, _, e, _ => by cases e
  | .bl _ :: _, _, _, e, _ => by cases e
  | .ref _ :: _, _, _, e, _ => by cases e
theorem signs_rel : ∀ {cs : List Nat}, RVs ι (cs.map fun c => MV.str ⟨#[c]⟩) (cs.map fun c => V.str ⟨#[c]⟩)
  | [] => .nil
  | c :: cs => .cons rfl signs_rel
theorem biV_ok {b : Bi} {xs : List MV} {ws : List V} (h : Post K cl RV W ι Q (biV b xs m)) (rx : RVs ι xs ws) (rs : RS K cl ι m H) : rBi K b ws H Q := by
  unfold biV at h
  split at h
  · obtain ⟨w1, rfl, r1⟩ := p1 rx; cases r1
    exact ⟨_, rfl, Post.here h rfl rs⟩
  · obtain ⟨w1, rfl, r1⟩ := p1 rx; cases r1
    exact .inl ⟨_, rfl, Post.here h rfl rs⟩
  · obtain ⟨w1, rfl, r1⟩ := p1 rx; cases r1
    exact .inr ⟨_, rfl, Post.here h rfl rs⟩
  · obtain ⟨w1, rfl, r1⟩ := p1 rx; cases r1
    split at h
    · rename_i c
      exact ⟨_, _, rfl, ⟨big_le c, rfl⟩, Post.here h rfl rs⟩
    · exact h.elim
  · obtain ⟨w1, rfl, r1⟩ := p1 rx
    split at h
    · rename_i ys e
      obtain ⟨p, zs, rfl, r, hs⟩ := rs.seq r1 e
      refine ⟨_, zs.length, rfl, ?_, by rw [← plen r]; exact Post.here h rfl rs⟩
      rcases hs with hs | hs
      · exact .inl ⟨zs, hs, rfl⟩
      · exact .inr ⟨zs, hs, rfl⟩
    · exact h.elim
  · obtain ⟨w1, rfl, r1⟩ := p1 rx
    split at h
    · rename_i ys e
      obtain ⟨p, zs, rfl, r, hs⟩ := rs.seq r1 e
      exact .inl ⟨p, zs, rfl, hs, fun l hl => Post.new h rs hl ⟨_, RVs.mono pre1 r, upd_same⟩⟩
    · exact h.elim
  · obtain ⟨w1, rfl, r1⟩ := p1 rx; cases r1
    split at h
    · rename_i c
      exact .inr ⟨_, rfl, big_le c, fun l hl => Post.new h rs hl ⟨_, signs_rel, upd_same⟩⟩
    · exact h.elim
  · obtain ⟨w1, rfl, r1⟩ := p1 rx
    split at h
    · rename_i ys e
      obtain ⟨p, e1, rfl, zs, r, hp⟩ := rs.at_ r1 e
      exact ⟨p, zs, rfl, .inl ⟨SqL.of hp, fun l hl => Post.new h rs hl ⟨_, RVs.mono pre1 r, upd_same⟩⟩⟩
    · rename_i ys e
      obtain ⟨p, e1, rfl, zs, r, hp⟩ := rs.at_ r1 e
      exact ⟨p, zs, rfl, .inl ⟨hp.sq, fun l hl => Post.new h rs hl ⟨_, RVs.mono pre1 r, upd_same⟩⟩⟩
    · rename_i ys e
      obtain ⟨p, e1, rfl, zs, r, hp⟩ := rs.at_ r1 e
      exact ⟨p, zs, rfl, .inr ⟨SqT.of hp, Post.here h ⟨p, e1, rfl⟩ rs⟩⟩
    · exact h.elim
  · obtain ⟨w1, w2, rfl, r1, r2⟩ := p2 rx; cases r1; cases r2
    exact ⟨_, _, rfl, Post.here h rfl rs⟩
  · obtain ⟨w1, w2, rfl, r1, r2⟩ := p2 rx; cases r1; cases r2
    exact ⟨_, _, rfl, Post.here h rfl rs⟩
  · obtain ⟨w1, rfl, r1⟩ := p1 rx
    split at h
    · rename_i ys e
      split at h
      · rename_i bs eb
        obtain ⟨p, e1, rfl, zs, r, hp⟩ := rs.at_ r1 e
        have q := bls_rel eb r
        subst q
        exact ⟨p, bs, rfl, SqL.of hp, Post.here h rfl rs⟩
      · exact h.elim
    · exact h.elim
  · exact h.elim
  · obtain ⟨w1, rfl, r1⟩ := p1 rx; cases r1
    split at h
    · rename_i c
      exact ⟨_, rfl, c, Post.here h rfl rs⟩
    · exact h.elim
  · exact h.elim
end
end VI


set_option Elab.async false
set_option linter.all false
set_option maxRecDepth 100000
set_option maxHeartbeats 4000000
namespace VI
open PySem PySem.Spec PyProof.Rows L2

/-! ### exceptions as values -/
/-- what the written part says of an exception class -/
structure ExF (K : PySem.W.Frag) (C : Addr) : Prop where
  oex : OexC K C
  exc : ExcC K C
section
variable {X : Cx} {x : Str} {p pos : Pos} {e : Expr} {es : List Expr} {ta : TA}
/-- C(e, ..) by C's own __init__, a value -/
def tMkV (C : Addr) (sp : Sp) (ta : TA) : TE := fun σ H Q => ta σ H fun vs H1 => vs.length ≤ 1000 ∧ ∀ a, H1 a = none → sp (.ref a :: vs) (upd H1 a (exo a C none)) (fun v H2 => v = .non ∧ Q (.ref a) H2) (fun _ _ _ => False)
theorem pe_oexV {CX : CXT} {C fI : Addr} {k : Nat} {fd : FuncData} {ps : List Str} {sp : Sp} (T : OexC X.K C) (iC : PySem.W.findIn X.K (.ref C) "__init__" = some (some (.ref fI))) (tI : PySem.W.typeIn X.K (.ref fI) = some (.type "function"))
    (F1 : FnOk X.prog X.w X.K X.mg X.base CX k fI fd ps sp) (hr : Room (k + 1) X.A) (hb : Binds X.K fd ps []) (hx : Passes CX X (fun _ _ _ => False)) (hg : Gl X x) (hm : X.mg x = some (.ref C)) (ha : PA X (e :: es) ta)
    (hdb : (x == ("__debug__" : Str)) = false) (he : starEach (e :: es) X.env = (false, eval e X.env) :: starEach es X.env) (hpl : (backTo pos (starEach es X.env)).any (·.1) = false) :
    PE X (.Call (.Name x p) (e :: es) [] pos) (tMkV C sp ta) := by
  refine ⟨fun pins s σ H Q I h => ?_⟩
  obtain ⟨nm, q, N, bs, bm, sn, sub, ab, col, dd, k0, k1, k2, k3, k5, hC, hbm⟩ := T.cls
  refine wpAny_Call_Name_kw (ld_glob I hg hm ?_ hdb)
  refine PySem.W.callWith_K (h₀ := X.base) I.ok.mod.kin T.kC (thn (ha.run pos pins s σ H _ I h) fun us s1 ⟨vs, H1, I1, r1, hz, q1⟩ => ⟨I1.kIn, ?_⟩) he hpl
  show wpAny _ _ (call (.ref C) us) _ _ _
  obtain ⟨hp, g, dr, tk, os⟩ := s1
  have hsz : hp.objs.size ≤ hp.objs.size + 1 := Nat.le_succ _
  have hn : H1 (hp.objs.size + 1) = none := I1.hok.fresh hsz
  have hq := q1 (hp.objs.size + 1) hn
  have kk : ∀ b o, hp.get? b = some o → ((hp.push (PySem.W.kdv_tup us)).push (PySem.HandSPX.excO C hp.objs.size)).get? b = some o := fun b o e => Heap.get?_push_of_some _ (Heap.get?_push_of_some _ e)
  have hget : ((hp.push (PySem.W.kdv_tup us)).push (PySem.HandSPX.excO C hp.objs.size)).get? (hp.objs.size + 1) = some (PySem.HandSPX.excO C hp.objs.size) := by heap_get
  have I2 : Inv X pins σ (upd H1 (hp.objs.size + 1) (exo (hp.objs.size + 1) C none)) ⟨(hp.push (PySem.W.kdv_tup us)).push (PySem.HandSPX.excO C hp.objs.size), g, dr, tk, os⟩ :=
    I1.laid (t' := tk) (a := hp.objs.size + 1) (o := exo (hp.objs.size + 1) C none) (h' := (hp.push (PySem.W.kdv_tup us)).push (PySem.HandSPX.excO C hp.objs.size)) kk hsz (exo_ok hget)
  have r2 : Vals (V.ref (hp.objs.size + 1) :: vs) (Value.ref (hp.objs.size + 1) :: us) := .cons rfl r1
  have hl : ((Value.ref (hp.objs.size + 1) :: us) ++ []).length = ps.length := by
    rw [List.append_nil]
    have e := r2.length
    rw [F1.len _ _ _ _ hq] at e
    exact e.symm
  have hus : us.length ≤ sizeLine := by
    rw [← Paired.length r1, sizeLine_eq]
    omega
  have hb2 := hb ⟨(hp.push (PySem.W.kdv_tup us)).push (PySem.HandSPX.excO C hp.objs.size), g, dr, tk, os⟩ (Value.ref (hp.objs.size + 1) :: us) I2.kIn hl
  rw [List.append_nil] at hb2
  refine wpAny_call (PySem.HandSPX.call_own F.excBase_ValueError (fun Y => PySem.HandSPX.refsVE_contains Y bm hbm) (I1.kIn _ _ hC) (PySem.W.looks_findIn I1.kIn iC) (fun self => PySem.W.bind_fn I1.kIn self tI) hus
    (codeAny_mono (F1.run _ X.stack _ _ ⟨Value.ref (hp.objs.size + 1) :: us, []⟩ (Value.ref (hp.objs.size + 1) :: us) _ _ (fun _ _ _ => False) (hr.make C us []) (I2.env0.make C us []) hb2 r2 hq) fun r s' hq' => ?_))
  cases r with
  | error er => exact hx pins σ _ _ er s' I2 hq'
  | ok fl =>
    cases fl with
    | ret u =>
      obtain ⟨v, H2, J, rv, ev, q2⟩ := I2.after hq'
      subst ev
      exact ⟨rv, ⟨.ref (hp.objs.size + 1), H2, J, rfl, q2⟩⟩
    | next => exact False.elim hq'
    | brk => exact False.elim hq'
    | cont => exact False.elim hq'
/-- C(), a class without an own __init__ -/
def tMk0 (C : Addr) : TE := fun _ H Q => ∀ a, H a = none → Q (.ref a) (upd H a (exo a C none))
theorem pe_exc0V {C : Addr} {bmB : List Value} {B newId initId : String} (F : ExcBaseFacts B newId initId bmB) (q : PySem.W.excIn X.K C bmB newId = true) (gC : X.mg x = some (.ref C)) (kC : PySem.W.keepIn X.K (.ref C) = true) (hg : Gl X x)
    (hdb : (x == ("__debug__" : Str)) = false) : PE X (.Call (.Name x p) [] [] pos) (tMk0 C) := by
  refine ⟨fun pins s σ H Q I h => ?_⟩
  refine wpAny_Call_Name_kw (ld_glob I hg gC ?_ hdb)
  refine PySem.W.callWith_K0 I.kIn kC ?_
  obtain ⟨bm, N, nm, qn, bs, hdct, sn, sub, ab, col, dd, k0, k1, k2, k3, k5, mN, hC, hN, hni, T⟩ := exc_obj I.kIn q
  refine wpAny_call_exc_subT F T hC hN hni (fun h' a hm => ?_) (by show 0 ≤ sizeLine; exact Nat.zero_le _)
  have hn : H a = none := I.hok.gone hm.new
  obtain ⟨t, ht, _, _⟩ := hm.there
  exact ⟨.ref a, upd H a (exo a C none), I.laidN hm.keeps hm.new hn (exo_ok ht), rfl, h a hn⟩
/-- isinstance(e, c), e an exception -/
def rIsX (K : PySem.W.Frag) : R1 := fun xs H Q => ∃ (a C : Addr) (d : Option Addr) (c : V) (u : Value) (b : Bool), xs = [.ref a, c] ∧ ClsV c u ∧ H a = some (exo a C d) ∧ (d = none ∨ ∃ q fs, d = some q ∧ H q = some (exd q fs)) ∧ ExcC K C ∧
  PySem.W.kitOne K (.ref C) u = some b ∧ Q (.bl b) H
theorem call_isX : CallR X (.builtin "isinstance") (rIsX X.K) := by
  intro pins s σ H xs us Q I r h
  obtain ⟨a, C, d, c, u, b, rfl, k, ha, hd, T, e, q⟩ := h
  obtain ⟨u1, u2, rfl, r1, r2⟩ := vals2 r
  have e2 := k.eq r2
  subst e2
  cases (show u1 = Value.ref a from r1)
  obtain ⟨t1, ho⟩ := exo_at I.hok ha
  have hcl : (PySem.W.clsIn X.K C).isSome = true := by
    obtain ⟨cd, hc, _⟩ := PySem.W.any_some T.hd
    rw [hc]
    rfl
  have fin : ∀ tk, EP X pins σ Q (.bool b) { s with toks := tk } := fun tk => ⟨.bl b, H, I.tok tk, rfl, q⟩
  rcases hd with rfl | ⟨q', fs, rfl, hq⟩
  · have J : PySem.W.InstAt s.heap a _ C none := ⟨ho, rfl, rfl, trivial⟩
    exact PySem.W.kia_one (PySem.W.kitx_exc hcl T.hg T.hk T.hs T.ha T.hn T.ht T.hm) I.kIn J e (fun z => nomatch z) fin
  · obtain ⟨mA, hns, _⟩ := exd_at I.hok hq
    obtain ⟨od, hod, _⟩ := lookIn_ns hns
    have J : PySem.W.InstAt s.heap a _ C (some od) := ⟨ho, rfl, rfl, hod⟩
    exact PySem.W.kia_one (PySem.W.kitx_exc hcl T.hg T.hk T.hs T.ha T.hn T.ht T.hm) I.kIn J e (fun z => nomatch z) fin
/-- e.f, e an exception with an own dict -/
def tXfV (K : PySem.W.Frag) (f : Str) (te : TE) : TE := fun σ H Q => te σ H fun x H1 => ∃ (a C q : Addr) (fs : List (Str × V)) (v : V), x = .ref a ∧ H1 a = some (exo a C (some q)) ∧ H1 q = some (exd q fs) ∧ ExcC K C ∧ PySem.W.findIn K (.ref C) f = some none ∧ fs.lookup f = some v ∧ Q v H1
theorem pe_xfV {f : Str} {te : TE} (he : PE X e te) (hb : attributeBase e f X.env (eval e X.env) = eval e X.env) : PE X (.Attribute e f pos) (tXfV X.K f te) := by
  refine ⟨fun pins s σ H Q I h => ?_⟩
  refine attr_of hb (thn (he.run pins s σ H _ I h) fun u s1 hh => ?_)
  obtain ⟨x, H1, I1, rx, a, C, dd, fs, v, ex, ha, hq, T, hno, l, q⟩ := hh
  subst ex
  obtain rfl : u = Value.ref a := rx
  obtain ⟨t1, ho⟩ := exo_at I1.hok ha
  obtain ⟨mA, hns, hr⟩ := exd_at I1.hok hq
  obtain ⟨od, hod, hl⟩ := lookIn_ns hns
  obtain ⟨u, hu, ru⟩ := RelO.some_of (v := v) (o := mA f) (by rw [← l]; exact hr f)
  have J : PySem.W.InstAt s1.heap a _ C (some od) := ⟨ho, rfl, rfl, hod⟩
  exact HandSPX.exc_get I1.kIn J T.hg T.hk T.hs (PySem.W.findObj_own T.hd hno rfl (by rw [hl, hu])) (handed_of ru) ⟨v, H1, I1.tok _, ru, q⟩
end
end VI


set_option Elab.async false
set_option linter.all false
set_option maxRecDepth 100000
set_option maxHeartbeats 4000000
namespace VI
open PySem PySem.Spec PyProof.Rows L2 PySem.HandSPX
section
variable {M : Model} {prog : Program} {w : World} {A : Around} {E : Value → Shared → Prop} {R : Result → Shared → Prop} {h : Heap} {g : Array GenState} {d : Drawn} {t : Nat} {os : OsState}
variable {nm q : Str} {C N : Addr} {bs bm bmB : List Value} {hdct : Bool} {sn : List Str} {sub : List Value} {ab : Bool} {col : Option Bool} {dd : Option Addr} {k0 k1 k2 k3 k5 : Option Value} {B newId initId : String}
variable {rest : List Value} {kw : List (Str × Value)} {fI : Addr}

theorem kw_check (F : ExcBaseFacts B newId initId bmB) (hT : ∀ X : String, bm.contains (.type X) = bmB.contains (.type X)) {Q : Unit → Shared → Prop}
    (hC : h.get? C = some (excClassObj nm q C N bs bm hdct sn sub ab col dd k0 k1 k2 k3 k5 newId)) (hq : Q () ⟨h, g, d, t, os⟩) : wpAny M A (checkBuiltinCall newId ⟨.ref C :: rest, kw⟩) Q E ⟨h, g, d, t, os⟩ := by
  have isB : (Value.ref C :: bm).contains (.type B) = true := by rw [List.contains_cons, hT, F.hasB, Bool.or_true]
  have ns := F.noStar
  simp only [checkBuiltinCall, F.newKind, F.newSplit, F.newRow]
  repeat (first
    | refine wpAny_loadPart_at hC ?_
    | (refine wpAny_isSubtype_exc hC ?_; rw [isB])
    | refine wpAny_staticBase_exc hC ?_
    | refine wpAny_madeBy_exc hC ?_
    | simp only [bne_self_eq_false, Bool.false_eq_true, if_false]
    | wp_step)
  exact hq
theorem kw_new (F : ExcBaseFacts B newId initId bmB) (hT : ∀ X : String, bm.contains (.type X) = bmB.contains (.type X))
    (hC : h.get? C = some (excClassObj nm q C N bs bm hdct sn sub ab col dd k0 k1 k2 k3 k5 newId))
    (hq : R (.ok (.ret (.ref (h.objs.size + 1)))) ⟨(h.push (PySem.W.kdv_tup rest)).push (excO C h.objs.size), g, d, t, os⟩) (hl : rest.length ≤ sizeLine) :
    codeAny (model prog w) A (.builtin newId ⟨.ref C :: rest, kw⟩) R ⟨h, g, d, t, os⟩ := by
  have he := F.ends
  have isB : (Value.ref C :: bm).contains (.type B) = true := by rw [List.contains_cons, hT, F.hasB, Bool.or_true]
  have isA : (Value.ref C :: bm).contains (.type "AttributeError") = false := by rw [List.contains_cons, hT, F.noAttr] <;> rfl
  have isN : (Value.ref C :: bm).contains (.type "NameError") = false := by rw [List.contains_cons, hT, F.noName] <;> rfl
  refine codeAny_builtinAt F.entry ?_
  unfold Builtin.«BaseException.__new__»
  refine PySem.wpAt_bind ?_
  show PySem.wpAt _ _ _ (stack >>= _) _ _ _
  refine PySem.wpAt_bind (PySem.wpAt_stack fun p below => PySem.wpAt_of_wpAny ?_)
  wp_walk
  refine PySem.wpAt_of_wpAny ?_
  rw [F.owner]
  repeat (first
    | with_reducible refine wpAny_madeHere_exc F.canon hC ?_
    | with_reducible refine wpAny_loadPart_at hC ?_
    | (with_reducible refine wpAny_isSubtype_exc hC ?_; first | rw [isB] | rw [isA] | rw [isN])
    | wp_step)
  show R _ _
  rw [Heap.size_push]
  exact hq
theorem kw_type_call (F : ExcBaseFacts B newId initId bmB) (hT : ∀ X : String, bm.contains (.type X) = bmB.contains (.type X)) {Q : Fin → Shared → Prop}
    (hC : h.get? C = some (excClassObj nm q C N bs bm hdct sn sub ab col dd k0 k1 k2 k3 k5 newId)) (hl : rest.length ≤ sizeLine)
    (hi : W.Looks (model prog w) h (typeLookup (.ref C) "__init__") (some (.ref fI)))
    (hb : ∀ self, W.Looks (model prog w) h (bindSpecial (.ref fI) self) (.ref fI, [self]))
    (hq : codeAny (model prog w) A (.call (.ref fI) ⟨.ref (h.objs.size + 1) :: rest, kw⟩)
      (fun r s' => match r with
        | .ok (.ret v) => v = .none ∧ Q (.done (.ret (.ref (h.objs.size + 1)))) s'
        | .ok _ => False
        | .error e => E e s') ⟨(h.push (W.kdv_tup rest)).push (excO C h.objs.size), g, d, t, os⟩) :
    wpAny (model prog w) A (Builtin.«type.__call__» ⟨.ref C :: rest, kw⟩) Q E ⟨h, g, d, t, os⟩ := by
  repeat (first
    | with_reducible refine wpAny_loadPart_at hC ?_
    | with_reducible refine wpAny_madeBy_exc hC ?_
    | wp_step)
  refine codeAny_call_builtin_code (Code.quiet_builtin _ F.quiet) (kw_check F hT hC (kw_new F hT hC ?_ hl))
  show wpAny _ _ _ _ _ _
  have up : ∀ b o, h.get? b = some o → ((h.push (W.kdv_tup rest)).push (excO C h.objs.size)).get? b = some o := fun b o e =>
    Heap.get?_push_of_some _ (Heap.get?_push_of_some _ e)
  have hC2 := up _ _ hC
  have at_ : ((h.push (W.kdv_tup rest)).push (excO C h.objs.size)).get? (h.objs.size + 1) = some (excO C h.objs.size) := by heap_get
  have isC : (Value.ref C :: bm).contains (.ref C) = true := by simp
  unfold isInstance
  repeat (first
    | with_reducible refine wpAny_loadPart_at at_ ?_
    | (with_reducible refine wpAny_isSubtype_exc hC2 ?_; rw [isC])
    | wp_step)
  show wpAny _ _ (typeLookup (.ref C) _) _ _ _
  refine (hi.keeps up).at (wpAny_holding (wpAny_bind (((hb (.ref (h.objs.size + 1))).keeps up).at ?_)))
  refine wpAny_bind (wpAny_call (codeAny_mono hq fun r s' z => ?_))
  cases r with
  | error e => exact z
  | ok f =>
    cases f with
    | ret v =>
      obtain ⟨rfl, z⟩ := z
      first
        | exact wpAny_pure (wpAny_pure z)
        | (wp_walk; exact z)
    | next => exact z.elim
    | brk => exact z.elim
    | cont => exact z.elim
theorem kw_outer {Q : Unit → Shared → Prop} (hC : h.get? C = some (excClassObj nm q C N bs bm hdct sn sub ab col dd k0 k1 k2 k3 k5 newId)) (hq : Q () ⟨h, g, d, t, os⟩) :
    wpAny M A (checkBuiltinCall "type.__call__" ⟨.ref C :: rest, kw⟩) Q E ⟨h, g, d, t, os⟩ := by
  have f3 := tc_sub
  have isT : (⟨h, g, d, t, os⟩ : Shared).TypeIs (.ref C) "type" := ⟨_, hC, rfl⟩
  simp only [checkBuiltinCall, tc_kind, tc_split]
  repeat (any_goals (first
    | assumption
    | with_reducible refine wpAny_loadPart_at hC ?_
    | with_reducible refine wpAny_onRaise ?_
    | with_reducible refine wpAny_map ?_
    | wp_step))
/-- C(.., k = v, ..) of an exception class with its own __init__ -/
theorem kw_call (F : ExcBaseFacts B newId initId bmB) (hT : ∀ X : String, bm.contains (.type X) = bmB.contains (.type X))
    (hC : h.get? C = some (excClassObj nm q C N bs bm hdct sn sub ab col dd k0 k1 k2 k3 k5 newId)) (hl : rest.length ≤ sizeLine)
    (hi : W.Looks (model prog w) h (typeLookup (.ref C) "__init__") (some (.ref fI)))
    (hb : ∀ self, W.Looks (model prog w) h (bindSpecial (.ref fI) self) (.ref fI, [self]))
    (hq : codeAny (model prog w) (A.under (.builtin "type.__call__" ⟨.ref C :: rest, kw⟩)) (.call (.ref fI) ⟨.ref (h.objs.size + 1) :: rest, kw⟩)
      (W.InitBack (h.objs.size + 1) R) ⟨(h.push (W.kdv_tup rest)).push (excO C h.objs.size), g, d, t, os⟩) :
    codeAny (model prog w) A (.call (.ref C) ⟨rest, kw⟩) R ⟨h, g, d, t, os⟩ := by
  have f1 := tc_lookup
  have f2 := tc_bind (.ref C)
  have isT : (⟨h, g, d, t, os⟩ : Shared).TypeIs (.ref C) "type" := ⟨_, hC, rfl⟩
  refine codeAny_of_tree ?_
  show wpAny _ _ (callAny (.ref C) _) _ _ _
  repeat (any_goals (first
    | assumption
    | with_reducible refine wpAny_loadPart_at hC ?_
    | wp_step))
  refine ⟨rfl, codeAny_call_builtin_at (Code.quiet_builtin _ (by decide +kernel)) entry_typeCall (kw_outer hC (kw_type_call F hT hC hl hi hb ?_))⟩
  refine codeAny_mono hq fun r s' z => ?_
  cases r with
  | error e => exact z
  | ok f => cases f <;> exact z
end

/-! ### such a call, a value -/
/-- the keywords ks behind one value bind as if they stood there without names -/
def KwTo (K : PySem.W.Frag) (fd : FuncData) (ps ks : List Str) : Prop := ∀ (s : Shared) (u : Value) (ws : List Value), K.In s.heap → ws.length + 1 = ps.length → BindsTo s fd ⟨[u], ks.zip ws⟩ (ps.zip (u :: ws))
theorem kwTo_of {K : PySem.W.Frag} {x qual : Str} {params : Arguments} {body : List Stmt} {scope : Scope} {f : Addr} {fd : FuncData} {ps ks : List Str} (F : FunD K x qual params body scope [] [] f fd)
    (h : ∀ (kV doc pm : Value) (an : Option Addr) (cdv ct u : Value) (ws : List Value), ws.length + 1 = ps.length → bindArgs (PySem.W.fnOf x qual params body scope .none kV doc pm an cdv ct) ⟨[u], ks.zip ws⟩ = pure (ps.zip (u :: ws))) : KwTo K fd ps ks := by
  obtain ⟨oc, od, dV, kV, doc, pm, an, cdv, ct, osl, rfl, lk, hcd, hD, _⟩ := F.ex
  rcases hD with ⟨_, rfl⟩ | ⟨e, _⟩
  · exact fun s u ws _ hl => .of_eq (h kV doc pm an cdv ct u ws hl)
  · exact absurd rfl e
section
variable {X : Cx} {CX : CXT} {x : Str} {p pos : Pos} {ta : TA} {kws : List Keyword}
theorem pe_oexK {C fI : Addr} {k : Nat} {fd : FuncData} {ps ks : List Str} {sp : Sp} (T : OexC X.K C) (iC : PySem.W.findIn X.K (.ref C) "__init__" = some (some (.ref fI)))
    (tI : PySem.W.typeIn X.K (.ref fI) = some (.type "function")) (F1 : FnOk X.prog X.w X.K X.mg X.base CX k fI fd ps sp) (hr : Room (k + 1) X.A) (hb : KwTo X.K fd ps ks)
    (hx : Passes CX X (fun _ _ _ => False)) (hg : Gl X x) (hm : X.mg x = some (.ref C)) (ha : PK X kws ta) (hdb : (x == ("__debug__" : Str)) = false)
    (hall : (backToKw pos (keywordEach kws X.env)).all (·.1.isSome) = true) (hks : (backToKw pos (keywordEach kws X.env)).filterMap (·.1) = ks)
    (hpl : ((backTo pos (starEach [] X.env)).any (·.1) || (backToKw pos (keywordEach kws X.env)).any (·.1.isNone)) = false) :
    PE X (.Call (.Name x p) [] kws pos) (tMkV C sp ta) := by
  refine ⟨fun pins s σ H Q I h => wpAny_Call_Name_kw (ld_glob I hg hm ?_ hdb)⟩
  obtain ⟨cn, q, N, bs, bm, sn, sub, ab, col, dd, k0, k1, k2, k3, k5, hC, hbm⟩ := T.cls
  refine PySem.W.callWith_KW0 (h₀ := X.base) I.ok.mod.kin T.kC hall (thn (ha.run pos pins s σ H _ I h) fun ws s1 ⟨vs, H1, I1, r1, hz, q1⟩ => ⟨I1.kIn, ?_⟩) hpl
  rw [hks]
  obtain ⟨hp, g, dr, tk, os⟩ := s1
  have le : hp.objs.size ≤ hp.objs.size + 1 := Nat.le_succ _
  have hn : H1 (hp.objs.size + 1) = none := I1.hok.fresh le
  have hq := q1 (hp.objs.size + 1) hn
  have at_ : ((hp.push (PySem.W.kdv_tup [])).push (excO C hp.objs.size)).get? (hp.objs.size + 1) = some (excO C hp.objs.size) := by heap_get
  have I2 := I1.laid (t' := tk) (a := hp.objs.size + 1) (o := exo (hp.objs.size + 1) C none) (h' := (hp.push (PySem.W.kdv_tup [])).push (excO C hp.objs.size))
    (fun b o e => Heap.get?_push_of_some _ (Heap.get?_push_of_some _ e)) le (exo_ok at_)
  have r2 : Vals (V.ref (hp.objs.size + 1) :: vs) (Value.ref (hp.objs.size + 1) :: ws) := .cons rfl r1
  have len : ws.length + 1 = ps.length := by
    have e := r2.length
    rw [F1.len _ _ _ _ hq] at e
    exact e.symm
  refine wpAny_call (kw_call PySem.F.excBase_ValueError (fun Y => refsVE_contains Y bm hbm) (I1.kIn _ _ hC) (Nat.zero_le _) (PySem.W.looks_findIn I1.kIn iC) (fun self => PySem.W.bind_fn I1.kIn self tI)
    (codeAny_mono (F1.run _ X.stack _ _ ⟨[Value.ref (hp.objs.size + 1)], ks.zip ws⟩ (Value.ref (hp.objs.size + 1) :: ws) _ _ (fun _ _ _ => False) (hr.make C [] (ks.zip ws)) (I2.env0.make C [] (ks.zip ws))
      (hb _ _ ws I2.kIn len) r2 hq) fun r s' hq' => ?_))
  cases r with
  | error er => exact hx pins σ _ _ er s' I2 hq'
  | ok fl =>
    cases fl with
    | ret u =>
      obtain ⟨v, H2, J, rv, rfl, q2⟩ := I2.after hq'
      exact ⟨rv, .ref (hp.objs.size + 1), H2, J, rfl, q2⟩
    | next => exact hq'.elim
    | brk => exact hq'.elim
    | cont => exact hq'.elim
end
end VI


set_option Elab.async false
set_option linter.all false
set_option maxRecDepth 100000
set_option maxHeartbeats 4000000
namespace VI
open PySem PySem.Spec PyProof.Rows L2

/-! ### is this text that tree? -/
def visB (sc : Scope) (x : Str) : Bool := match sc.names.lookup x with
  | some .local => true
  | some .cell => true
  | some .free => true
  | _ => false
def locB (sc : Scope) (x : Str) : Bool := match sc.names.lookup x with
  | some .local => true
  | _ => false
def glB (sc : Scope) (x : Str) : Bool := match sc.names.lookup x with
  | some .globalImplicit => true
  | _ => false
def dunB (x : Str) : Bool := (!(x == ("__debug__" : Str))) && !(x == ("__classdict__" : Str))
theorem visB_ok {sc : Scope} {x : Str} (h : visB sc x = true) : Vis sc x := by
  unfold visB at h
  split at h
  · rename_i e; exact .inl e
  · rename_i e; exact .inr (.inl e)
  · rename_i e; exact .inr (.inr e)
  · cases h
theorem locB_ok {sc : Scope} {x : Str} (h : locB sc x = true) : sc.names.lookup x = some .local := by
  unfold locB at h
  split at h
  · assumption
  · cases h
theorem glB_ok {sc : Scope} {x : Str} (h : glB sc x = true) : sc.names.lookup x = some .globalImplicit := by
  unfold glB at h
  split at h
  · assumption
  · cases h
theorem dunB_ok {x : Str} (h : dunB x = true) : (x == ("__debug__" : Str)) = false ∧ (x == ("__classdict__" : Str)) = false := by
  unfold dunB at h
  simpa using h
theorem b2 {a b : Bool} (h : (a && b) = true) : a = true ∧ b = true := Bool.and_eq_true_iff.mp h
/-- no star, no comprehension, no set -/
def plainB : Expr → Bool
  | .Name _ _ => true
  | .Constant _ _ _ => true
  | .BinOp _ _ _ _ => true
  | .Compare _ _ _ _ => true
  | .BoolOp _ _ _ => true
  | .UnaryOp _ _ _ => true
  | .IfExp _ _ _ _ => true
  | .Tuple _ _ _ => true
  | .List _ _ => true
  | .Subscript _ _ _ => true
  | .Call _ _ _ _ => true
  | .Attribute _ _ _ => true
  | _ => false
/-- ListComp too -/
def argB : Expr → Bool
  | .ListComp _ _ _ _ => true
  | e => plainB e
def baseB : Expr → Bool
  | .Call (.Name _ _) [] [] _ => false
  | e => plainB e
def tstB : Expr → Bool
  | .IfExp _ _ _ _ => false
  | _ => true
theorem star_ok {e : Expr} {es : List Expr} {env : Env} (h : argB e = true) : starEach (e :: es) env = (false, eval e env) :: starEach es env := by
  cases e <;> first | rfl | cases h
theorem base_ok {e : Expr} {f : Str} {env : Env} (h : baseB e = true) : attributeBase e f env (eval e env) = eval e env := by
  cases e <;> first | rfl | cases h | skip
  rename_i f' args kws pos
  cases f' <;> first | rfl | skip
  cases args <;> cases kws <;> first | rfl | cases h
theorem plain_arg {e : Expr} (h : plainB e = true) : argB e = true := by
  cases e <;> first | rfl | cases h
theorem base_arg {e : Expr} (h : baseB e = true) : argB e = true := by
  cases e <;> first | rfl | cases h
theorem ixp_ok {e : Expr} (h : argB e = true) : PlainIx e := by
  intro o i
  cases e <;> first | rfl | cases h
theorem fold_ok {e : Expr} {env : Env} (h : argB e = true) : ∀ x, foldedSetIterable e env x = pure x := by
  intro x
  cases e <;> first | rfl | cases h
theorem swp_ok {e : Expr} {t : Option Expr} {l : Nat} {env : Env} (h : plainB e = true) : swapsWith e t l env = pure false := by
  cases e <;> first | rfl | cases h
/-- no star among them -/
def argsB : List Expr → Bool
  | [] => true
  | e :: es => argB e && argsB es
theorem stars_ok : ∀ {es : List Expr} {env : Env} {pos : Pos}, argsB es = true → (backTo pos (starEach es env)).any (·.1) = false
  | [], _, _, _ => rfl
  | e :: es, env, pos, h => by
    obtain ⟨h1, h2⟩ := b2 h
    rw [star_ok h1]
    show (false || (backTo pos (starEach es env)).any (·.1)) = false
    rw [stars_ok h2] <;> rfl
theorem stars_all : ∀ {es : List Expr} {env : Env} {pos : Pos}, argsB es = true → (backTo pos (starEach es env)).all (fun x => !x.1) = true
  | [], _, _, _ => rfl
  | e :: es, env, pos, h => by
    obtain ⟨h1, h2⟩ := b2 h
    rw [star_ok h1]
    show (true && (backTo pos (starEach es env)).all (fun x => !x.1)) = true
    rw [stars_all h2] <;> rfl
/-- the program's names -/
structure Nm where
  fn : Nat → Option Str
  cn : Nat → Option Str
  fl : List Str
  hi : Nat → Bool
  kw : Nat → Option (List Str) := fun _ => none
def opB : Operator → Operator → Bool
  | .Add, .Add => true | .Sub, .Sub => true | .Mult, .Mult => true | .FloorDiv, .FloorDiv => true | .Mod, .Mod => true | .Pow, .Pow => true
  | _, _ => false
def cpB : CmpOp → CmpOp → Bool
  | .Eq, .Eq => true | .NotEq, .NotEq => true | .Lt, .Lt => true | .LtE, .LtE => true | .Gt, .Gt => true | .GtE, .GtE => true | .Is, .Is => true | .IsNot, .IsNot => true
  | _, _ => false
theorem opB_ok {a b : Operator} (h : opB a b = true) : a = b := by
  cases a <;> cases b <;> first | rfl | cases h
theorem cpB_ok {a b : CmpOp} (h : cpB a b = true) : a = b ∧ a ≠ .In ∧ a ≠ .NotIn := by
  cases a <;> cases b <;> first | exact ⟨rfl, by decide, by decide⟩ | cases h
def idxB (N : List Str) (i : Nat) (x : Str) : Bool := decide (N[i]? = some x)
def tyNames : List String := ["list", "tuple", "bool", "str", "int", "ValueError"]
def clB (nm : Nm) (sc : Scope) : Cl → Expr → Bool
  | .ty n, .Name s _ => decide (n ∈ tyNames) && decide (s = Str.ofString n) && glB sc s
  | .own c, .Name s _ => decide (nm.cn c = some s) && glB sc s && dunB s
  | _, _ => false
def clsB (nm : Nm) (sc : Scope) : List Cl → List Expr → Bool
  | [], [] => true
  | c :: cs, e :: es => clB nm sc c e && clsB nm sc cs es
  | _, _ => false
/-- the target's names with their slots -/
def ownB (N : List Str) : List Nat → List Expr → Bool
  | [], [] => true
  | i :: is, .Name s _ :: es => idxB N i s && ownB N is es
  | _, _ => false
def tgXs : Tg → Expr → List Expr
  | .nm _, e => [e]
  | .tp _, .Tuple es _ _ => es
  | .tp _, _ => []
def nmsOf : List Expr → List Str
  | .Name s _ :: es => s :: nmsOf es
  | _ => []
/-- a target; each name may be stored to: fnc tells where the frame's cells are new -/
def stoB (fnc : Option Scope) (sc : Scope) (s : Str) : Bool := match sc.names.lookup s with
  | some .local => true
  | some .cell => match fnc with
    | none => true
    | some scope => (scope.names.lookup s == some NameKind.cell)
  | _ => false
def tgB (N : List Str) (fnc : Option Scope) (sc : Scope) : Tg → Expr → Bool
  | .nm i, .Name s _ => idxB N i s && stoB fnc sc s
  | .tp is, .Tuple es _ _ => ownB N is es && (nmsOf es).all (stoB fnc sc) && decide (1 ≤ is.length)
  | _, _ => false
mutual
def mB (nm : Nm) (N : List Str) : E → Scope → Expr → Bool
  | .var i, sc, x => match x with
    | .Name s _ => idxB N i s && visB sc s && dunB s
    | _ => false
  | .int i, _, x => match x with
    | .Constant (.int j) _ _ => decide (i = j)
    | _ => false
  | .str z, _, x => match x with
    | .Constant (.str y) _ _ => decide (z = y)
    | _ => false
  | .bl b, _, x => match x with
    | .Constant (.bool c) _ _ => b == c
    | _ => false
  | .non, _, x => match x with
    | .Constant .none _ _ => true
    | _ => false
  | .nop, _, _ => false
  | .bin o a b, sc, x => match x with
    | .BinOp xa o' xb _ => opB o o' && mB nm N a sc xa && mB nm N b sc xb
    | _ => false
  | .cmp o a b, sc, x => match x with
    | .Compare xa [o'] [xb] _ => cpB o o' && mB nm N a sc xa && mB nm N b sc xb
    | _ => false
  | .and a b, sc, x => match x with
    | .BoolOp .And [xa, xb] _ => mB nm N a sc xa && tstB xa && mB nm N b sc xb && tstB xb
    | .BoolOp .And (xa :: xb :: xc :: r) p => mB nm N a sc xa && tstB xa && mB nm N b sc (.BoolOp .And (xb :: xc :: r) p)
    | _ => false
  | .or a b, sc, x => match x with
    | .BoolOp .Or [xa, xb] _ => mB nm N a sc xa && tstB xa && mB nm N b sc xb && tstB xb
    | .BoolOp .Or (xa :: xb :: xc :: r) p => mB nm N a sc xa && tstB xa && mB nm N b sc (.BoolOp .Or (xb :: xc :: r) p)
    | _ => false
  | .not a, sc, x => match x with
    | .UnaryOp .Not xa _ => mB nm N a sc xa && tstB xa
    | _ => false
  | .neg a, sc, x => match x with
    | .UnaryOp .USub xa _ => mB nm N a sc xa
    | _ => false
  | .ite c a b, sc, x => match x with
    | .IfExp xc xa xb _ => mB nm N c sc xc && tstB xc && mB nm N a sc xa && mB nm N b sc xb
    | _ => false
  | .tup es, sc, x => match x with
    | .Tuple xs _ _ => mBs nm N es sc xs
    | _ => false
  | .lst es, sc, x => match x with
    | .List xs _ => mBs nm N es sc xs
    | _ => false
  | .sub a i, sc, x => match x with
    | .Subscript xa xi _ => mB nm N a sc xa && mB nm N i sc xi
    | _ => false
  | .sl a lo hi, sc, x => match x with
    | .Subscript xa (.Slice l h none _) _ => mB nm N a sc xa && mBo nm N lo sc l && mBo nm N hi sc h
    | _ => false
  | .call f es, sc, x => match x with
    | .Call (.Name s _) (y :: ys) [] _ => decide (nm.fn f = some s) && glB sc s && dunB s && mBs nm N es sc (y :: ys)
    | _ => false
  | .bi b es, sc, x => match x with
    | .Call (.Name s _) (y :: ys) [] _ => decide (s = biNm b) && glB sc s && mBs nm N es sc (y :: ys)
    | _ => false
  | .isi a cs many, sc, x => match x with
    | .Call (.Name s _) [xa, xc] [] _ => decide (s = ("isinstance" : Str)) && glB sc s && mB nm N a sc xa && (match many with
      | true => (match xc with
        | .Tuple xcs _ _ => clsB nm sc cs xcs && decide (cs.length ≤ 20)
        | _ => false)
      | false => (match cs with
        | [c] => clB nm sc c xc
        | _ => false))
    | _ => false
  | .mt b o es, sc, x => match x with
    | .Call (.Attribute xo f ap) (y :: ys) [] cp => mB nm N o sc xo && baseB xo && mBs nm N es sc (y :: ys) && (ap.endLine == cp.line) && decide (ys.length < 20) && (match b with
      | .append => decide (f = ("append" : Str))
      | .pop => decide (f = ("pop" : Str)))
    | _ => false
  | .join o e, sc, x => match x with
    | .Call (.Attribute xo f ap) [y] [] cp => mB nm N o sc xo && baseB xo && mB nm N e sc y && argB y && (ap.endLine == cp.line) && decide (f = ("join" : Str))
    | _ => false
  | .mk c es, sc, x => match x with
    | .Call (.Name s _) (y :: ys) [] _ => decide (nm.cn c = some s) && nm.hi c && glB sc s && dunB s && mBs nm N es sc (y :: ys)
    | .Call (.Name s _) [] [] _ => decide (nm.cn c = some s) && (!nm.hi c) && glB sc s && dunB s && (match es with
      | .nil => true
      | _ => false)
    | _ => false
  | .mkK c es, sc, x => match x with
    | .Call (.Name s _) [] kws _ => decide (nm.cn c = some s) && nm.hi c && glB sc s && dunB s && (match nm.kw c with
      | some ks => mKs nm N es sc ks kws
      | none => false)
    | _ => false
  | .fld o f, sc, x => match x with
    | .Attribute xo f' _ => mB nm N o sc xo && baseB xo && decide (f = f') && decide (f ∈ nm.fl)
    | _ => false
  | .lc elt t it, sc, x => match x with
    | .ListComp xe [⟨xt, xi, [], 0⟩] scope _ => mIt nm N it sc xt xi && tgB N (some scope) (relS scope sc) t xt && blkC N sc scope ((nmsOf (tgXs t xt)).zip t.own) && decide (((nmsOf (tgXs t xt)).zip t.own).map (·.2) = t.own) && mB nm N elt (relS scope sc) xe
    | _ => false
def mBo (nm : Nm) (N : List Str) : E → Scope → Option Expr → Bool
  | .nop, _, x => match x with
    | none => true
    | _ => false
  | .int i, _, x => match x with
    | some (.Constant (.int j) _ _) => decide (i = j)
    | _ => false
  | .var i, sc, x => match x with
    | some (.Name s _) => idxB N i s && visB sc s && dunB s
    | _ => false
  | .bin o a b, sc, x => match x with
    | some (.BinOp xa o' xb _) => opB o o' && mB nm N a sc xa && mB nm N b sc xb
    | _ => false
  | _, _, _ => false
def mBs (nm : Nm) (N : List Str) : Es → Scope → List Expr → Bool
  | .nil, _, xs => match xs with
    | [] => true
    | _ => false
  | .cons e es, sc, xs => match xs with
    | x :: r => mB nm N e sc x && argB x && mBs nm N es sc r
    | _ => false
def mKs (nm : Nm) (N : List Str) : Es → Scope → List Str → List Keyword → Bool
  | .nil, _, ks, kws => match ks, kws with
    | [], [] => true
    | _, _ => false
  | .cons e es, sc, ks, kws => match ks, kws with
    | k :: ks, ⟨some n, v, _⟩ :: r => decide (k = n) && mB nm N e sc v && mKs nm N es sc ks r
    | _, _ => false
def mIt (nm : Nm) (N : List Str) : It → Scope → Expr → Expr → Bool
  | .rng a, sc, _, x => match x with
    | .Call (.Name s _) [xa] [] _ => decide (s = ("range" : Str)) && glB sc s && mB nm N a sc xa && argB xa
    | _ => false
  | .seq a, sc, _, x => mB nm N a sc x && argB x
  | .tup a, sc, _, x => mB nm N a sc x && argB x
  | .enum a, sc, t, x => match x, t with
    | .Call (.Name s _) [xa] [] _, .Tuple _ _ _ => decide (s = ("enumerate" : Str)) && glB sc s && mB nm N a sc xa && argB xa
    | _, _ => false
  | .zip a b, sc, t, x => match x, t with
    | .Call (.Name s _) [xa, xb] [] _, .Tuple _ _ _ => decide (s = ("zip" : Str)) && glB sc s && mB nm N a sc xa && argB xa && mB nm N b sc xb && argB xb
    | _, _ => false
end
theorem mBs_args {nm : Nm} {N : List Str} : ∀ {es : Es} {sc : Scope} {xs : List Expr}, mBs nm N es sc xs = true → argsB xs = true
  | .nil, sc, xs, h => by
    unfold mBs at h
    split at h
    · rfl
    · cases h
  | .cons e es, sc, xs, h => by
    unfold mBs at h
    split at h
    · obtain ⟨h1, h2⟩ := b2 h
      obtain ⟨h3, h4⟩ := b2 h1
      show (_ && _) = true
      rw [h4, mBs_args h2] <;> rfl
    · cases h
theorem mKs_kw {nm : Nm} {N : List Str} {env : Env} {pos : Pos} : ∀ {es : Es} {sc : Scope} {ks : List Str} {kws : List Keyword}, mKs nm N es sc ks kws = true →
    (backToKw pos (keywordEach kws env)).all (·.1.isSome) = true ∧ (backToKw pos (keywordEach kws env)).filterMap (·.1) = ks ∧ (backToKw pos (keywordEach kws env)).any (·.1.isNone) = false
  | .nil, sc, ks, kws, h => by
    unfold mKs at h
    split at h
    · exact ⟨rfl, rfl, rfl⟩
    · cases h
  | .cons e es, sc, ks, kws, h => by
    unfold mKs at h
    split at h
    · rename_i k ks n v p r
      obtain ⟨h1, h2⟩ := b2 h
      obtain ⟨h3, _⟩ := b2 h1
      obtain ⟨q1, q2, q3⟩ := mKs_kw (env := env) (pos := pos) h2
      have e1 := of_decide_eq_true h3
      refine ⟨q1, ?_, q3⟩
      show n :: (backToKw pos (keywordEach r env)).filterMap (·.1) = k :: ks
      rw [q2, e1]
    · cases h
end VI


set_option Elab.async false
set_option linter.all false
set_option maxRecDepth 100000
set_option maxHeartbeats 4000000
namespace VI
open PySem PySem.Spec PyProof.Rows L2

/-! ### what a def promises, what is known around a body -/
def spF (P : Pg) (K : PySem.W.Frag) (cl : Nat → Addr) (k f : Nat) : Sp := fun vs H Q E => ∃ ι m xs d, P.fs[f]? = some d ∧ vs.length = d.ps ∧ RVs ι xs vs ∧ RS K cl ι m H ∧ Post K cl RV E ι Q (callF P k f xs m)
structure FX (P : Pg) (nm : Nm) (cl : Nat → Addr) (k : Nat) (X : Cx) : Prop where
  calm : X.calm = true
  nd : X.N.Nodup
  room : Room (2 * k + 2) X.A
  blt : ∀ b, X.mg (biNm b) = none
  rng : X.mg "range" = none
  enu : X.mg "enumerate" = none
  zip : X.mg "zip" = none
  isi : X.mg "isinstance" = none
  ty : ∀ n ∈ tyNames, X.mg (Str.ofString n) = none
  fns : ∀ f s, nm.fn f = some s → ∃ a fd ps, X.mg s = some (.ref a) ∧ PySem.W.keepIn X.K (.ref a) = true ∧ Binds X.K fd ps [] ∧ FnOk X.prog X.w X.K X.mg X.base (L2.CX X.prog X.w) (2 * k + 1) a fd ps (spF P X.K cl k f)
  mgc : ∀ c s, nm.cn c = some s → X.mg s = some (.ref (cl c))
  exf : ∀ c, ExF X.K (cl c)
  fno : ∀ c f, f ∈ nm.fl → PySem.W.findIn X.K (.ref (cl c)) f = some none
  hiT : ∀ c, nm.hi c = true → P.ini c ≠ none
  hiF : ∀ c, nm.hi c = false → P.ini c = none
  ini : ∀ c s f, nm.cn c = some s → P.ini c = some f → ∃ a fd ps, PySem.W.findIn X.K (.ref (cl c)) "__init__" = some (some (.ref a)) ∧ PySem.W.typeIn X.K (.ref a) = some (.type "function") ∧ Binds X.K fd ps [] ∧
    FnOk X.prog X.w X.K X.mg X.base (L2.CX X.prog X.w) (2 * k + 1) a fd ps (spF P X.K cl k f) ∧ ∀ ks, nm.kw c = some ks → KwTo X.K fd ps ks
  ini0 : ∀ c s, nm.cn c = some s → P.ini c = none → PySem.W.excIn X.K (cl c) He.veBase "ValueError.__new__" = true ∧ PySem.W.keepIn X.K (.ref (cl c)) = true
  sub : ∀ c d b, P.sub c d = some b → PySem.W.kitOne X.K (.ref (cl c)) (.ref (cl d)) = some b
  subT : ∀ c n b, P.subT c n = some b → PySem.W.kitOne X.K (.ref (cl c)) (.type n) = some b
  subB : ∀ n d b, P.subB n d = some b → PySem.W.kitOne X.K (.type n) (.ref (cl d)) = some b

def tG (K : PySem.W.Frag) (cl : Nat → Addr) {α β : Type} (R : List Addr → α → β → Prop) (W : WX) (ev : SL → M → Rs α) : L2.St → Hp → (β → Hp → Prop) → Prop := fun σ H Q =>
  ∃ ι m s, RSl ι s σ ∧ RS K cl ι m H ∧ Post K cl R (fun c d H => W c d σ H) ι Q (ev s m)
abbrev RB : List Addr → Bool → Bool → Prop := fun _ b c => c = b
abbrev RI : List Addr → Option Int → Option Int → Prop := fun _ b c => c = b
def evT (G : Cfg) (e : E) (s : SL) (m : M) : Rs Bool := (evE G e s m).bind fun x m1 => match truV m1 x with
  | some b => .ok b m1
  | none => .no
theorem _root_.L2.PE.imp {X : Cx} {x : Expr} {t t' : TE} (p : PE X x t) (f : ∀ σ H Q, t' σ H Q → t σ H Q) : PE X x t' := ⟨fun pins s σ H Q I h => p.run pins s σ H Q I (f _ _ _ h)⟩
theorem _root_.L2.PT.imp {X : Cx} {x : Expr} {t t' : TT} (p : PT X x t) (f : ∀ σ H Q, t' σ H Q → t σ H Q) : PT X x t' := ⟨fun pins s σ H Q I h => p.run pins s σ H Q I (f _ _ _ h)⟩
theorem _root_.L2.PW.imp {X : Cx} {x : Expr} {t t' : TT} (p : PW X x t) (f : ∀ σ H Q, t' σ H Q → t σ H Q) : PW X x t' := ⟨fun wh pins s σ H Q I h => p.run wh pins s σ H Q I (f _ _ _ h)⟩
theorem _root_.L2.PA.imp {X : Cx} {x : List Expr} {t t' : TA} (p : PA X x t) (f : ∀ σ H Q, t' σ H Q → t σ H Q) : PA X x t' := ⟨fun pos pins s σ H Q I h => p.run pos pins s σ H Q I (f _ _ _ h)⟩
theorem _root_.L2.PO.imp {X : Cx} {x : Option Expr} {t t' : TO} (p : PO X x t) (f : ∀ σ H Q, t' σ H Q → t σ H Q) : PO X x t' := ⟨fun pins s σ H Q I h => p.run pins s σ H Q I (f _ _ _ h)⟩
theorem _root_.L2.PI.imp {X : Cx} {tg x : Expr} {t t' : TI} (p : PI X tg x t) (f : ∀ σ H Q, t' σ H Q → t σ H Q) : PI X tg x t' := ⟨fun pins s σ H Q I h => p.run pins s σ H Q I (f _ _ _ h)⟩
section
variable (P : Pg) (nm : Nm) (cl : Nat → Addr) (k : Nat)
abbrev GG : Cfg := P.cfg (callF P k)
def SE (e : E) : Prop := ∀ (X : Cx) (W : WX) (x : Expr), FX P nm cl k X → Takes X W → mB nm X.N e X.env.scope x = true → PE X x (tG X.K cl RV W (evE (GG P k) e))
/-- as a test -/
def ST (e : E) : Prop := ∀ (X : Cx) (W : WX) (x : Expr), FX P nm cl k X → Takes X W → mB nm X.N e X.env.scope x = true → tstB x = true →
  PT X x (tG X.K cl RB W (evT (GG P k) e)) ∧ ((∃ op vs p, x = .BoolOp op vs p) → PW X x (tG X.K cl RB W (evT (GG P k) e)))
def SO (e : E) : Prop := ∀ (X : Cx) (W : WX) (x : Option Expr), FX P nm cl k X → Takes X W → mBo nm X.N e X.env.scope x = true → PO X x (tG X.K cl RI W (evO (GG P k) e))
def SEs (es : Es) : Prop := ∀ (X : Cx) (W : WX) (xs : List Expr), FX P nm cl k X → Takes X W → mBs nm X.N es X.env.scope xs = true → PA X xs (tG X.K cl RVs W (evEs (GG P k) es))
end
section
variable {P : Pg} {nm : Nm} {cl : Nat → Addr} {k : Nat} {a b c i : E} {es : Es}

/-- a value whose truth is asked by itself -/
theorem st_plain {X : Cx} {W : WX} {x : Expr} {e : E} (p : PE X x (tG X.K cl RV W (evE (GG P k) e))) (he : ∀ whole, isTrue x X.env whole = (do let v ← whole; standAt x.pos; holding [v] (truthy v))) :
    PT X x (tG X.K cl RB W (evT (GG P k) e)) := (pt_truth p he).imp fun σ H Q ⟨ι, m, s, hs, hm, hp⟩ => ⟨ι, m, s, hs, hm, (Post.bind hp).imp fun w H1 ⟨ι1, v, m1, le, rv, rs, _, h1⟩ => by
  revert h1
  cases e : truV m1 v with
  | none => intro h1; exact h1.elim
  | some b => intro h1; exact ⟨b, truV_ok e rv rs, Post.here h1 rfl rs⟩⟩

theorem sE_var : SE P nm cl k (.var i0) := by
  intro X W x F tk h
  simp only [mB] at h
  split at h
  · obtain ⟨h1, h2⟩ := b2 h
    obtain ⟨h3, h4⟩ := b2 h1
    obtain ⟨d1, d2⟩ := dunB_ok h2
    refine (pe_var (of_decide_eq_true h3) (visB_ok h4) d1 d2).imp fun σ H Q ⟨ι, m, s, hs, hm, hp⟩ => ?_
    simp only [evE] at hp
    split at hp
    · rename_i v e
      obtain ⟨w, e2, r⟩ := hs.2 _ _ e
      exact ⟨w, e2, Post.here hp r hm⟩
    · exact hp.elim
  · cases h
theorem sE_const {e : E} {x : Expr} {v : V} {u : MV} {X : Cx} {W : WX} (p : PE X x (tC v)) (ev : ∀ s m, evE (GG P k) e s m = .ok u m) (r : ∀ ι, RV ι u v) : PE X x (tG X.K cl RV W (evE (GG P k) e)) :=
  p.imp fun σ H Q ⟨ι, m, s, hs, hm, hp⟩ => by
    rw [ev] at hp
    exact Post.here hp (r ι) hm
theorem sE_int {j : Int} : SE P nm cl k (.int j) := by
  intro X W x F tk h
  simp only [mB] at h
  split at h
  · have e := of_decide_eq_true h
    subst e
    exact sE_const (u := .int j) pe_int (fun s m => by simp only [evE]) (fun _ => rfl)
  · cases h
theorem sE_str {z : Str} : SE P nm cl k (.str z) := by
  intro X W x F tk h
  simp only [mB] at h
  split at h
  · have e := of_decide_eq_true h
    subst e
    exact sE_const (u := .str z) pe_str (fun s m => by simp only [evE]) (fun _ => rfl)
  · cases h
theorem sE_bl {z : Bool} : SE P nm cl k (.bl z) := by
  intro X W x F tk h
  simp only [mB] at h
  split at h
  · have e := eq_of_beq h
    subst e
    exact sE_const (u := .bl z) pe_bl (fun s m => by simp only [evE]) (fun _ => rfl)
  · cases h
theorem sE_non : SE P nm cl k .non := by
  intro X W x F tk h
  simp only [mB] at h
  split at h
  · exact sE_const (u := .non) pe_non (fun s m => by simp only [evE]) (fun _ => rfl)
  · cases h
theorem sE_nop : SE P nm cl k .nop := by
  intro X W x F tk h
  simp only [mB] at h
  cases h
theorem sE_bin {o : Operator} (ha : SE P nm cl k a) (hb : SE P nm cl k b) : SE P nm cl k (.bin o a b) := by
  intro X W x F tk h
  simp only [mB] at h
  split at h
  · obtain ⟨h1, h2⟩ := b2 h
    obtain ⟨h3, h4⟩ := b2 h1
    have e := opB_ok h3
    subst e
    refine (pe_op (rOp_ok o) (ha X W _ F tk h4) (hb X W _ F tk h2)).imp fun σ H Q ⟨ι, m, s, hs, hm, hp⟩ => ?_
    simp only [evE] at hp
    exact ⟨ι, m, s, hs, hm, (Post.bind hp).imp fun w H1 ⟨ι1, v, m1, le, rv, rs, _, h1⟩ => ⟨ι1, m1, s, hs.mono le, rs, (Post.bind h1).imp fun u H2 ⟨ι2, v2, m2, le2, rv2, rs2, _, h2⟩ => opV_ok h2 (rv.mono le2) rv2 rs2⟩⟩
  · cases h
/-- a comparison answers by a bool -/
theorem cmp_bl {o : CmpOp} {x y v : MV} {m m' : M} (h : cmpV o x y m = .ok v m') : ∃ b, v = .bl b := by
  unfold cmpV at h
  repeat' split at h
  all_goals (cases h <;> exact ⟨_, rfl⟩)
theorem cmp_core {o : CmpOp} {X : Cx} {W : WX} {xa xb : Expr} {p : Pos} (F : FX P nm cl k X) (tk : Takes X W) (ha : PE X xa (tG X.K cl RV W (evE (GG P k) a))) (hb : PE X xb (tG X.K cl RV W (evE (GG P k) b))) (n1 : o ≠ .In) (n2 : o ≠ .NotIn) :
    PE X (.Compare xa [o] [xb] p) (tG X.K cl RV W (evE (GG P k) (.cmp o a b))) ∧ PT X (.Compare xa [o] [xb] p) (tG X.K cl RB W (evT (GG P k) (.cmp o a b))) := by
  refine ⟨(pe_cmpR (rCp_ok o) ha hb (nobehind _ n1 n2)).imp fun σ H Q ⟨ι, m, s, hs, hm, hp⟩ => ?_, (pt_cmpR (rCp_ok o) ha hb (nobehind _ n1 n2)).imp fun σ H Q ⟨ι, m, s, hs, hm, hp⟩ => ?_⟩
  · simp only [evE] at hp
    exact ⟨ι, m, s, hs, hm, (Post.bind hp).imp fun w H1 ⟨ι1, v, m1, le, rv, rs, _, h1⟩ => ⟨ι1, m1, s, hs.mono le, rs, (Post.bind h1).imp fun u H2 ⟨ι2, v2, m2, le2, rv2, rs2, _, h2⟩ => cmpV_ok h2 (rv.mono le2) rv2 rs2⟩⟩
  · have hp2 := Post.bind (R := RV) hp
    simp only [evE] at hp2
    refine ⟨ι, m, s, hs, hm, (Post.bind hp2).imp fun w H1 ⟨ι1, v, m1, le, rv, rs, e1, h1⟩ => ⟨ι1, m1, s, hs.mono le, rs, (Post.bind h1).imp fun u H2 ⟨ι2, v2, m2, le2, rv2, rs2, e2, h2⟩ => ?_⟩⟩
    have h3 : Post X.K cl RV (fun c d H => W c d σ H) ι2 (fun x H' => ∃ k, x = .bl k ∧ Q k H') (cmpV o v v2 m2) := by
      cases ec : cmpV o v v2 m2 with
      | ok z m3 =>
        rw [ec] at h2
        intro ι3 w3 H3 l3 r3 s3
        obtain ⟨ι4, v4, m4, l4, r4, s4, e4, h4⟩ := h2 ι3 w3 H3 l3 r3 s3
        obtain ⟨bb, rfl⟩ := cmp_bl ec
        rw [e1] at e4
        simp only [Rs.bind] at e4
        rw [e2] at e4
        simp only [Rs.bind] at e4
        rw [ec] at e4
        cases e4
        cases r3
        exact ⟨bb, rfl, Post.here h4 rfl s4⟩
      | ex c d m3 => rw [ec] at h2; exact h2
      | no => rw [ec] at h2; exact h2
    exact cmpV_ok h3 (rv.mono le2) rv2 rs2
theorem sE_cmp {o : CmpOp} (ha : SE P nm cl k a) (hb : SE P nm cl k b) : SE P nm cl k (.cmp o a b) := by
  intro X W x F tk h
  simp only [mB] at h
  split at h
  · obtain ⟨h1, h2⟩ := b2 h
    obtain ⟨h3, h4⟩ := b2 h1
    obtain ⟨e, n1, n2⟩ := cpB_ok h3
    subst e
    exact (cmp_core F tk (ha X W _ F tk h4) (hb X W _ F tk h2) n1 n2).1
  · cases h
theorem sT_cmp {o : CmpOp} (ha : SE P nm cl k a) (hb : SE P nm cl k b) : ST P nm cl k (.cmp o a b) := by
  intro X W x F tk h _
  simp only [mB] at h
  split at h
  · obtain ⟨h1, h2⟩ := b2 h
    obtain ⟨h3, h4⟩ := b2 h1
    obtain ⟨e, n1, n2⟩ := cpB_ok h3
    subst e
    exact ⟨(cmp_core F tk (ha X W _ F tk h4) (hb X W _ F tk h2) n1 n2).2, fun ⟨_, _, _, e⟩ => by cases e⟩
  · cases h
theorem sE_sub (ha : SE P nm cl k a) (hi : SE P nm cl k i) (hx : ∀ N sc x, mB nm N i sc x = true → argB x = true) : SE P nm cl k (.sub a i) := by
  intro X W x F tk h
  simp only [mB] at h
  split at h
  · obtain ⟨h1, h2⟩ := b2 h
    refine (pe_ix ix_seq (ha X W _ F tk h1) (hi X W _ F tk h2) (ixp_ok (hx _ _ _ h2))).imp fun σ H Q ⟨ι, m, s, hs, hm, hp⟩ => ?_
    simp only [evE] at hp
    exact ⟨ι, m, s, hs, hm, (Post.bind hp).imp fun w H1 ⟨ι1, v, m1, le, rv, rs, _, h1⟩ => ⟨ι1, m1, s, hs.mono le, rs, (Post.bind h1).imp fun u H2 ⟨ι2, v2, m2, le2, rv2, rs2, _, h2⟩ => subV_ok h2 (rv.mono le2) rv2 rs2⟩⟩
  · cases h
theorem sE_sl {lo hi : E} (ha : SE P nm cl k a) (hl : SO P nm cl k lo) (hh : SO P nm cl k hi) : SE P nm cl k (.sl a lo hi) := by
  intro X W x F tk h
  simp only [mB] at h
  split at h
  · obtain ⟨h1, h2⟩ := b2 h
    obtain ⟨h3, h4⟩ := b2 h1
    refine (pe_slice sl_list (ha X W _ F tk h3) (hl X W _ F tk h4) (hh X W _ F tk h2)).imp fun σ H Q ⟨ι, m, s, hs, hm, hp⟩ => ?_
    simp only [evE] at hp
    exact ⟨ι, m, s, hs, hm, (Post.bind hp).imp fun w H1 ⟨ι1, v, m1, le, rv, rs, _, h1⟩ => ⟨ι1, m1, s, hs.mono le, rs, (Post.bind h1).imp fun l H2 ⟨ι2, v2, m2, le2, rv2, rs2, _, h2⟩ =>
      ⟨ι2, m2, s, (hs.mono le).mono le2, rs2, (Post.bind h2).imp fun l3 H3 ⟨ι3, v3, m3, le3, rv3, rs3, _, h3⟩ => by
        cases rv2; cases rv3
        exact slV_ok h3 ((rv.mono le2).mono le3) rs3⟩⟩⟩
  · cases h
theorem sE_not (ha : SE P nm cl k a) : SE P nm cl k (.not a) := by
  intro X W x F tk h
  simp only [mB] at h
  split at h
  · obtain ⟨h1, h2⟩ := b2 h
    refine (pe_not (ha X W _ F tk h1)).imp fun σ H Q ⟨ι, m, s, hs, hm, hp⟩ => ?_
    simp only [evE] at hp
    refine ⟨ι, m, s, hs, hm, (Post.bind hp).imp fun w H1 ⟨ι1, v, m1, le, rv, rs, _, h1⟩ => ?_⟩
    cases v <;> (try exact h1.elim)
    cases rv
    exact ⟨_, rfl, Post.here h1 rfl rs⟩
  · cases h
theorem sT_not (ha : ST P nm cl k a) : ST P nm cl k (.not a) := by
  intro X W x F tk h _
  simp only [mB] at h
  split at h
  · obtain ⟨h1, h2⟩ := b2 h
    refine ⟨(pt_not (ha X W _ F tk h1 h2).1).imp fun σ H Q ⟨ι, m, s, hs, hm, hp⟩ => ⟨ι, m, s, hs, hm, ?_⟩, fun ⟨_, _, _, e⟩ => by cases e⟩
    unfold evT at hp ⊢
    simp only [evE] at hp
    revert hp
    cases e : evE (GG P k) a s m with
    | ok v m1 =>
      intro hp
      cases v <;> (try exact hp.elim)
      simp only [Rs.bind, truV] at hp ⊢
      intro ι' w H' le r rs
      cases r
      exact hp ι' _ H' le rfl rs
    | ex c d m1 => exact fun hp => hp
    | no => exact fun hp => hp
  · cases h
theorem sE_neg (ha : SE P nm cl k a) : SE P nm cl k (.neg a) := by
  intro X W x F tk h
  simp only [mB] at h
  split at h
  · refine (pe_un un_neg (ha X W _ F tk h)).imp fun σ H Q ⟨ι, m, s, hs, hm, hp⟩ => ?_
    simp only [evE] at hp
    refine ⟨ι, m, s, hs, hm, (Post.bind hp).imp fun w H1 ⟨ι1, v, m1, le, rv, rs, _, h1⟩ => ?_⟩
    cases v <;> (try exact h1.elim)
    cases rv
    exact ⟨_, rfl, Post.here h1 rfl rs⟩
  · cases h
theorem sE_ite (hc : ST P nm cl k c) (ha : SE P nm cl k a) (hb : SE P nm cl k b) : SE P nm cl k (.ite c a b) := by
  intro X W x F tk h
  simp only [mB] at h
  split at h
  · obtain ⟨h1, h2⟩ := b2 h
    obtain ⟨h3, h4⟩ := b2 h1
    obtain ⟨h5, h6⟩ := b2 h3
    refine (pe_ifExp (hc X W _ F tk h5 h6).1 (ha X W _ F tk h4) (hb X W _ F tk h2)).imp fun σ H Q ⟨ι, m, s, hs, hm, hp⟩ => ?_
    simp only [evE] at hp
    refine ⟨ι, m, s, hs, hm, ?_⟩
    unfold evT
    revert hp
    cases e : evE (GG P k) c s m with
    | ok v m1 =>
      intro hp
      simp only [Rs.bind] at hp ⊢
      cases et : truV m1 v with
      | none => rw [et] at hp; exact hp.elim
      | some t =>
        rw [et] at hp
        intro ι' w H' le r rs
        cases r
        cases t with
        | true => exact ⟨ι', m1, s, hs.mono le, rs, Post.mono hp le⟩
        | false => exact ⟨ι', m1, s, hs.mono le, rs, Post.mono hp le⟩
    | ex c d m1 => exact fun hp => hp
    | no => exact fun hp => hp
  · cases h
theorem sEs_nil : SEs P nm cl k .nil := by
  intro X W xs F tk h
  simp only [mBs] at h
  split at h
  · refine pa_nil.imp fun σ H Q ⟨ι, m, s, hs, hm, hp⟩ => ?_
    simp only [evEs] at hp
    exact Post.here hp .nil hm
  · cases h
theorem sEs_cons (ha : SE P nm cl k a) (hs : SEs P nm cl k es) : SEs P nm cl k (.cons a es) := by
  intro X W xs F tk h
  simp only [mBs] at h
  split at h
  · obtain ⟨h1, h2⟩ := b2 h
    obtain ⟨h3, h4⟩ := b2 h1
    refine (pa_cons (ha X W _ F tk h3) (hs X W _ F tk h2) (star_ok h4)).imp fun σ H Q ⟨ι, m, s, hs, hm, hp⟩ => ?_
    simp only [evEs] at hp
    exact ⟨ι, m, s, hs, hm, (Post.bind hp).imp fun w H1 ⟨ι1, v, m1, le, rv, rs, _, h1⟩ => ⟨ι1, m1, s, hs.mono le, rs, (Post.bind h1).imp fun u H2 ⟨ι2, v2, m2, le2, rv2, rs2, _, h2⟩ => Post.here h2 (.cons (rv.mono le2) rv2) rs2⟩⟩
  · cases h
/-- a call's keywords, as many as the interpreter's parts -/
def SKs (P : Pg) (nm : Nm) (cl : Nat → Addr) (k : Nat) (es : Es) : Prop := ∀ (X : Cx) (W : WX) (ks : List Str) (kws : List Keyword), FX P nm cl k X → Takes X W → mKs nm X.N es X.env.scope ks kws = true → PK X kws (tG X.K cl RVs W (evEs (GG P k) es))
theorem _root_.L2.PK.imp {X : Cx} {x : List Keyword} {t t' : TA} (p : PK X x t) (f : ∀ σ H Q, t' σ H Q → t σ H Q) : PK X x t' := ⟨fun pos pins s σ H Q I h => p.run pos pins s σ H Q I (f _ _ _ h)⟩
theorem sKs_nil : SKs P nm cl k .nil := by
  intro X W ks kws F tk h
  simp only [mKs] at h
  split at h
  · refine pk_nil.imp fun σ H Q ⟨ι, m, s, hs, hm, hp⟩ => ?_
    simp only [evEs] at hp
    exact Post.here hp .nil hm
  · cases h
theorem sKs_cons (ha : SE P nm cl k a) (hs : SKs P nm cl k es) : SKs P nm cl k (.cons a es) := by
  intro X W ks kws F tk h
  simp only [mKs] at h
  split at h
  · obtain ⟨h1, h2⟩ := b2 h
    refine (pk_cons (ha X W _ F tk (b2 h1).2) (hs X W _ _ F tk h2)).imp fun σ H Q ⟨ι, m, s, hs, hm, hp⟩ => ?_
    simp only [evEs] at hp
    refine ⟨ι, m, s, hs, hm, (Post.bind hp).imp fun w H1 ⟨ι1, v, m1, le, rv, rs, _, h1⟩ => ?_⟩
    refine ⟨ι1, m1, s, hs.mono le, rs, (Post.bind h1).imp fun u H2 ⟨ι2, v2, m2, le2, rv2, rs2, _, h2⟩ => ?_⟩
    exact Post.here h2 (.cons (rv.mono le2) rv2) rs2
  · cases h
theorem sE_tup (hs : SEs P nm cl k es) : SE P nm cl k (.tup es) := by
  intro X W x F tk h
  simp only [mB] at h
  split at h
  · refine (pe_tup (hs X W _ F tk h)).imp fun σ H Q ⟨ι, m, s, hs, hm, hp⟩ => ?_
    simp only [evE] at hp
    refine ⟨ι, m, s, hs, hm, (Post.bind hp).imp fun w H1 ⟨ι1, v, m1, le, rv, rs, _, h1⟩ => ?_⟩
    split at h1
    · rename_i c
      exact ⟨by rw [← plen rv]; exact big_le c, fun p hp => Post.new h1 rs hp ⟨_, RVs.mono pre1 rv, upd_same⟩⟩
    · exact h1.elim
  · cases h
theorem sE_lst (hs : SEs P nm cl k es) : SE P nm cl k (.lst es) := by
  intro X W x F tk h
  simp only [mB] at h
  split at h
  · refine (pe_lst (hs X W _ F tk h)).imp fun σ H Q ⟨ι, m, s, hs, hm, hp⟩ => ?_
    simp only [evE] at hp
    refine ⟨ι, m, s, hs, hm, (Post.bind hp).imp fun w H1 ⟨ι1, v, m1, le, rv, rs, _, h1⟩ => ?_⟩
    split at h1
    · rename_i c
      exact ⟨by rw [← plen rv]; exact big_le c, fun p hp => Post.new h1 rs hp ⟨_, RVs.mono pre1 rv, upd_same⟩⟩
    · exact h1.elim
  · cases h
end
end VI


set_option Elab.async false
set_option linter.all false
set_option maxRecDepth 100000
set_option maxHeartbeats 4000000
namespace VI
open PySem PySem.Spec PyProof.Rows L2
section
variable {P : Pg} {nm : Nm} {cl : Nat → Addr} {k : Nat} {a b c i : E} {es : Es}
theorem callF_inv {K : PySem.W.Frag} {W : Wh} {ι : List Addr} {Q : VK} {f : Nat} {xs : List MV} {m : M} (h : Post K cl RV W ι Q (callF P k f xs m)) : ∃ d, P.fs[f]? = some d ∧ xs.length = d.ps := by
  cases k with
  | zero => exact h.elim
  | succ k =>
    simp only [callF] at h
    split at h
    · rename_i d e
      split at h
      · rename_i e2
        exact ⟨d, e, e2⟩
      · exact h.elim
    · exact h.elim
theorem sE_call {f : Nat} (hs : SEs P nm cl k es) : SE P nm cl k (.call f es) := by
  intro X W x F tk h
  simp only [mB] at h
  split at h
  · obtain ⟨h1, h2⟩ := b2 h
    obtain ⟨h3, h4⟩ := b2 h1
    obtain ⟨h5, h6⟩ := b2 h3
    obtain ⟨d1, d2⟩ := dunB_ok h4
    have ha := mBs_args h2
    obtain ⟨ha1, ha2⟩ := b2 ha
    obtain ⟨A, fd, ps, hm, hk, hb, Fn⟩ := F.fns f _ (of_decide_eq_true h5)
    refine (pe_callS Fn (F.room.mono (Nat.le_succ _)) (glB_ok h6) hm hk hb (fun σ => passAt tk σ) (hs X W _ F tk h2) d1 (star_ok ha1) (stars_ok ha2)).imp fun σ H Q ⟨ι, m, s, hs, hm, hp⟩ => ?_
    simp only [evE] at hp
    refine ⟨ι, m, s, hs, hm, (Post.bind hp).imp fun w H1 ⟨ι1, v, m1, le, rv, rs, _, h1⟩ => ?_⟩
    obtain ⟨d, e1, e2⟩ := callF_inv (P := P) (k := k) h1
    exact ⟨ι1, m1, v, d, e1, by rw [← plen rv]; exact e2, rv, rs, h1⟩
  · cases h
theorem pe_bi {X : Cx} {b : Bi} {s : Str} {p pos : Pos} {y : Expr} {ys : List Expr} {t : TA} {r : R1} (hc : CallR X (biF b) r) (e : s = biNm b) (hg : Gl X s) (hm : X.mg (biNm b) = none) (ha : PA X (y :: ys) t)
    (h1 : starEach (y :: ys) X.env = (false, eval y X.env) :: starEach ys X.env) (h2 : (backTo pos (starEach ys X.env)).any (·.1) = false) : PE X (.Call (.Name s p) (y :: ys) [] pos) (tCB r t) := by
  subst e
  have hv := biBoot b
  cases b
  · exact pe_callB hc hg hm hv ha (by decide) (by decide) h1 h2
  · exact pe_callTy hc hg hm hv ha (by decide) (by decide) h1 h2
  · exact pe_callB hc hg hm hv ha (by decide) (by decide) h1 h2
  · exact pe_callTy hc hg hm hv ha (by decide) (by decide) h1 h2
  · exact pe_callTy hc hg hm hv ha (by decide) (by decide) h1 h2
  · exact pe_callB hc hg hm hv ha (by decide) (by decide) h1 h2
  · exact pe_callB hc hg hm hv ha (by decide) (by decide) h1 h2
  · exact pe_callB hc hg hm hv ha (by decide) (by decide) h1 h2
  · exact pe_callTy hc hg hm hv ha (by decide) (by decide) h1 h2
theorem sE_bi {b : Bi} (hs : SEs P nm cl k es) : SE P nm cl k (.bi b es) := by
  intro X W x F tk h
  simp only [mB] at h
  split at h
  · obtain ⟨h1, h2⟩ := b2 h
    obtain ⟨h3, h4⟩ := b2 h1
    have ha := mBs_args h2
    obtain ⟨ha1, ha2⟩ := b2 ha
    refine (pe_bi (rBi_ok F.calm b) (of_decide_eq_true h3) (glB_ok h4) (F.blt b) (hs X W _ F tk h2) (star_ok ha1) (stars_ok ha2)).imp fun σ H Q ⟨ι, m, s, hs, hm, hp⟩ => ?_
    simp only [evE] at hp
    exact ⟨ι, m, s, hs, hm, (Post.bind hp).imp fun w H1 ⟨ι1, v, m1, le, rv, rs, _, h1⟩ => biV_ok h1 rv rs⟩
  · cases h

/-! ### isinstance -/
def tyVal (cl : Nat → Addr) : (String ⊕ Nat) → Value
  | .inl n => .type n
  | .inr c => .ref (cl c)
theorem boot_ty : ∀ n ∈ tyNames, bootBuiltins (Str.ofString n) = some (.type n) := by
  intro n hn
  simp only [tyNames, List.mem_cons, List.not_mem_nil, or_false] at hn
  rcases hn with rfl | rfl | rfl | rfl | rfl | rfl <;> decide +kernel
theorem ne_ty : ∀ n ∈ tyNames, Str.ofString n ≠ "__name__" ∧ (Str.ofString n == ("__debug__" : Str)) = false := by
  intro n hn
  simp only [tyNames, List.mem_cons, List.not_mem_nil, or_false] at hn
  rcases hn with rfl | rfl | rfl | rfl | rfl | rfl <;> exact ⟨by decide, by decide⟩
theorem cl_pe {X : Cx} (F : FX P nm cl k X) {t : Cl} {x : Expr} (h : clB nm X.env.scope t x = true) : ∃ v u, PE X x (tC v) ∧ ClsV v u ∧ argB x = true ∧ ∀ z b, tySub (GG P k) z t = some b → PySem.W.kitOne X.K (tyVal cl z) u = some b := by
  cases t with
  | ty n =>
    cases x <;> (try (cases h))
    rename_i s p
    obtain ⟨h1, h2⟩ := b2 h
    obtain ⟨h3, h4⟩ := b2 h1
    have hn := of_decide_eq_true h3
    have e := of_decide_eq_true h4
    subst e
    obtain ⟨n1, n2⟩ := ne_ty n hn
    refine ⟨.ty n, .type n, pe_bltn (glB_ok h2) (F.ty n hn) (boot_ty n hn) rfl n1 n2, .ty n, rfl, fun z b hz => ?_⟩
    cases z with
    | inl t => exact kit_ty hz
    | inr c => exact F.subT c n b hz
  | own c =>
    cases x <;> (try (cases h))
    rename_i s p
    obtain ⟨h1, h2⟩ := b2 h
    obtain ⟨h3, h4⟩ := b2 h1
    obtain ⟨d1, d2⟩ := dunB_ok h2
    refine ⟨.ref (cl c), .ref (cl c), pe_glob (glB_ok h4) (F.mgc c s (of_decide_eq_true h3)) rfl d1, .own _, rfl, fun z b hz => ?_⟩
    cases z with
    | inl t => exact F.subB t c b hz
    | inr d => exact F.sub d c b hz
/-- a value's type is known: by data, or an exception's class -/
theorem ty_ok {K : PySem.W.Frag} {ι : List Addr} {m : M} {H : Hp} {x : MV} {w : V} {t : String ⊕ Nat} (h : tyName m x = some t) (r : RV ι x w) (rs : RS K cl ι m H) :
    (∃ n, t = .inl n ∧ TyX K H w (.type n)) ∨ ∃ c a d, t = .inr c ∧ w = .ref a ∧ H a = some (exo a (cl c) d) ∧ (d = none ∨ ∃ q fs, d = some q ∧ H q = some (exd q fs)) := by
  unfold tyName at h
  cases x
  · cases r; cases h; exact .inl ⟨_, rfl, .base .non⟩
  · cases r; cases h; exact .inl ⟨_, rfl, .base (.bl _)⟩
  · cases r; cases h; exact .inl ⟨_, rfl, .base (.int _)⟩
  · cases r; cases h; exact .inl ⟨_, rfl, .base (.str _)⟩
  · simp only at h
    split at h
    · rename_i xs e
      obtain ⟨p, e1, rfl, ys, _, hp⟩ := rs.at_ r e
      cases h
      exact .inl ⟨_, rfl, .base (.lst hp)⟩
    · rename_i xs e
      obtain ⟨p, e1, rfl, ys, _, hp⟩ := rs.at_ r e
      cases h
      exact .inl ⟨_, rfl, .base (.tup hp)⟩
    · rename_i xs e
      obtain ⟨p, e1, rfl, ys, _, hp⟩ := rs.at_ r e
      cases h
      exact .inl ⟨_, rfl, .base (.dK hp)⟩
    · rename_i c e
      obtain ⟨p, e1, rfl, hp⟩ := rs.at_ r e
      cases h
      exact .inr ⟨c, p, none, rfl, rfl, hp, .inl rfl⟩
    · rename_i c d e
      split at h
      · rename_i fs e2
        obtain ⟨p, e1, rfl, q, hq, hp⟩ := rs.at_ r e
        obtain ⟨gs, _, hd⟩ := rs.ob d _ q e2 hq
        cases h
        exact .inr ⟨c, p, some q, rfl, rfl, hp, .inr ⟨q, gs, rfl, hd⟩⟩
      · cases h
    · cases h
theorem cls_pe {X : Cx} (F : FX P nm cl k X) : ∀ {cs : List Cl} {xs : List Expr}, clsB nm X.env.scope cs xs = true → ∃ (vs : List V) (us : List Value) (t : TA), PA X xs t ∧ (∀ σ H Q, Q vs H → t σ H Q) ∧ vs.length = cs.length ∧ Paired ClsV vs us ∧
    ∀ z b, anyO (cs.map (tySub (GG P k) z)) = some b → PySem.W.kitAny X.K (tyVal cl z) us = some b
  | [], [], _ => ⟨[], [], tNil, pa_nil, fun _ _ _ q => q, rfl, .nil, fun z b h => h⟩
  | [], _ :: _, h => by cases h
  | _ :: _, [], h => by cases h
  | c :: cs, x :: xs, h => by
    obtain ⟨h1, h2⟩ := b2 h
    obtain ⟨v, u, p, kv, ab, hk⟩ := cl_pe F h1
    obtain ⟨vs, us, t, ps, ht, hl, kvs, hks⟩ := cls_pe F h2
    refine ⟨v :: vs, u :: us, tCons (tC v) t, pa_cons p ps (star_ok ab), fun σ H Q q => ht σ H _ q, by rw [List.length_cons, List.length_cons, hl], .cons kv kvs, fun z b hb => ?_⟩
    rw [List.map_cons] at hb
    cases e : tySub (GG P k) z c with
    | none => rw [e] at hb; cases hb
    | some t1 =>
      rw [e] at hb
      have k1 := hk z t1 e
      cases t1 with
      | true =>
        cases hb
        unfold PySem.W.kitAny
        rw [k1]
      | false =>
        unfold PySem.W.kitAny
        rw [k1]
        exact hks z b hb
theorem sE_isi {cs : List Cl} {many : Bool} (ha : SE P nm cl k a) (hx : ∀ N sc x, mB nm N a sc x = true → argB x = true) : SE P nm cl k (.isi a cs many) := by
  intro X W x F tk h
  simp only [mB] at h
  split at h
  · obtain ⟨h1, h2⟩ := b2 h
    obtain ⟨h3, h4⟩ := b2 h1
    obtain ⟨h5, h6⟩ := b2 h3
    have e := of_decide_eq_true h5
    subst e
    have pa := ha X W _ F tk h4
    have ab := hx _ _ _ h4
    cases many with
    | false =>
      simp only at h2
      split at h2
      · rename_i c
        obtain ⟨v, u, p, kv, ab2, hk⟩ := cl_pe F h2
        have st2 : starEach [_] X.env = (false, eval _ X.env) :: starEach [] X.env := star_ok ab2
        refine (pe_callB (call_isi.or call_isX) (glB_ok h6) F.isi PyProof.Rows.boot_isinstance (pa_cons pa (pa_cons p pa_nil st2) (star_ok ab)) (by decide) (by decide) (star_ok ab) (by rw [st2] <;> rfl)).imp fun σ H Q ⟨ι, m, s, hs, hm, hp⟩ => ?_
        simp only [evE] at hp
        refine ⟨ι, m, s, hs, hm, (Post.bind hp).imp fun w H1 ⟨ι1, z, m1, le, rv, rs, _, h1⟩ => ?_⟩
        split at h1
        · rename_i t et
          split at h1
          · rename_i b eb
            simp only [Bool.false_and, Bool.false_eq_true, if_false] at h1
            have eb2 : tySub (GG P k) t c = some b := by
              simp only [List.map_cons, List.map_nil] at eb
              cases q : tySub (GG P k) t c with
              | none => rw [q] at eb; cases eb
              | some t1 =>
                rw [q] at eb
                cases t1 <;> exact eb
            have q := Post.here (w := V.bl b) h1 rfl rs
            rcases ty_ok et rv rs with ⟨n, rfl, ty⟩ | ⟨c', A, d, rfl, rfl, ho, hd⟩
            · exact .inl ⟨w, v, _, u, b, rfl, kv, ty, hk _ _ eb2, q⟩
            · exact .inr ⟨A, _, d, v, u, b, rfl, kv, ho, hd, (F.exf c').exc, hk _ _ eb2, q⟩
          · exact h1.elim
        · exact h1.elim
      · cases h2
    | true =>
      simp only at h2
      split at h2
      · obtain ⟨h7, h8⟩ := b2 h2
        obtain ⟨vs, us, t, ps, ht, hl, kvs, hks⟩ := cls_pe F h7
        refine (pe_callB call_isiT (glB_ok h6) F.isi PyProof.Rows.boot_isinstance (pa_cons pa (pa_cons (pe_tup ps) pa_nil rfl) (star_ok ab)) (by decide) (by decide) (star_ok ab) rfl).imp fun σ H Q ⟨ι, m, s, hs, hm, hp⟩ => ?_
        simp only [evE] at hp
        refine ⟨ι, m, s, hs, hm, (Post.bind hp).imp fun w H1 ⟨ι1, z, m1, le, rv, rs, _, h1⟩ => ht σ H1 _ ⟨?_, fun p np => ?_⟩⟩
        · rw [hl]
          exact Nat.le_trans (of_decide_eq_true h8) (by decide)
        · split at h1
          · rename_i t et
            split at h1
            · rename_i b eb
              have rs2 := rs.frame (u := HO.tup vs) np
              rcases ty_ok et rv rs2 with ⟨n, rfl, ty⟩ | ⟨c', A, d, rfl, rfl, ho, hd⟩
              · simp only [Sum.isRight, Bool.and_false, Bool.false_eq_true, if_false] at h1
                exact ⟨w, p, vs, _, us, b, rfl, upd_same, kvs, ty, hks _ _ eb, Post.here (w := V.bl b) h1 rfl rs2⟩
              · simp only [Sum.isRight, Bool.and_self, if_true] at h1
                exact h1.elim
            · exact h1.elim
          · exact h1.elim
      · cases h2
  · cases h
theorem rv_ref {ι : List Addr} {j : Nat} {p : Addr} (h : ι[j]? = some p) : RV ι (.ref j) (.ref p) := ⟨p, h, rfl⟩
theorem few_ok {y : Expr} {ys : List Expr} {env : Env} {pos : Pos} (h : argsB (y :: ys) = true) (hl : ys.length < 20) :
    ((backTo pos (starEach (y :: ys) env)).all (fun x => !x.1) && (backToKw pos (keywordEach [] env)).all (fun x => x.1.isSome)
      && decide ((y :: ys).length + ([] : List Keyword).length + (if ([] : List Keyword).isEmpty then 0 else 1) < 30)) = true := by
  rw [stars_all h]
  have e : decide ((y :: ys).length + ([] : List Keyword).length + (if ([] : List Keyword).isEmpty then 0 else 1) < 30) = true := by
    refine decide_eq_true ?_
    show ys.length + 1 + 0 + 0 < 30
    omega
  rw [e]
  rfl
theorem sE_mt {b : Mt} (ha : SE P nm cl k a) (hs : SEs P nm cl k es) : SE P nm cl k (.mt b a es) := by
  intro X W x F tk h
  simp only [mB] at h
  split at h
  · obtain ⟨h1, h2⟩ := b2 h
    obtain ⟨h3, h4⟩ := b2 h1
    obtain ⟨h5, h6⟩ := b2 h3
    obtain ⟨h7, h8⟩ := b2 h5
    obtain ⟨h9, h10⟩ := b2 h7
    have hA := mBs_args h8
    obtain ⟨ha1, ha2⟩ := b2 hA
    have fw := fun pos => few_ok (env := X.env) (pos := pos) hA (of_decide_eq_true h4)
    cases b with
    | append =>
      have e := of_decide_eq_true h2
      subst e
      refine (pe_bm PySem.F.plainAttrs_list PySem.F.slot_list_append PySem.F.type_list_append mt_append (ha X W _ F tk h9) (hs X W _ F tk h8) (base_ok h10) (fw _) h6 (star_ok ha1) (stars_ok ha2)).imp fun σ H Q ⟨ι, m, s, hs, hm, hp⟩ => ?_
      simp only [evE] at hp
      refine ⟨ι, m, s, hs, hm, (Post.bind hp).imp fun w H1 ⟨ι1, v, m1, le, rv, rs, _, h1⟩ => ?_⟩
      split at h1
      · rename_i il
        cases v <;> (try (cases il))
        rename_i A
        simp only [isLst] at il
        split at il
        · rename_i xs e1
          obtain ⟨p, e2, rfl, ys, ry, hp⟩ := rs.at_ rv e1
          refine ⟨.inl ⟨rfl, ys, SqL.of hp⟩, ι1, m1, s, hs.mono le, rs, (Post.bind h1).imp fun us H2 ⟨ι2, vs, m2, le2, rv2, rs2, _, h2⟩ => ?_⟩
          unfold mtV at h2
          cases vs with
          | nil => exact h2.elim
          | cons v1 vr =>
            cases vr with
            | cons _ _ => exact h2.elim
            | nil =>
              obtain ⟨u1, rfl, r1⟩ := p1 rv2
              simp only at h2
              split at h2
              · rename_i zs e3
                obtain ⟨p', e4, e5, ws, rw', hp'⟩ := rs2.at_ (rv.mono le2) e3
                cases e5
                split at h2
                · rename_i c
                  refine ⟨p, ws, u1, rfl, rfl, hp', by rw [← plen rw']; exact big_lt c, ?_⟩
                  exact Post.here (w := V.non) h2 rfl (rs2.upd e3 e4 rfl (.inl rfl) (fun ob v z => by rw [hp'] at z; cases z) ⟨_, papp rw' (.cons r1 .nil), upd_same⟩)
                · exact h2.elim
              · exact h2.elim
        · cases il
      · exact h1.elim
    | pop =>
      have e := of_decide_eq_true h2
      subst e
      refine (pe_bm PySem.F.plainAttrs_list PySem.F.slot_list_pop PySem.F.type_list_pop mt_popAt (ha X W _ F tk h9) (hs X W _ F tk h8) (base_ok h10) (fw _) h6 (star_ok ha1) (stars_ok ha2)).imp fun σ H Q ⟨ι, m, s, hs, hm, hp⟩ => ?_
      simp only [evE] at hp
      refine ⟨ι, m, s, hs, hm, (Post.bind hp).imp fun w H1 ⟨ι1, v, m1, le, rv, rs, _, h1⟩ => ?_⟩
      split at h1
      · rename_i il
        cases v <;> (try (cases il))
        rename_i A
        simp only [isLst] at il
        split at il
        · rename_i xs e1
          obtain ⟨p, e2, rfl, ys, ry, hp⟩ := rs.at_ rv e1
          refine ⟨.inl ⟨rfl, ys, SqL.of hp⟩, ι1, m1, s, hs.mono le, rs, (Post.bind h1).imp fun us H2 ⟨ι2, vs, m2, le2, rv2, rs2, _, h2⟩ => ?_⟩
          unfold mtV at h2
          cases vs with
          | nil => exact h2.elim
          | cons v1 vr =>
            cases vr with
            | cons _ _ => cases v1 <;> exact h2.elim
            | nil =>
              obtain ⟨u1, rfl, r1⟩ := p1 rv2
              cases v1 <;> (try exact h2.elim)
              rename_i i' eq'
              cases r1
              simp only at h2
              split at h2
              · rename_i zs e3
                obtain ⟨p', e4, e5, ws, rw', hp'⟩ := rs2.at_ (rv.mono le2) e3
                cases e5
                split at h2
                · rename_i c
                  split at h2
                  · rename_i j ej
                    split at h2
                    · rename_i y ey
                      obtain ⟨y', ey', ry'⟩ := pget rw' ey
                      refine ⟨p, ws, i', j, y', rfl, rfl, hp', c.1, c.2, by rw [← plen rw']; exact ej, ey', ?_⟩
                      exact Post.here (w := y') h2 ry' (rs2.upd e3 e4 rfl (.inl rfl) (fun ob v z => by rw [hp'] at z; cases z) ⟨_, perase _ rw', upd_same⟩)
                    · exact h2.elim
                  · exact h2.elim
                · exact h2.elim
              · exact h2.elim
        · cases il
      · exact h1.elim
  · cases h
theorem sE_join (ha : SE P nm cl k a) (hb : SE P nm cl k b) : SE P nm cl k (.join a b) := by
  intro X W x F tk h
  simp only [mB] at h
  split at h
  · obtain ⟨h1, h2⟩ := b2 h
    obtain ⟨h3, h4⟩ := b2 h1
    obtain ⟨h5, h6⟩ := b2 h3
    obtain ⟨h7, h8⟩ := b2 h5
    obtain ⟨h9, h10⟩ := b2 h7
    have e := of_decide_eq_true h2
    subst e
    refine (pe_join (ha X W _ F tk h9) (hb X W _ F tk h8) (star_ok h6) (base_ok h10) h4).imp fun σ H Q ⟨ι, m, s, hs, hm, hp⟩ => ?_
    simp only [evE] at hp
    refine ⟨ι, m, s, hs, hm, (Post.bind hp).imp fun w H1 ⟨ι1, v, m1, le, rv, rs, _, h1⟩ => ?_⟩
    split at h1
    · rename_i il
      cases v <;> (try (cases il))
      cases rv
      refine ⟨⟨_, rfl⟩, ι1, m1, s, hs.mono le, rs, (Post.bind h1).imp fun u H2 ⟨ι2, v2, m2, le2, rv2, rs2, _, h2⟩ => ?_⟩
      unfold joinV at h2
      cases v2 <;> (try exact h2.elim)
      simp only at h2
      split at h2
      · rename_i ys e1
        split at h2
        · rename_i zs e2
          split at h2
          · rename_i c
            obtain ⟨p, ws, rfl, r, hq⟩ := rs2.seq rv2 e1
            have q := strs_rel e2 r
            subst q
            exact ⟨_, p, zs, rfl, rfl, hq, c, Post.here h2 rfl rs2⟩
          · exact h2.elim
        · exact h2.elim
      · exact h2.elim
    · exact h1.elim
  · cases h
theorem sE_fld {f : Str} (ha : SE P nm cl k a) : SE P nm cl k (.fld a f) := by
  intro X W x F tk h
  simp only [mB] at h
  split at h
  · obtain ⟨h1, h2⟩ := b2 h
    obtain ⟨h3, h4⟩ := b2 h1
    obtain ⟨h5, h6⟩ := b2 h3
    have e := of_decide_eq_true h4
    subst e
    refine (pe_xfV (ha X W _ F tk h5) (base_ok h6)).imp fun σ H Q ⟨ι, m, s, hs, hm, hp⟩ => ?_
    simp only [evE] at hp
    refine ⟨ι, m, s, hs, hm, (Post.bind hp).imp fun w H1 ⟨ι1, v, m1, le, rv, rs, _, h1⟩ => ?_⟩
    unfold fldV at h1
    cases v <;> (try exact h1.elim)
    simp only at h1
    split at h1
    · rename_i c d e1
      split at h1
      · rename_i fs e2
        split at h1
        · rename_i u e3
          obtain ⟨p, e4, rfl, q, hq, hp⟩ := rs.at_ rv e1
          obtain ⟨gs, rg, hd⟩ := rs.ob d _ q e2 hq
          obtain ⟨u', e5, r5⟩ := flook rg e3
          exact ⟨p, _, q, gs, u', rfl, hp, hd, (F.exf c).exc, F.fno c _ (of_decide_eq_true h2), e5, Post.here h1 r5 rs⟩
        · exact h1.elim
      · exact h1.elim
    · exact h1.elim
  · cases h
theorem sE_mk {c : Nat} (hs : SEs P nm cl k es) (hnil : ∀ s m, es = .nil → evEs (GG P k) es s m = .ok [] m) : SE P nm cl k (.mk c es) := by
  intro X W x F tk h
  simp only [mB] at h
  split at h
  · obtain ⟨h1, h2⟩ := b2 h
    obtain ⟨h3, h4⟩ := b2 h1
    obtain ⟨h5', h6⟩ := b2 h3
    obtain ⟨h5, hi⟩ := b2 h5'
    obtain ⟨d1, d2⟩ := dunB_ok h4
    have hA := mBs_args h2
    obtain ⟨ha1, ha2⟩ := b2 hA
    have hc := of_decide_eq_true h5
    cases ei : P.ini c with
    | none => exact absurd ei (F.hiT c hi)
    | some f =>
      obtain ⟨A, fd, ps, iC, tI, hb, Fn, _⟩ := F.ini c _ f hc ei
      refine (pe_oexV (F.exf c).oex iC tI Fn F.room hb passL (glB_ok h6) (F.mgc c _ hc) (hs X W _ F tk h2) d1 (star_ok ha1) (stars_ok ha2)).imp fun σ H Q ⟨ι, m, s, hs', hm, hp⟩ => ?_
      simp only [evE] at hp
      refine ⟨ι, m, s, hs', hm, (Post.bind hp).imp fun w H1 ⟨ι1, v, m1, le, rv, rs, _, h1⟩ => ?_⟩
      unfold mkX at h1
      have ei2 : (GG P k).ini c = some f := ei
      rw [ei2] at h1
      simp only at h1
      split at h1
      · rename_i c1
        refine ⟨by rw [← plen rv]; exact c1, fun p np => ?_⟩
        have rs2 := rs.new (o := .exo c none) (u := exo p (cl c) none) np upd_same
        split at h1
        · rename_i m2 e2
          have hP : Post X.K cl RV (fun _ _ _ => False) (ι1 ++ [p]) (fun v H2 => v = V.non ∧ Q (.ref p) H2) (callF P k f (.ref m1.length :: v) (m1 ++ [.exo c none])) := by
            have e3 : callF P k f (.ref m1.length :: v) (m1 ++ [.exo c none]) = .ok .non m2 := e2
            rw [e3]
            intro ι2 w2 H2 le2 r2 rs3
            refine ⟨r2, h1 ι2 (.ref p) H2 (List.IsPrefix.trans pre1 le2) ⟨p, pre_get le2 rs.last, rfl⟩ rs3⟩
          obtain ⟨d, q1, q2⟩ := callF_inv hP
          exact ⟨ι1 ++ [p], m1 ++ [.exo c none], .ref m1.length :: v, d, q1, by rw [← q2, List.length_cons, List.length_cons, plen rv], .cons (rv_ref rs.last) (rv.mono pre1), rs2, hP⟩
        · exact h1.elim
      · exact h1.elim
  · obtain ⟨h1, h2⟩ := b2 h
    obtain ⟨h3, h4⟩ := b2 h1
    obtain ⟨h5', h6⟩ := b2 h3
    obtain ⟨h5, hi⟩ := b2 h5'
    obtain ⟨d1, d2⟩ := dunB_ok h4
    have hc := of_decide_eq_true h5
    have en : es = .nil := by
      cases es with
      | nil => rfl
      | cons _ _ => cases h2
    cases ei : P.ini c with
    | none =>
      obtain ⟨q1, q2⟩ := F.ini0 c _ hc ei
      refine (pe_exc0V PySem.F.excBase_ValueError q1 (F.mgc c _ hc) q2 (glB_ok h6) d1).imp fun σ H Q ⟨ι, m, s, hs', hm, hp⟩ => ?_
      simp only [evE] at hp
      rw [hnil s m en] at hp
      simp only [Rs.bind] at hp
      unfold mkX at hp
      have ei2 : (GG P k).ini c = none := ei
      rw [ei2] at hp
      simp only at hp
      exact fun p np => Post.new hp hm np upd_same
    | some f =>
      rw [F.hiF c (by simpa using hi)] at ei
      cases ei
  · cases h
theorem sE_mkK {c : Nat} (hs : SKs P nm cl k es) : SE P nm cl k (.mkK c es) := by
  intro X W x F tk h
  simp only [mB] at h
  split at h
  · obtain ⟨h1, h2⟩ := b2 h
    obtain ⟨h3, h4⟩ := b2 h1
    obtain ⟨h5', h6⟩ := b2 h3
    obtain ⟨h5, hi⟩ := b2 h5'
    obtain ⟨d1, d2⟩ := dunB_ok h4
    have hc := of_decide_eq_true h5
    cases ek : nm.kw c with
    | none =>
      rw [ek] at h2
      cases h2
    | some ks =>
      rw [ek] at h2
      cases ei : P.ini c with
      | none => exact absurd ei (F.hiT c hi)
      | some f =>
        obtain ⟨A, fd, ps, iC, tI, _, Fn, hk⟩ := F.ini c _ f hc ei
        have kwf := fun pos => mKs_kw (env := X.env) (pos := pos) h2
        refine (pe_oexK (F.exf c).oex iC tI Fn F.room (hk ks ek) passL (glB_ok h6) (F.mgc c _ hc) (hs X W ks _ F tk h2) d1 (kwf _).1 (kwf _).2.1 (by rw [(kwf _).2.2] <;> rfl)).imp fun σ H Q ⟨ι, m, s, hs', hm, hp⟩ => ?_
        simp only [evE] at hp
        refine ⟨ι, m, s, hs', hm, (Post.bind hp).imp fun w H1 ⟨ι1, v, m1, le, rv, rs, _, h1⟩ => ?_⟩
        unfold mkX at h1
        have ei2 : (GG P k).ini c = some f := ei
        rw [ei2] at h1
        simp only at h1
        split at h1
        · rename_i c1
          refine ⟨by rw [← plen rv]; exact c1, fun p np => ?_⟩
          have rs2 := rs.new (o := .exo c none) (u := exo p (cl c) none) np upd_same
          split at h1
          · rename_i m2 e2
            have hP : Post X.K cl RV (fun _ _ _ => False) (ι1 ++ [p]) (fun v H2 => v = V.non ∧ Q (.ref p) H2) (callF P k f (.ref m1.length :: v) (m1 ++ [.exo c none])) := by
              have e3 : callF P k f (.ref m1.length :: v) (m1 ++ [.exo c none]) = .ok .non m2 := e2
              rw [e3]
              intro ι2 w2 H2 le2 r2 rs3
              refine ⟨r2, h1 ι2 (.ref p) H2 (List.IsPrefix.trans pre1 le2) ⟨p, pre_get le2 rs.last, rfl⟩ rs3⟩
            obtain ⟨d, q1, q2⟩ := callF_inv hP
            exact ⟨ι1 ++ [p], m1 ++ [.exo c none], .ref m1.length :: v, d, q1, by rw [← q2, List.length_cons, List.length_cons, plen rv], .cons (rv_ref rs.last) (rv.mono pre1), rs2, hP⟩
          · exact h1.elim
        · exact h1.elim
  · cases h
end
end VI


set_option Elab.async false
set_option linter.all false
set_option maxRecDepth 100000
set_option maxHeartbeats 4000000
namespace VI
open PySem PySem.Spec PyProof.Rows L2
section
variable {P : Pg} {nm : Nm} {cl : Nat → Addr} {k : Nat} {a b c i : E} {es : Es}

/-! ### and, or -/
theorem and_read {K : PySem.W.Frag} {W : WX} {σ : L2.St} {H : Hp} {Q : VK} (h : tG K cl RV W (evE (GG P k) (.and a b)) σ H Q) : tAndT K (tG K cl RV W (evE (GG P k) a)) (tG K cl RV W (evE (GG P k) b)) σ H Q := by
  obtain ⟨ι, m, s, hs, hm, hp⟩ := h
  simp only [evE] at hp
  refine ⟨ι, m, s, hs, hm, (Post.bind hp).imp fun w H1 ⟨ι1, v, m1, le, rv, rs, _, h1⟩ => ?_⟩
  cases e : truV m1 v with
  | none => rw [e] at h1; exact h1.elim
  | some t =>
    rw [e] at h1
    refine ⟨t, truV_ok e rv rs, ?_⟩
    cases t with
    | true => exact ⟨ι1, m1, s, hs.mono le, rs, h1⟩
    | false => exact Post.here h1 rv rs
theorem or_read {K : PySem.W.Frag} {W : WX} {σ : L2.St} {H : Hp} {Q : VK} (h : tG K cl RV W (evE (GG P k) (.or a b)) σ H Q) : tOrT K (tG K cl RV W (evE (GG P k) a)) (tG K cl RV W (evE (GG P k) b)) σ H Q := by
  obtain ⟨ι, m, s, hs, hm, hp⟩ := h
  simp only [evE] at hp
  refine ⟨ι, m, s, hs, hm, (Post.bind hp).imp fun w H1 ⟨ι1, v, m1, le, rv, rs, _, h1⟩ => ?_⟩
  cases e : truV m1 v with
  | none => rw [e] at h1; exact h1.elim
  | some t =>
    rw [e] at h1
    refine ⟨t, truV_ok e rv rs, ?_⟩
    cases t with
    | true => exact Post.here h1 rv rs
    | false => exact ⟨ι1, m1, s, hs.mono le, rs, h1⟩
theorem sE_and (ha : SE P nm cl k a) (hb : SE P nm cl k b) : SE P nm cl k (.and a b) := by
  intro X W x F tk h
  simp only [mB] at h
  split at h
  · obtain ⟨h1, h2⟩ := b2 h
    obtain ⟨h3, h4⟩ := b2 h1
    obtain ⟨h5, h6⟩ := b2 h3
    exact (pe_andT (ha X W _ F tk h5) (pe_one (hb X W _ F tk h4))).imp fun σ H Q h => and_read h
  · obtain ⟨h1, h2⟩ := b2 h
    obtain ⟨h3, h4⟩ := b2 h1
    exact (pe_andT (ha X W _ F tk h3) (hb X W _ F tk h2)).imp fun σ H Q h => and_read h
  · cases h
theorem sE_or (ha : SE P nm cl k a) (hb : SE P nm cl k b) : SE P nm cl k (.or a b) := by
  intro X W x F tk h
  simp only [mB] at h
  split at h
  · obtain ⟨h1, h2⟩ := b2 h
    obtain ⟨h3, h4⟩ := b2 h1
    obtain ⟨h5, h6⟩ := b2 h3
    exact (pe_orT (ha X W _ F tk h5) (pe_one (hb X W _ F tk h4))).imp fun σ H Q h => or_read h
  · obtain ⟨h1, h2⟩ := b2 h
    obtain ⟨h3, h4⟩ := b2 h1
    exact (pe_orT (ha X W _ F tk h3) (hb X W _ F tk h2)).imp fun σ H Q h => or_read h
  · cases h
theorem and_readT {K : PySem.W.Frag} {W : WX} {σ : L2.St} {H : Hp} {Q : Bool → Hp → Prop} (h : tG K cl RB W (evT (GG P k) (.and a b)) σ H Q) : tAnd (tG K cl RB W (evT (GG P k) a)) (tG K cl RB W (evT (GG P k) b)) σ H Q := by
  obtain ⟨ι, m, s, hs, hm, hp⟩ := h
  refine ⟨ι, m, s, hs, hm, ?_⟩
  unfold evT at hp ⊢
  simp only [evE] at hp
  revert hp
  cases e : evE (GG P k) a s m with
  | ok v m1 =>
    intro hp
    simp only [Rs.bind] at hp ⊢
    cases et : truV m1 v with
    | none => rw [et] at hp; exact hp.elim
    | some t =>
      rw [et] at hp
      intro ι' w H' le r rs
      cases r
      cases t with
      | true => exact ⟨ι', m1, s, hs.mono le, rs, Post.mono hp le⟩
      | false =>
        simp only [Rs.bind] at hp
        rw [et] at hp
        exact hp ι' _ H' le rfl rs
  | ex c d m1 => exact fun hp => hp
  | no => exact fun hp => hp
theorem or_readT {K : PySem.W.Frag} {W : WX} {σ : L2.St} {H : Hp} {Q : Bool → Hp → Prop} (h : tG K cl RB W (evT (GG P k) (.or a b)) σ H Q) : tOr (tG K cl RB W (evT (GG P k) a)) (tG K cl RB W (evT (GG P k) b)) σ H Q := by
  obtain ⟨ι, m, s, hs, hm, hp⟩ := h
  refine ⟨ι, m, s, hs, hm, ?_⟩
  unfold evT at hp ⊢
  simp only [evE] at hp
  revert hp
  cases e : evE (GG P k) a s m with
  | ok v m1 =>
    intro hp
    simp only [Rs.bind] at hp ⊢
    cases et : truV m1 v with
    | none => rw [et] at hp; exact hp.elim
    | some t =>
      rw [et] at hp
      intro ι' w H' le r rs
      cases r
      cases t with
      | false => exact ⟨ι', m1, s, hs.mono le, rs, Post.mono hp le⟩
      | true =>
        simp only [Rs.bind] at hp
        rw [et] at hp
        exact hp ι' _ H' le rfl rs
  | ex c d m1 => exact fun hp => hp
  | no => exact fun hp => hp
theorem sT_and (ha : ST P nm cl k a) (hb : ST P nm cl k b) : ST P nm cl k (.and a b) := by
  intro X W x F tk h _
  simp only [mB] at h
  split at h
  · obtain ⟨h1, h2⟩ := b2 h
    obtain ⟨h3, h4⟩ := b2 h1
    obtain ⟨h5, h6⟩ := b2 h3
    have p := fun pos => (pw_and (pos := pos) (ha X W _ F tk h5 h6).1 (pw_and1 (pos := pos) (hb X W _ F tk h4 h2).1)).imp fun σ H Q h => and_readT h
    exact ⟨(p _).pt, fun _ => p _⟩
  · obtain ⟨h1, h2⟩ := b2 h
    obtain ⟨h3, h4⟩ := b2 h1
    have p := (pw_and (ha X W _ F tk h3 h4).1 ((hb X W _ F tk h2 rfl).2 ⟨_, _, _, rfl⟩)).imp fun σ H Q h => and_readT h
    exact ⟨p.pt, fun _ => p⟩
  · cases h
theorem sT_or (ha : ST P nm cl k a) (hb : ST P nm cl k b) : ST P nm cl k (.or a b) := by
  intro X W x F tk h _
  simp only [mB] at h
  split at h
  · obtain ⟨h1, h2⟩ := b2 h
    obtain ⟨h3, h4⟩ := b2 h1
    obtain ⟨h5, h6⟩ := b2 h3
    have p := fun pos => (pw_or (pos := pos) (ha X W _ F tk h5 h6).1 (pw_or1 (pos := pos) (hb X W _ F tk h4 h2).1)).imp fun σ H Q h => or_readT h
    exact ⟨(p _).pt, fun _ => p _⟩
  · obtain ⟨h1, h2⟩ := b2 h
    obtain ⟨h3, h4⟩ := b2 h1
    have p := (pw_or (ha X W _ F tk h3 h4).1 ((hb X W _ F tk h2 rfl).2 ⟨_, _, _, rfl⟩)).imp fun σ H Q h => or_readT h
    exact ⟨p.pt, fun _ => p⟩
  · cases h

/-! ### a slice's parts -/
theorem part_read {K : PySem.W.Frag} {W : WX} {σ : L2.St} {H : Hp} {Q : Option Int → Hp → Prop} {ev : SL → M → Rs MV} {ev2 : SL → M → Rs (Option Int)}
    (he : ∀ s m, ev2 s m = (ev s m).bind fun v m3 => match v with
      | .int k => .ok (some k) m3
      | _ => .no) (h : tG K cl RI W ev2 σ H Q) : tPart (tG K cl RV W ev) σ H Q := by
  obtain ⟨ι, m, s, hs, hm, hp⟩ := h
  rw [he] at hp
  refine ⟨ι, m, s, hs, hm, (Post.bind hp).imp fun w H1 ⟨ι1, v, m1, le, rv, rs, _, h1⟩ => ?_⟩
  cases v <;> (try exact h1.elim)
  cases rv
  exact ⟨_, rfl, Post.here h1 rfl rs⟩
theorem sO_nop : SO P nm cl k .nop := by
  intro X W x F tk h
  simp only [mBo] at h
  split at h
  · refine po_none.imp fun σ H Q ⟨ι, m, s, hs, hm, hp⟩ => ?_
    simp only [evO] at hp
    exact Post.here hp rfl hm
  · cases h
theorem sO_int {j : Int} : SO P nm cl k (.int j) := by
  intro X W x F tk h
  simp only [mBo] at h
  split at h
  · have e := of_decide_eq_true h
    subst e
    refine (po_some pe_int).imp fun σ H Q ⟨ι, m, s, hs, hm, hp⟩ => ?_
    simp only [evO] at hp
    exact ⟨_, rfl, Post.here hp rfl hm⟩
  · cases h
theorem sO_var {j : Nat} : SO P nm cl k (.var j) := by
  intro X W x F tk h
  simp only [mBo] at h
  split at h
  · obtain ⟨h1, h2⟩ := b2 h
    obtain ⟨h3, h4⟩ := b2 h1
    obtain ⟨d1, d2⟩ := dunB_ok h2
    refine (po_some (pe_var (of_decide_eq_true h3) (visB_ok h4) d1 d2)).imp fun σ H Q ⟨ι, m, s, hs, hm, hp⟩ => ?_
    simp only [evO] at hp
    split at hp
    · rename_i z e
      obtain ⟨w, e2, r⟩ := hs.2 _ _ e
      cases r
      exact ⟨_, e2, _, rfl, Post.here hp rfl hm⟩
    · exact hp.elim
  · cases h
theorem sO_bin {o : Operator} (ha : SE P nm cl k (.bin o a b)) : SO P nm cl k (.bin o a b) := by
  intro X W x F tk h
  simp only [mBo] at h
  split at h
  · exact (po_some (ha X W _ F tk (by simp only [mB]; exact h))).imp fun σ H Q h => part_read (fun s m => by simp only [evO, evE] <;> rfl) h
  · cases h
theorem sO_no {e : E} (h : ∀ sc x N, mBo nm N e sc x = false) : SO P nm cl k e := fun X W x F tk hx => by
  rw [h] at hx
  cases hx

/-! ### what is walked -/
def RSrc (K : PySem.W.Frag) (ι : List Addr) : Src → L2.It → Prop
  | .rng n, J => J = Itr 0 n
  | .seq a, J => ∃ p, ι[a]? = some p ∧ J = Itl K p
  | .tup a, J => ∃ p, ι[a]? = some p ∧ J = Itt K p
  | .enum a, J => ∃ p, ι[a]? = some p ∧ J = Ite K p
  | .zip a b, J => ∃ p q, ι[a]? = some p ∧ ι[b]? = some q ∧ J = Itz K p q
  | .zipT a b, J => ∃ p q, ι[a]? = some p ∧ ι[b]? = some q ∧ J = RZ.ItzT K p q
theorem RSrc.mono {K : PySem.W.Frag} {ι ι' : List Addr} (h : ι <+: ι') : ∀ {s : Src} {J : L2.It}, RSrc K ι s J → RSrc K ι' s J
  | .rng _, _, r => r
  | .seq _, _, ⟨p, a, b⟩ => ⟨p, pre_get h a, b⟩
  | .tup _, _, ⟨p, a, b⟩ => ⟨p, pre_get h a, b⟩
  | .enum _, _, ⟨p, a, b⟩ => ⟨p, pre_get h a, b⟩
  | .zip _ _, _, ⟨p, q, a, c, b⟩ => ⟨p, q, pre_get h a, pre_get h c, b⟩
  | .zipT _ _, _, ⟨p, q, a, c, b⟩ => ⟨p, q, pre_get h a, pre_get h c, b⟩
theorem lst_at {K : PySem.W.Frag} {ι : List Addr} {m : M} {H : Hp} {a : Nat} {p : Addr} {xs : List MV} (rs : RS K cl ι m H) (e : ι[a]? = some p) (h : lstOf m a = some xs) : ∃ ys, RVs ι xs ys ∧ SqL K H p ys := by
  unfold lstOf at h
  split at h
  · rename_i zs e1
    cases h
    obtain ⟨ys, r, hp⟩ := rs.ob a _ p e1 e
    exact ⟨ys, r, SqL.of hp⟩
  · rename_i zs e1
    cases h
    obtain ⟨ys, r, hp⟩ := rs.ob a _ p e1 e
    exact ⟨ys, r, hp.sq⟩
  · cases h
theorem tup_at {K : PySem.W.Frag} {ι : List Addr} {m : M} {H : Hp} {a : Nat} {p : Addr} {xs : List MV} (rs : RS K cl ι m H) (e : ι[a]? = some p) (h : tupOf m a = some xs) : ∃ ys, RVs ι xs ys ∧ SqT K H p ys := by
  unfold tupOf at h
  split at h
  · rename_i zs e1
    cases h
    obtain ⟨ys, r, hp⟩ := rs.ob a _ p e1 e
    exact ⟨ys, r, SqT.of hp⟩
  · cases h
/-- a turn -/
theorem src_turn {K : PySem.W.Frag} {ι : List Addr} {m : M} {H : Hp} {src : Src} {J : L2.It} {i : Nat} {o : Option (MV × M)} (rs : RS K cl ι m H) (r : RSrc K ι src J) (h : src.at m i = some o) :
    match o with
    | none => J.stop i H
    | some (v, m1) => J.go i H ∧ ∀ x H', J.yld i H x H' → ∃ ι', ι <+: ι' ∧ RV ι' v x ∧ RS K cl ι' m1 H' := by
  cases src with
  | rng n =>
    obtain rfl : J = Itr 0 n := r
    simp only [Src.at] at h
    by_cases hi : i < n
    · rw [if_pos hi] at h
      cases h
      refine ⟨hi, fun x H' ⟨e1, e2⟩ => ⟨ι, List.prefix_refl ι, ?_, by rw [e1]; exact rs⟩⟩
      rw [Int.zero_add] at e2
      exact e2
    · rw [if_neg hi] at h
      cases h
      exact Nat.le_of_not_lt hi
  | seq a =>
    obtain ⟨p, e, rfl⟩ := r
    simp only [Src.at] at h
    split at h
    · rename_i xs e1
      obtain ⟨ys, ry, hs⟩ := lst_at rs e e1
      split at h
      · rename_i x e2
        cases h
        obtain ⟨y, e3, r3⟩ := pget ry e2
        refine ⟨⟨ys, y, hs, e3⟩, fun z H' ⟨q1, q2⟩ => ⟨ι, List.prefix_refl ι, ?_, by rw [q1]; exact rs⟩⟩
        have := q2 ys hs
        rw [e3] at this
        cases this
        exact r3
      · rename_i e2
        cases h
        refine ⟨ys, hs, ?_⟩
        rw [← plen ry]
        exact List.getElem?_eq_none_iff.mp e2
    · cases h
  | tup a =>
    obtain ⟨p, e, rfl⟩ := r
    simp only [Src.at] at h
    split at h
    · rename_i xs e1
      obtain ⟨ys, ry, hs⟩ := tup_at rs e e1
      split at h
      · rename_i x e2
        cases h
        obtain ⟨y, e3, r3⟩ := pget ry e2
        refine ⟨⟨ys, y, hs, e3⟩, fun z H' ⟨q1, q2⟩ => ⟨ι, List.prefix_refl ι, ?_, by rw [q1]; exact rs⟩⟩
        have := q2 ys hs
        rw [e3] at this
        cases this
        exact r3
      · rename_i e2
        cases h
        refine ⟨ys, hs, ?_⟩
        rw [← plen ry]
        exact List.getElem?_eq_none_iff.mp e2
    · cases h
  | enum a =>
    obtain ⟨p, e, rfl⟩ := r
    simp only [Src.at] at h
    split at h
    · rename_i xs e1
      obtain ⟨ys, ry, hs⟩ := lst_at rs e e1
      split at h
      · rename_i x e2
        cases h
        obtain ⟨y, e3, r3⟩ := pget ry e2
        refine ⟨⟨ys, y, hs, e3⟩, fun z H' ⟨T, x', q1, q2, q3, q4⟩ => ?_⟩
        have := q4 ys hs
        rw [e3] at this
        cases this
        subst q1 q3
        refine ⟨ι ++ [T], pre1, ⟨T, rs.last, rfl⟩, rs.new q2 ⟨_, .cons rfl (.cons (r3.mono pre1) .nil), upd_same⟩⟩
      · rename_i e2
        cases h
        refine ⟨ys, hs, ?_⟩
        rw [← plen ry]
        exact List.getElem?_eq_none_iff.mp e2
    · cases h
  | zip a b =>
    obtain ⟨p, q, e, e', rfl⟩ := r
    simp only [Src.at] at h
    split at h
    · rename_i xs zs e1 e1'
      obtain ⟨ys, ry, hs⟩ := lst_at rs e e1
      obtain ⟨ws, rw', hs'⟩ := lst_at rs e' e1'
      split at h
      · rename_i x x' e2 e2'
        cases h
        obtain ⟨y, e3, r3⟩ := pget ry e2
        obtain ⟨y', e3', r3'⟩ := pget rw' e2'
        refine ⟨⟨ys, ws, y, y', hs, hs', e3, e3'⟩, fun z H' ⟨T, u, u', q1, q2, q3, q4, q5⟩ => ?_⟩
        have g1 := q4 ys hs
        rw [e3] at g1
        cases g1
        have g2 := q5 ws hs'
        rw [e3'] at g2
        cases g2
        subst q1 q3
        refine ⟨ι ++ [T], pre1, ⟨T, rs.last, rfl⟩, rs.new q2 ⟨_, .cons (r3.mono pre1) (.cons (r3'.mono pre1) .nil), upd_same⟩⟩
      · rename_i hn
        cases h
        refine ⟨ys, ws, hs, hs', ?_⟩
        rw [← plen ry, ← plen rw']
        cases g1 : xs[i]? with
        | none => exact .inl (List.getElem?_eq_none_iff.mp g1)
        | some u =>
          cases g2 : zs[i]? with
          | none => exact .inr (List.getElem?_eq_none_iff.mp g2)
          | some u' => exact absurd g2 (hn u u' g1)
    · cases h
  | zipT a b =>
    obtain ⟨p, q, e, e', rfl⟩ := r
    simp only [Src.at] at h
    split at h
    · rename_i xs zs e1 e1'
      obtain ⟨ys, ry, hs⟩ := tup_at rs e e1
      obtain ⟨ws, rw', hs'⟩ := tup_at rs e' e1'
      split at h
      · rename_i x x' e2 e2'
        cases h
        obtain ⟨y, e3, r3⟩ := pget ry e2
        obtain ⟨y', e3', r3'⟩ := pget rw' e2'
        refine ⟨⟨ys, ws, y, y', hs, hs', e3, e3'⟩, fun z H' ⟨T, u, u', q1, q2, q3, q4, q5⟩ => ?_⟩
        have g1 := q4 ys hs
        rw [e3] at g1
        cases g1
        have g2 := q5 ws hs'
        rw [e3'] at g2
        cases g2
        subst q1 q3
        refine ⟨ι ++ [T], pre1, ⟨T, rs.last, rfl⟩, rs.new q2 ⟨_, .cons (r3.mono pre1) (.cons (r3'.mono pre1) .nil), upd_same⟩⟩
      · rename_i hn
        cases h
        refine ⟨ys, ws, hs, hs', ?_⟩
        rw [← plen ry, ← plen rw']
        cases g1 : xs[i]? with
        | none => exact .inl (List.getElem?_eq_none_iff.mp g1)
        | some u =>
          cases g2 : zs[i]? with
          | none => exact .inr (List.getElem?_eq_none_iff.mp g2)
          | some u' => exact absurd g2 (hn u u' g1)
    · cases h
variable (P nm cl k) in
def SI (it : It) : Prop := ∀ (X : Cx) (W : WX) (t x : Expr), FX P nm cl k X → Takes X W → mIt nm X.N it X.env.scope t x = true → PI X t x (fun σ H R => tG X.K cl (RSrc X.K) W (evI (GG P k) it) σ H R) ∧ ∀ z, foldedSetIterable x X.env z = pure z
theorem sI_rng (ha : SE P nm cl k a) : SI P nm cl k (.rng a) := by
  intro X W t x F tk h
  simp only [mIt] at h
  split at h
  · obtain ⟨h1, h2⟩ := b2 h
    obtain ⟨h3, h4⟩ := b2 h1
    obtain ⟨h5, h6⟩ := b2 h3
    have e := of_decide_eq_true h5
    subst e
    refine ⟨(pi_range1 (glB_ok h6) F.rng (pa_cons (ha X W _ F tk h4) pa_nil (star_ok h2)) (star_ok h2)).imp fun σ H Q ⟨ι, m, s, hs, hm, hp⟩ => ?_, fun z => rfl⟩
    simp only [evI] at hp
    refine ⟨ι, m, s, hs, hm, (Post.bind hp).imp fun w H1 ⟨ι1, v, m1, le, rv, rs, _, h1⟩ => ?_⟩
    cases v <;> (try exact h1.elim)
    cases rv
    simp only at h1
    split at h1
    · rename_i c
      exact ⟨_, rfl, c.1, c.2, Post.here h1 rfl rs⟩
    · exact h1.elim
  · cases h
theorem sI_seq (ha : SE P nm cl k a) : SI P nm cl k (.seq a) := by
  intro X W t x F tk h
  simp only [mIt] at h
  obtain ⟨h1, h2⟩ := b2 h
  refine ⟨(pi_list (ha X W _ F tk h1)).imp fun σ H Q ⟨ι, m, s, hs, hm, hp⟩ => ?_, fold_ok h2⟩
  simp only [evI] at hp
  refine ⟨ι, m, s, hs, hm, (Post.bind hp).imp fun w H1 ⟨ι1, v, m1, le, rv, rs, _, h3⟩ => ?_⟩
  cases v <;> (try exact h3.elim)
  simp only at h3
  split at h3
  · rename_i xs e
    obtain ⟨p, e1, rfl⟩ := rv
    obtain ⟨ys, ry, hq⟩ := lst_at rs e1 e
    exact ⟨p, rfl, ⟨ys, hq⟩, Post.here h3 ⟨p, e1, rfl⟩ rs⟩
  · exact h3.elim
theorem sI_tup (ha : SE P nm cl k a) : SI P nm cl k (.tup a) := by
  intro X W t x F tk h
  simp only [mIt] at h
  obtain ⟨h1, h2⟩ := b2 h
  refine ⟨(pi_tup (ha X W _ F tk h1)).imp fun σ H Q ⟨ι, m, s, hs, hm, hp⟩ => ?_, fold_ok h2⟩
  simp only [evI] at hp
  refine ⟨ι, m, s, hs, hm, (Post.bind hp).imp fun w H1 ⟨ι1, v, m1, le, rv, rs, _, h3⟩ => ?_⟩
  cases v <;> (try exact h3.elim)
  simp only at h3
  split at h3
  · rename_i xs e
    obtain ⟨p, e1, rfl⟩ := rv
    obtain ⟨ys, ry, hq⟩ := tup_at rs e1 e
    exact ⟨p, rfl, ⟨ys, hq⟩, Post.here h3 ⟨p, e1, rfl⟩ rs⟩
  · exact h3.elim
theorem sI_enum (ha : SE P nm cl k a) : SI P nm cl k (.enum a) := by
  intro X W t x F tk h
  simp only [mIt] at h
  split at h
  · obtain ⟨h1, h2⟩ := b2 h
    obtain ⟨h3, h4⟩ := b2 h1
    obtain ⟨h5, h6⟩ := b2 h3
    have e := of_decide_eq_true h5
    subst e
    refine ⟨(pi_enum (glB_ok h6) F.enu (pa_cons (ha X W _ F tk h4) pa_nil (star_ok h2)) (star_ok h2)).imp fun σ H Q ⟨ι, m, s, hs, hm, hp⟩ => ?_, fun z => rfl⟩
    simp only [evI] at hp
    refine ⟨ι, m, s, hs, hm, (Post.bind hp).imp fun w H1 ⟨ι1, v, m1, le, rv, rs, _, h1⟩ => ?_⟩
    cases v <;> (try exact h1.elim)
    simp only at h1
    split at h1
    · rename_i xs e
      obtain ⟨p, e1, rfl⟩ := rv
      obtain ⟨ys, ry, hq⟩ := lst_at rs e1 e
      exact ⟨p, ys, rfl, hq, Post.here h1 ⟨p, e1, rfl⟩ rs⟩
    · exact h1.elim
  · cases h
theorem sI_zip (ha : SE P nm cl k a) (hb : SE P nm cl k b) : SI P nm cl k (.zip a b) := by
  intro X W t x F tk h
  simp only [mIt] at h
  split at h
  · obtain ⟨h1, h2⟩ := b2 h
    obtain ⟨h3, h4⟩ := b2 h1
    obtain ⟨h5, h6⟩ := b2 h3
    obtain ⟨h7, h8⟩ := b2 h5
    obtain ⟨h9, h10⟩ := b2 h7
    have e := of_decide_eq_true h9
    subst e
    have st2 : starEach [_] X.env = (false, eval _ X.env) :: starEach [] X.env := star_ok h2
    refine ⟨(RZ.pi_zipA (glB_ok h10) F.zip (pa_cons (ha X W _ F tk h8) (pa_cons (hb X W _ F tk h4) pa_nil st2) (star_ok h6)) (star_ok h6) (by rw [st2] <;> rfl)).imp fun σ H Q ⟨ι, m, s, hs, hm, hp⟩ => ?_, fun z => rfl⟩
    simp only [evI] at hp
    refine ⟨ι, m, s, hs, hm, (Post.bind hp).imp fun w H1 ⟨ι1, v, m1, le, rv, rs, _, h1⟩ => ⟨ι1, m1, s, hs.mono le, rs, (Post.bind h1).imp fun u H2 ⟨ι2, v2, m2, le2, rv2, rs2, _, h2⟩ => ?_⟩⟩
    cases v <;> cases v2 <;> (try exact h2.elim)
    obtain ⟨p, e1, rfl⟩ := rv.mono le2
    obtain ⟨q, e2, rfl⟩ := rv2
    simp only at h2
    split at h2
    · rename_i xs zs g1 g2
      obtain ⟨ys, ry, hq⟩ := lst_at rs2 e1 g1
      obtain ⟨ws, rw', hq'⟩ := lst_at rs2 e2 g2
      exact ⟨p, q, ys, ws, rfl, .inl ⟨hq, hq', Post.here h2 ⟨p, q, e1, e2, rfl⟩ rs2⟩⟩
    · split at h2
      · rename_i xs zs g1 g2
        obtain ⟨ys, ry, hq⟩ := tup_at rs2 e1 g1
        obtain ⟨ws, rw', hq'⟩ := tup_at rs2 e2 g2
        exact ⟨p, q, ys, ws, rfl, .inr ⟨hq, hq', Post.here h2 ⟨p, q, e1, e2, rfl⟩ rs2⟩⟩
      · exact h2.elim
  · cases h
end
end VI


set_option Elab.async false
set_option linter.all false
set_option maxRecDepth 100000
set_option maxHeartbeats 4000000
namespace VI
open PySem PySem.Spec PyProof.Rows L2

/-! ### targets -/
def setAllV : L2.St → List Nat → List V → L2.St
  | s, i :: is, v :: vs => setAllV (s.set i (some v)) is vs
  | s, _, _ => s
def gAll (is : List Nat) : TGs := fun vs σ H Q => vs.length = is.length ∧ Q (setAllV σ is vs) H
def gT (K : PySem.W.Frag) : Tg → TG
  | .nm i => gName i
  | .tp is => gTup K is.length (gAll is)
theorem _root_.L2.PG.imp {X : Cx} {x : Expr} {t t' : TG} (p : PG X x t) (f : ∀ v σ H Q, t' v σ H Q → t v σ H Q) : PG X x t' := ⟨fun pins s σ H v u Q I r h => p.run pins s σ H v u Q I r (f _ _ _ _ h)⟩
theorem _root_.L2.PGs.imp {X : Cx} {x : List Expr} {t t' : TGs} (p : PGs X x t) (f : ∀ v σ H Q, t' v σ H Q → t v σ H Q) : PGs X x t' := ⟨fun pins s σ H v u Q I r h => p.run pins s σ H v u Q I r (f _ _ _ _ h)⟩
def Fnc (X : Cx) : Option Scope → Prop
  | none => ∀ x, X.fn x = true
  | some scope => ∀ x, X.fn x = (scope.names.lookup x == some NameKind.cell)
/-- a name may be stored to -/
def Sto (X : Cx) (s : Str) : Prop := Loc X.env.scope s ∧ (X.fn s = true ∨ X.env.scope.names.lookup s = some .local)
theorem pgs_own {X : Cx} (nd : X.N.Nodup) : ∀ {is : List Nat} {es : List Expr}, ownB X.N is es = true → (∀ s ∈ nmsOf es, Sto X s) → PGs X es (gAll is)
  | [], [], _, _ => pgs_nil.imp fun v σ H Q ⟨h1, h2⟩ => by
    cases v with
    | nil => exact ⟨rfl, h2⟩
    | cons _ _ => cases h1
  | [], _ :: _, h, _ => by cases h
  | _ :: _, [], h, _ => by cases h
  | i :: is, e :: es, h, hs => by
    cases e <;> (try (cases h))
    rename_i s p
    obtain ⟨h1, h2⟩ := b2 h
    have st := hs s (List.Mem.head _)
    refine (pgs_cons (pg_name nd (of_decide_eq_true h1) st.1 st.2) (pgs_own nd h2 fun z hz => hs z (List.Mem.tail _ hz)) rfl).imp fun v σ H Q ⟨h3, h4⟩ => ?_
    cases v with
    | nil => cases h3
    | cons v vs => exact ⟨v, vs, rfl, Nat.succ.inj h3, h4⟩
theorem asg_each {env : Env} {N : List Str} : ∀ {is : List Nat} {es : List Expr}, ownB N is es = true → (assignEach es env).length = is.length ∧ (assignEach es env).findIdx? (·.1) = none
  | [], [], _ => ⟨rfl, rfl⟩
  | [], _ :: _, h => by cases h
  | _ :: _, [], h => by cases h
  | i :: is, e :: es, h => by
    cases e <;> (try (cases h))
    rename_i s p
    obtain ⟨h1, h2⟩ := b2 h
    obtain ⟨h3, h4⟩ := asg_each (env := env) h2
    have q : assignEach (Expr.Name s p :: es) env = (false, assign (Expr.Name s p) env) :: assignEach es env := rfl
    rw [q]
    refine ⟨by rw [List.length_cons, List.length_cons, h3], ?_⟩
    rw [List.findIdx?_cons]
    simp only [Bool.false_eq_true, if_false]
    rw [h4]
    rfl
theorem sto_ok {X : Cx} {fnc : Option Scope} {s : Str} (h : stoB fnc X.env.scope s = true) (hf : Fnc X fnc) : Sto X s := by
  unfold stoB at h
  split at h
  · rename_i e
    exact ⟨.inl e, .inr e⟩
  · rename_i e
    refine ⟨.inr e, .inl ?_⟩
    cases fnc with
    | none => exact hf s
    | some scope => exact (hf s).trans h
  · cases h
theorem pg_tg {X : Cx} {fnc : Option Scope} {t : Tg} {x : Expr} (nd : X.N.Nodup) (hc : X.calm = true) (h : tgB X.N fnc X.env.scope t x = true) (hf : Fnc X fnc) : PG X x (gT X.K t) := by
  unfold tgB at h
  split at h
  · obtain ⟨h1, h2⟩ := b2 h
    have st := sto_ok h2 hf
    exact pg_name nd (of_decide_eq_true h1) st.1 st.2
  · obtain ⟨h1', h3⟩ := b2 h
    obtain ⟨h1, h2⟩ := b2 h1'
    obtain ⟨q1, q2⟩ := asg_each (env := X.env) h1
    exact pg_tup hc (pgs_own nd h1 fun s hs => sto_ok (List.all_eq_true.mp h2 s hs) hf) q1 q2
  · cases h
theorem setAll_rel {ι : List Addr} : ∀ {is : List Nat} {xs : List MV} {ws : List V} {s : SL} {σ : L2.St}, RVs ι xs ws → RSl ι s σ → RSl ι (setAll s is xs) (setAllV σ is ws)
  | [], _, _, _, _, r, h => by
    cases r <;> exact h
  | i :: is, _, _, s, σ, .nil, h => h
  | i :: is, _, _, s, σ, .cons r t, h => setAll_rel (is := is) t (h.set i r)
theorem setAllV_out : ∀ {is : List Nat} {ws : List V} {σ : L2.St}, (setAllV σ is ws).length = σ.length ∧ ∀ i, i ∉ is → (setAllV σ is ws)[i]? = σ[i]?
  | [], _, σ => ⟨rfl, fun _ _ => rfl⟩
  | j :: is, [], σ => ⟨rfl, fun _ _ => rfl⟩
  | j :: is, w :: ws, σ => by
    obtain ⟨h1, h2⟩ := setAllV_out (is := is) (ws := ws) (σ := σ.set j (some w))
    refine ⟨h1.trans (List.length_set ..), fun i hi => ?_⟩
    simp only [List.mem_cons, not_or] at hi
    exact (h2 i hi.2).trans (List.getElem?_set_ne (Ne.symm hi.1))
theorem put_ok {K : PySem.W.Frag} {cl : Nat → Addr} {ι : List Addr} {m : M} {H : Hp} {t : Tg} {v : MV} {w : V} {s s2 : SL} {σ : L2.St} {Q : L2.St → Hp → Prop} (h : t.put m v s = some s2) (r : RV ι v w) (rs : RS K cl ι m H) (hs : RSl ι s σ)
    (hq : ∀ σ2, RSl ι s2 σ2 → σ2.length = σ.length → (∀ i, i ∉ t.own → σ2[i]? = σ[i]?) → Q σ2 H) : gT K t w σ H Q := by
  cases t with
  | nm i =>
    cases h
    refine hq _ (hs.set i r) (List.length_set ..) fun j hj => ?_
    simp only [Tg.own, List.mem_singleton] at hj
    exact List.getElem?_set_ne (Ne.symm hj)
  | tp is =>
    simp only [Tg.put] at h
    split at h
    · rename_i a
      split at h
      · rename_i xs e
        split at h
        · rename_i hl
          cases h
          obtain ⟨p, e1, rfl, ys, ry, hp⟩ := rs.at_ r e
          obtain ⟨q1, q2⟩ := setAllV_out (is := is) (ws := ys) (σ := σ)
          exact ⟨p, ys, rfl, SqT.of hp, by rw [← plen ry, hl], by rw [← plen ry, hl], hq _ (setAll_rel ry hs) q1 q2⟩
        · cases h
      · cases h
    · cases h
theorem wipe_get : ∀ {vs : List Nat} {σ : L2.St} {i : Nat}, (L2.wipe σ vs)[i]? = if i ∈ vs then (if i < σ.length then some none else none) else σ[i]?
  | [], σ, i => by simp [L2.wipe]
  | v :: vs, σ, i => by
    unfold L2.wipe
    by_cases hi : v = i
    · subst hi
      rw [if_pos List.mem_cons_self]
      by_cases hl : v < σ.length
      · rw [if_pos hl, List.getElem?_set_self (by rw [L2.wipe_length]; exact hl)]
      · rw [if_neg hl, List.getElem?_eq_none (by rw [List.length_set, L2.wipe_length]; omega)]
    · rw [List.getElem?_set_ne hi, wipe_get]
      by_cases hm : i ∈ vs
      · rw [if_pos hm, if_pos (List.mem_cons_of_mem _ hm)]
      · rw [if_neg hm, if_neg (by simp only [List.mem_cons, not_or]; exact ⟨Ne.symm hi, hm⟩)]
theorem wipe_same {vs : List Nat} {σ σ2 : L2.St} (h1 : σ2.length = σ.length) (h2 : ∀ i, i ∉ vs → σ2[i]? = σ[i]?) : L2.wipe σ2 vs = L2.wipe σ vs := by
  apply List.ext_getElem?
  intro i
  rw [wipe_get, wipe_get, h1]
  by_cases hm : i ∈ vs
  · rw [if_pos hm, if_pos hm]
  · rw [if_neg hm, if_neg hm, h2 i hm]
theorem wipe_wipe {vs : List Nat} {σ : L2.St} : L2.wipe (L2.wipe σ vs) vs = L2.wipe σ vs := wipe_same (L2.wipe_length _ _) fun i hi => by rw [wipe_get, if_neg hi]
section
variable {P : Pg} {nm : Nm} {cl : Nat → Addr} {k : Nat}
theorem FX.blk {X : Cx} (F : FX P nm cl k X) (s : Shared) (H : Hp) (scope : Scope) (env : Env) (fp : List Addr) : FX P nm cl k (X.blk s H scope env fp) :=
  ⟨F.calm, F.nd, F.room, F.blt, F.rng, F.enu, F.zip, F.isi, F.ty, F.fns, F.mgc, F.exf, F.fno, F.hiT, F.hiF, F.ini, F.ini0, F.sub, F.subT, F.subB⟩
theorem yes_te {te : TE} {σ : L2.St} {H : Hp} {Kq : VK} {A : Hp → Prop} (h : te σ H Kq) : tYes σ H (fun b H3 => if b = true then te σ H3 Kq else A H3) := by
  unfold tYes
  exact iteT h
theorem lc_read {elt : E} {t : Tg} {it : It} {K : PySem.W.Frag} {W : WX} {σ : L2.St} {H : Hp} {Q : VK} (h : tG K cl RV W (evE (GG P k) (.lc elt t it)) σ H Q) :
    tLc (fun σ H R => tG K cl (RSrc K) W (evI (GG P k) it) σ H R) (gT K t) tYes (tG K cl RV (fun _ _ _ _ => False) (evE (GG P k) elt)) t.own σ H Q := by
  obtain ⟨ι, m, s, hs, hm, hp⟩ := h
  simp only [evE] at hp
  refine ⟨ι, m, s, hs, hm, (Post.bind hp).imp fun J H1 ⟨ι1, src, m1, le, rv, rs, _, h1'⟩ D nD => ?_⟩
  have rs0 := rs.new (o := .lst []) (u := .lst []) nD ⟨[], .nil, upd_same⟩
  refine ⟨fun i n H => ∃ ι' m', ι1 ++ [D] <+: ι' ∧ RS K cl ι' m' H ∧ Post K cl RV (fun c d H => W c d σ H) ι' Q (lcGo (fun v m2 => match t.put m2 v (wipeM s t.own) with
      | some s2 => evE (GG P k) elt s2 m2
      | none => .no) src m1.length n i m'), ⟨_, ι1 ++ [D], m1 ++ [.lst []], List.prefix_refl _, rs0, Post.mono h1' pre1⟩, ?_⟩
  rintro i n H2 ⟨ι2, m2, le2, rs2, hp2⟩
  cases n with
  | zero => exact hp2.elim
  | succ n =>
    have gD : ι2[m1.length]? = some D := pre_get le2 rs.last
    have sr : RSrc K ι2 src J := (rv.mono pre1).mono le2
    simp only [lcGo] at hp2
    split at hp2
    · exact hp2.elim
    · rename_i eo
      exact .inl ⟨src_turn rs2 sr eo, Post.here hp2 ⟨D, gD, rfl⟩ rs2⟩
    · rename_i v m3 eo
      obtain ⟨hgo, hyl⟩ := src_turn rs2 sr eo
      refine .inr ⟨hgo, fun H' => ∃ ι' m', ι1 ++ [D] <+: ι' ∧ RS K cl ι' m' H' ∧ Post K cl RV (fun c d H => W c d σ H) ι' Q (lcGo (fun v m2 => match t.put m2 v (wipeM s t.own) with
        | some s2 => evE (GG P k) elt s2 m2
        | none => .no) src m1.length n (i + 1) m'), fun H' hN => ⟨n, Nat.lt_succ_self n, hN⟩, fun z H3 hz => ?_⟩
      obtain ⟨ι3, le3, r3, rs3⟩ := hyl z H3 hz
      have hs3 : RSl ι3 (wipeM s t.own) (L2.wipe σ t.own) := ((((hs.mono le).mono pre1).mono le2).mono le3).wipe t.own
      split at hp2
      · rename_i y m4 ef
        cases ep : t.put m3 v (wipeM s t.own) with
        | none => rw [ep] at ef; cases ef
        | some s2 =>
          rw [ep] at ef
          refine put_ok ep r3 rs3 hs3 fun σ2 hs4 hl2 ho2 => ⟨?_, ?_⟩
          · rw [wipe_same hl2 ho2, wipe_wipe]
          · refine yes_te ?_
            refine ⟨ι3, m3, s2, hs4, rs3, ?_⟩
            have ef2 : evE (GG P k) elt s2 m3 = .ok y m4 := ef
            rw [ef2]
            intro ι4 w4 H4 le4 r4 rs4
            split at hp2
            · rename_i acc ea
              split at hp2
              · rename_i hl
                have gD4 : ι4[m1.length]? = some D := pre_get le4 (pre_get le3 gD)
                obtain ⟨ws, rw4, hD⟩ := rs4.ob _ _ D ea gD4
                refine ⟨ws, hD, by rw [← plen rw4]; exact big_lt hl, ι4, m4.set m1.length (.lst (acc ++ [y])), (le2.trans le3).trans le4, rs4.upd (o' := .lst (acc ++ [y])) ea gD4 rfl (.inl rfl) (fun ob u z => by rw [hD] at z; cases z) ⟨_, papp rw4 (.cons r4 .nil), upd_same⟩, Post.mono (Post.mono hp2 le3) le4⟩
              · exact hp2.elim
            · exact hp2.elim
      · exact hp2.elim
theorem sE_lc {elt : E} {t : Tg} {it : It} (he : SE P nm cl k elt) (hi : SI P nm cl k it) : SE P nm cl k (.lc elt t it) := by
  intro X W x F tk h
  simp only [mB] at h
  split at h
  · rename_i xe xt xi scope pos
    obtain ⟨h1, h2⟩ := b2 h
    obtain ⟨h3, h4⟩ := b2 h1
    obtain ⟨h5, h6⟩ := b2 h3
    obtain ⟨h7, h8⟩ := b2 h5
    obtain ⟨pi, pf⟩ := hi X W xt xi F tk h7
    have eo := of_decide_eq_true h4
    have pe := pe_lc (X := X) (pos := pos) (scope := scope) (own := (nmsOf (tgXs t xt)).zip t.own) (g := gT X.K t) (tt := tYes) (te := tG X.K cl RV (fun _ _ _ _ => False) (evE (GG P k) elt)) F.calm F.nd pi (blkOk_by h6)
      (fun s H C cc fp => pg_tg (X := X.blk s H scope (compEnvC scope cc C X.env) fp) (fnc := some scope) F.nd F.calm h8 (fun _ => rfl)) (fun s H C cc fp => pts_nil) (fun s H C cc fp => he (X.blk s H scope (compEnvC scope cc C X.env) fp) (fun _ _ _ _ => False) xe (F.blk s H scope _ fp) takes0 h2) pf
    rw [eo] at pe
    exact pe.imp fun σ H Q h => lc_read h
  · cases h
theorem mB_arg {N : List Str} : ∀ {e : E} {sc : Scope} {x : Expr}, mB nm N e sc x = true → argB x = true := by
  intro e sc x h
  cases e <;> simp only [mB] at h <;> (repeat' split at h) <;> first | rfl | (cases h)
theorem st_of {e : E} (h : SE P nm cl k e) (hx : ∀ N sc x, mB nm N e sc x = true → (∀ env whole, isTrue x env whole = (do let v ← whole; standAt x.pos; holding [v] (truthy v))) ∧ ¬ ∃ op vs p, x = .BoolOp op vs p) : ST P nm cl k e := fun X W x F tk hm _ =>
  ⟨st_plain (h X W x F tk hm) ((hx _ _ _ hm).1 _), fun q => absurd q (hx _ _ _ hm).2⟩
mutual
theorem sE : (e : E) → SE P nm cl k e
  | .var i => sE_var
  | .int i => sE_int
  | .str x => sE_str
  | .bl b => sE_bl
  | .non => sE_non
  | .nop => sE_nop
  | .bin o a b => sE_bin (sE a) (sE b)
  | .cmp o a b => sE_cmp (sE a) (sE b)
  | .and a b => sE_and (sE a) (sE b)
  | .or a b => sE_or (sE a) (sE b)
  | .not a => sE_not (sE a)
  | .neg a => sE_neg (sE a)
  | .ite c a b => sE_ite (sT c) (sE a) (sE b)
  | .tup es => sE_tup (sEs es)
  | .lst es => sE_lst (sEs es)
  | .sub a i => sE_sub (sE a) (sE i) fun _ _ _ h => mB_arg h
  | .sl a lo hi => sE_sl (sE a) (sO lo) (sO hi)
  | .call f es => sE_call (sEs es)
  | .bi b es => sE_bi (sEs es)
  | .isi a cs many => sE_isi (sE a) fun _ _ _ h => mB_arg h
  | .mt b o es => sE_mt (sE o) (sEs es)
  | .join o e => sE_join (sE o) (sE e)
  | .mk c es => sE_mk (sEs es) fun s m h => by subst h; simp only [evEs]
  | .mkK c es => sE_mkK (sKs es)
  | .fld o f => sE_fld (sE o)
  | .lc elt t it => sE_lc (sE elt) (sI it)
theorem sT : (e : E) → ST P nm cl k e
  | .cmp o a b => sT_cmp (sE a) (sE b)
  | .and a b => sT_and (sT a) (sT b)
  | .or a b => sT_or (sT a) (sT b)
  | .not a => sT_not (sT a)
  | .var i => st_of sE_var (fun N sc x h => by simp only [mB] at h; (repeat' split at h) <;> first | exact ⟨fun _ _ => rfl, fun ⟨_, _, _, e⟩ => by cases e⟩ | cases h)
  | .int i => st_of sE_int (fun N sc x h => by simp only [mB] at h; (repeat' split at h) <;> first | exact ⟨fun _ _ => rfl, fun ⟨_, _, _, e⟩ => by cases e⟩ | cases h)
  | .str x => st_of sE_str (fun N sc x h => by simp only [mB] at h; (repeat' split at h) <;> first | exact ⟨fun _ _ => rfl, fun ⟨_, _, _, e⟩ => by cases e⟩ | cases h)
  | .bl b => st_of sE_bl (fun N sc x h => by simp only [mB] at h; (repeat' split at h) <;> first | exact ⟨fun _ _ => rfl, fun ⟨_, _, _, e⟩ => by cases e⟩ | cases h)
  | .non => st_of sE_non (fun N sc x h => by simp only [mB] at h; (repeat' split at h) <;> first | exact ⟨fun _ _ => rfl, fun ⟨_, _, _, e⟩ => by cases e⟩ | cases h)
  | .nop => st_of sE_nop (fun N sc x h => by simp only [mB] at h; (repeat' split at h) <;> first | exact ⟨fun _ _ => rfl, fun ⟨_, _, _, e⟩ => by cases e⟩ | cases h)
  | .bin o a b => st_of (sE_bin (sE a) (sE b)) (fun N sc x h => by simp only [mB] at h; (repeat' split at h) <;> first | exact ⟨fun _ _ => rfl, fun ⟨_, _, _, e⟩ => by cases e⟩ | cases h)
  | .neg a => st_of (sE_neg (sE a)) (fun N sc x h => by simp only [mB] at h; (repeat' split at h) <;> first | exact ⟨fun _ _ => rfl, fun ⟨_, _, _, e⟩ => by cases e⟩ | cases h)
  | .ite c a b => fun X W x F tk h ht => by simp only [mB] at h; split at h <;> first | cases ht | cases h
  | .tup es => st_of (sE_tup (sEs es)) (fun N sc x h => by simp only [mB] at h; (repeat' split at h) <;> first | exact ⟨fun _ _ => rfl, fun ⟨_, _, _, e⟩ => by cases e⟩ | cases h)
  | .lst es => st_of (sE_lst (sEs es)) (fun N sc x h => by simp only [mB] at h; (repeat' split at h) <;> first | exact ⟨fun _ _ => rfl, fun ⟨_, _, _, e⟩ => by cases e⟩ | cases h)
  | .sub a i => st_of (sE_sub (sE a) (sE i) fun _ _ _ h => mB_arg h) (fun N sc x h => by simp only [mB] at h; (repeat' split at h) <;> first | exact ⟨fun _ _ => rfl, fun ⟨_, _, _, e⟩ => by cases e⟩ | cases h)
  | .sl a lo hi => st_of (sE_sl (sE a) (sO lo) (sO hi)) (fun N sc x h => by simp only [mB] at h; (repeat' split at h) <;> first | exact ⟨fun _ _ => rfl, fun ⟨_, _, _, e⟩ => by cases e⟩ | cases h)
  | .call f es => st_of (sE_call (sEs es)) (fun N sc x h => by simp only [mB] at h; (repeat' split at h) <;> first | exact ⟨fun _ _ => rfl, fun ⟨_, _, _, e⟩ => by cases e⟩ | cases h)
  | .bi b es => st_of (sE_bi (sEs es)) (fun N sc x h => by simp only [mB] at h; (repeat' split at h) <;> first | exact ⟨fun _ _ => rfl, fun ⟨_, _, _, e⟩ => by cases e⟩ | cases h)
  | .isi a cs many => st_of (sE_isi (sE a) fun _ _ _ h => mB_arg h) (fun N sc x h => by simp only [mB] at h; (repeat' split at h) <;> first | exact ⟨fun _ _ => rfl, fun ⟨_, _, _, e⟩ => by cases e⟩ | cases h)
  | .mt b o es => st_of (sE_mt (sE o) (sEs es)) (fun N sc x h => by simp only [mB] at h; (repeat' split at h) <;> first | exact ⟨fun _ _ => rfl, fun ⟨_, _, _, e⟩ => by cases e⟩ | cases h)
  | .join o e => st_of (sE_join (sE o) (sE e)) (fun N sc x h => by simp only [mB] at h; (repeat' split at h) <;> first | exact ⟨fun _ _ => rfl, fun ⟨_, _, _, e⟩ => by cases e⟩ | cases h)
  | .mk c es => st_of (sE_mk (sEs es) fun s m h => by subst h; simp only [evEs]) (fun N sc x h => by simp only [mB] at h; (repeat' split at h) <;> first | exact ⟨fun _ _ => rfl, fun ⟨_, _, _, e⟩ => by cases e⟩ | cases h)
  | .mkK c es => st_of (sE_mkK (sKs es)) (fun N sc x h => by simp only [mB] at h; split at h <;> first | exact ⟨fun _ _ => rfl, fun ⟨_, _, _, e⟩ => by cases e⟩ | cases h)
  | .fld o f => st_of (sE_fld (sE o)) (fun N sc x h => by simp only [mB] at h; (repeat' split at h) <;> first | exact ⟨fun _ _ => rfl, fun ⟨_, _, _, e⟩ => by cases e⟩ | cases h)
  | .lc elt t it => st_of (sE_lc (sE elt) (sI it)) (fun N sc x h => by simp only [mB] at h; (repeat' split at h) <;> first | exact ⟨fun _ _ => rfl, fun ⟨_, _, _, e⟩ => by cases e⟩ | cases h)
theorem sO : (e : E) → SO P nm cl k e
  | .nop => sO_nop
  | .int i => sO_int
  | .var i => sO_var
  | .bin o a b => sO_bin (sE_bin (sE a) (sE b))
  | .str _ => sO_no fun _ _ _ => rfl
  | .bl _ => sO_no fun _ _ _ => rfl
  | .non => sO_no fun _ _ _ => rfl
  | .cmp _ _ _ => sO_no fun _ _ _ => rfl
  | .and _ _ => sO_no fun _ _ _ => rfl
  | .or _ _ => sO_no fun _ _ _ => rfl
  | .not _ => sO_no fun _ _ _ => rfl
  | .neg _ => sO_no fun _ _ _ => rfl
  | .ite _ _ _ => sO_no fun _ _ _ => rfl
  | .tup _ => sO_no fun _ _ _ => rfl
  | .lst _ => sO_no fun _ _ _ => rfl
  | .sub _ _ => sO_no fun _ _ _ => rfl
  | .sl _ _ _ => sO_no fun _ _ _ => rfl
  | .call _ _ => sO_no fun _ _ _ => rfl
  | .bi _ _ => sO_no fun _ _ _ => rfl
  | .isi _ _ _ => sO_no fun _ _ _ => rfl
  | .mt _ _ _ => sO_no fun _ _ _ => rfl
  | .join _ _ => sO_no fun _ _ _ => rfl
  | .mk _ _ => sO_no fun _ _ _ => rfl
  | .mkK _ _ => sO_no fun _ _ _ => rfl
  | .fld _ _ => sO_no fun _ _ _ => rfl
  | .lc _ _ _ => sO_no fun _ _ _ => rfl
theorem sEs : (es : Es) → SEs P nm cl k es
  | .nil => sEs_nil
  | .cons e es => sEs_cons (sE e) (sEs es)
theorem sKs : (es : Es) → SKs P nm cl k es
  | .nil => sKs_nil
  | .cons e es => sKs_cons (sE e) (sKs es)
theorem sI : (it : It) → SI P nm cl k it
  | .rng a => sI_rng (sE a)
  | .seq a => sI_seq (sE a)
  | .tup a => sI_tup (sE a)
  | .enum a => sI_enum (sE a)
  | .zip a b => sI_zip (sE a) (sE b)
end
end
end VI


set_option Elab.async false
set_option linter.all false
set_option maxRecDepth 100000
set_option maxHeartbeats 4000000
namespace VI
open PySem PySem.Spec PyProof.Rows L2

/-! ### statements: what is wanted -/
def PostS (K : PySem.W.Frag) (cl : Nat → Addr) (W : WX) (ι : List Addr) (D : Ends) : Fl → Prop
  | .nx s m => ∀ ι' σ' H', ι <+: ι' → RSl ι' s σ' → RS K cl ι' m H' → D.nx σ' H'
  | .bk s m => ∀ ι' σ' H', ι <+: ι' → RSl ι' s σ' → RS K cl ι' m H' → D.bk σ' H'
  | .ct s m => ∀ ι' σ' H', ι <+: ι' → RSl ι' s σ' → RS K cl ι' m H' → D.ct σ' H'
  | .rt v m => ∀ ι' w H', ι <+: ι' → RV ι' v w → RS K cl ι' m H' → D.rt w H'
  | .ex c d s m => ∀ ι' σ' d' H', ι <+: ι' → RSl ι' s σ' → RD ι' d d' → RS K cl ι' m H' → W (.ref (cl c)) d' σ' H'
  | .no => False
section
variable {K : PySem.W.Frag} {cl : Nat → Addr} {W : WX} {ι ι' : List Addr} {D D' : Ends} {r : Fl} {m : M} {H : Hp} {s : SL} {σ : L2.St}
theorem PostS.mono (h : PostS K cl W ι D r) (le : ι <+: ι') : PostS K cl W ι' D r := by
  cases r with
  | nx s m => exact fun ι2 σ' H' l2 => h ι2 σ' H' (le.trans l2)
  | bk s m => exact fun ι2 σ' H' l2 => h ι2 σ' H' (le.trans l2)
  | ct s m => exact fun ι2 σ' H' l2 => h ι2 σ' H' (le.trans l2)
  | rt v m => exact fun ι2 σ' H' l2 => h ι2 σ' H' (le.trans l2)
  | ex c d s m => exact fun ι2 σ' d' H' l2 => h ι2 σ' d' H' (le.trans l2)
  | no => exact h
theorem PostS.fl {α β : Type} {R : List Addr → α → β → Prop} {q : Rs α} {f : α → M → Fl} (h : PostS K cl W ι D (q.fl s f)) (hs : RSl ι s σ) :
    Post K cl R (fun c d H => W c d σ H) ι (fun w H => ∃ ι1 v m1, ι <+: ι1 ∧ R ι1 v w ∧ RS K cl ι1 m1 H ∧ PostS K cl W ι1 D (f v m1)) q := by
  cases q with
  | ok v m => exact fun ι2 w H' l2 a b => ⟨ι2, v, m, l2, a, b, PostS.mono h l2⟩
  | ex c d m => exact fun ι2 d' H' l2 a b => h ι2 σ d' H' l2 (hs.mono l2) a b
  | no => exact h
theorem PostS.nxt (h : PostS K cl W ι D (.nx s m)) (a : RSl ι s σ) (b : RS K cl ι m H) : D.nx σ H := h ι σ H (List.prefix_refl ι) a b
end
def tGS (K : PySem.W.Frag) (cl : Nat → Addr) (W : WX) (ev : SL → M → Fl) : TS := fun D σ H => ∃ ι m s, RSl ι s σ ∧ RS K cl ι m H ∧ PostS K cl W ι D (ev s m)
theorem _root_.L2.PS.imp {X : Cx} {x : Stmt} {t t' : TS} (p : PS X x t) (f : ∀ D σ H, t' D σ H → t D σ H) : PS X x t' := ⟨fun pins s σ H D I h => p.run pins s σ H D I (f _ _ _ h)⟩
theorem _root_.L2.PSs.imp {X : Cx} {x : List Stmt} {t t' : TS} (p : PSs X x t) (f : ∀ D σ H, t' D σ H → t D σ H) : PSs X x t' := ⟨fun pins s σ H D I h => p.run pins s σ H D I (f _ _ _ h)⟩
theorem pg_or {X : Cx} {x : Expr} {t t' : TG} (p : PG X x t) (q : PG X x t') : PG X x (fun v σ H Q => t v σ H Q ∨ t' v σ H Q) := ⟨fun pins s σ H v u Q I r h => by
  rcases h with h | h
  · exact p.run pins s σ H v u Q I r h
  · exact q.run pins s σ H v u Q I r h⟩

/-! ### is this statement that one? -/
/-- no tuple at the right: nothing is swapped -/
def notTup : Expr → Bool
  | .Tuple _ _ _ => false
  | _ => true
theorem swp1 {t e : Expr} {l : Nat} {env : Env} (h : plainB e = true) : swapsWithSole [t] e l env = pure false := swp_ok (t := some t) h
theorem noswap {t v : Expr} {env : Env} (h : notTup v = true) : swappedStores [t] v env = pure none := by
  cases t <;> cases v <;> first | rfl | cases h
theorem sub_asg {o i : Expr} {p : Pos} {env : Env} (h : argB i = true) : ∀ v, assign (.Subscript o i p) env v = (do
      let ov ← holding [v] (eval o env)
      let iv ← holding [v, ov] (eval i env)
      standAt p
      holding [v, ov, iv] (setItem ov iv v)
      release [v, ov, iv] []) := by
  intro v
  cases i <;> first | rfl | cases h
def sameL (a b : Pos) : Bool := a.line == b.line
/-- names on one line at the left, as many parts at the right, no star, not all of them constants: stored from the right -/
def parB (sc : Scope) : List Expr → List Expr → Bool
  | [.Name x px, .Name y py], [a, b] => locB sc x && locB sc y && (px.line == py.line) && !(x == y) && argB a && argB b && (!([a, b] : List Expr).all (foldedForSure 8)) && !([a, b] : List Expr).all (constantsAlone 8)
  | [.Name x px, .Name y py, .Name z pz], [a, b, c] => locB sc x && locB sc y && locB sc z && (px.line == py.line) && (px.line == pz.line) && !(x == y) && !(x == z) && !(y == z) && argB a && argB b && argB c &&
      (!([a, b, c] : List Expr).all (foldedForSure 8)) && !([a, b, c] : List Expr).all (constantsAlone 8)
  | _, _ => false
mutual
def mS (nm : Nm) (N : List Str) : S → Scope → Stmt → Bool
  | .asg i e, sc, x => match x with
    | .Assign [.Name s p] xe _ => idxB N i s && stoB none sc s && mB nm N e sc xe && (match xe with
      | .ListComp _ _ scope p' => locB sc s && sameL p p' && !(scope.names.any fun (n, k) => n == s && (k == .local || k == .cell))
      | _ => plainB xe)
    | _ => false
  | .par is es, sc, x => match x with
    | .Assign [.Tuple ts _ _] (.Tuple vs _ _) _ => ownB N is ts && decide (is.Nodup) && mBs nm N es sc vs && parB sc ts vs
    | _ => false
  | .unp is e, sc, x => match x with
    | .Assign [.Tuple ts _ _] xe _ => ownB N is ts && (nmsOf ts).all (stoB none sc) && mB nm N e sc xe && plainB xe && notTup xe
    | _ => false
  | .sub o i e, sc, x => match x with
    | .Assign [.Subscript xo xi _] xe _ => mB nm N o sc xo && mB nm N i sc xi && argB xi && mB nm N e sc xe && plainB xe && notTup xe
    | _ => false
  | .fst o f e, sc, x => match x with
    | .Assign [.Attribute xo f' _] xe _ => mB nm N o sc xo && decide (f = f') && decide (f ∈ nm.fl) && mB nm N e sc xe && plainB xe
    | _ => false
  | .ex e, sc, x => match x with
    | .Expr xe _ => mB nm N e sc xe && plainB xe
    | _ => false
  | .ret e, sc, x => match x with
    | .Return (some xe) _ => mB nm N e sc xe
    | _ => false
  | .ife t a b, sc, x => match x with
    | .If xt xa xb _ => mB nm N t sc xt && tstB xt && mSs nm N a sc xa && mSs nm N b sc xb
    | _ => false
  | .for t it b, sc, x => match x with
    | .For xt xi xb [] _ => mIt nm N it sc xt xi && tgB N none sc t xt && mSs nm N b sc xb
    | _ => false
  | .pas, _, x => match x with
    | .Pass _ => true
    | _ => false
def mSs (nm : Nm) (N : List Str) : Ss → Scope → List Stmt → Bool
  | .nil, _, xs => match xs with
    | [] => true
    | _ => false
  | .cons s ss, sc, xs => match xs with
    | x :: r => mS nm N s sc x && mSs nm N ss sc r
    | _ => false
end
section
variable (P : Pg) (nm : Nm) (cl : Nat → Addr) (k : Nat)
/-- around a def's body -/
structure FB (X : Cx) (W : WX) : Prop where
  F : FX P nm cl k X
  fn : ∀ x, X.fn x = true
  tk : Takes X W
  own : PassesOwn (model X.prog X.w) X.A X.env X.xe
  kind : X.env.scope.kind = .function
def SS (b : S) : Prop := ∀ (X : Cx) (W : WX) (x : Stmt), FB P nm cl k X W → mS nm X.N b X.env.scope x = true → PS X x (tGS X.K cl W (evS (GG P k) b))
def SSs (b : Ss) : Prop := ∀ (X : Cx) (W : WX) (x : List Stmt), FB P nm cl k X W → mSs nm X.N b X.env.scope x = true → PSs X x (tGS X.K cl W (evSs (GG P k) b))
end
section
variable {P : Pg} {nm : Nm} {cl : Nat → Addr} {k : Nat}
theorem stoN {sc : Scope} {s : Str} {X : Cx} (e : X.env.scope = sc) (h : stoB none sc s = true) (hf : ∀ x, X.fn x = true) : Sto X s := by
  subst e
  exact sto_ok (fnc := none) h hf
theorem sS_asg {i : Nat} {e : E} : SS P nm cl k (.asg i e) := by
  intro X W x B h
  simp only [mS] at h
  split at h
  · rename_i s p xe pos
    obtain ⟨h1, h2⟩ := b2 h
    obtain ⟨h3, h4⟩ := b2 h1
    obtain ⟨h5, h6⟩ := b2 h3
    have st := stoN rfl h6 B.fn
    have hN := of_decide_eq_true h5
    have rd : ∀ {D σ H}, tGS X.K cl W (evS (GG P k) (.asg i e)) D σ H → tAsg (tG X.K cl RV W (evE (GG P k) e)) (gName i) D σ H := fun {D σ H} ⟨ι, m, s, hs, hm, hp⟩ => by
      simp only [evS] at hp
      exact ⟨ι, m, s, hs, hm, (PostS.fl hp hs).imp fun w H1 ⟨ι1, v, m1, le, rv, rs, h1⟩ => PostS.nxt h1 ((hs.mono le).set i rv) rs⟩
    split at h2
    · rename_i elt gens scope p'
      obtain ⟨h7, h8⟩ := b2 h2
      obtain ⟨h9, h10⟩ := b2 h7
      cases e <;> (try (simp only [mB] at h4; (repeat' split at h4) <;> cases h4; done))
      rename_i elt' t it
      simp only [mB] at h4
      split at h4
      · rename_i xe' xt xi scope' pos' eq
        cases eq
        obtain ⟨g1, g2⟩ := b2 h4
        obtain ⟨g3, g4⟩ := b2 g1
        obtain ⟨g5, g6⟩ := b2 g3
        obtain ⟨g7, g8⟩ := b2 g5
        obtain ⟨pi, pf⟩ := sI (P := P) (cl := cl) (k := k) it X W xt xi B.F B.tk g7
        have eo := of_decide_eq_true g4
        have loc := locB_ok h9
        have pe := ps_setLc (X := X) (i := i) (py := p) (spos := pos) (pos := p') (scope := scope) (own := (nmsOf (tgXs t xt)).zip t.own) (g := gT X.K t) (tt := tYes) (te := tG X.K cl RV (fun _ _ _ _ => False) (evE (GG P k) elt')) B.F.calm B.F.nd hN loc
          (sw_true B.kind loc h10 (by simpa using h8)) pi (blkOk_by g6)
          (fun s H C cc fp => pg_tg (X := X.blk s H scope (compEnvC scope cc C X.env) fp) (fnc := some scope) B.F.nd B.F.calm g8 (fun _ => rfl)) (fun s H C cc fp => pts_nil) (fun s H C cc fp => sE elt' (X.blk s H scope (compEnvC scope cc C X.env) fp) (fun _ _ _ _ => False) elt (B.F.blk s H scope _ fp) takes0 g2) pf
        rw [eo] at pe
        refine pe.imp fun D σ H h => ?_
        exact lc_read (rd h)
      · cases h4
    · exact (ps_set B.F.nd hN st.1 (sE e X W _ B.F B.tk h4) (swp_ok h2) st.2).imp fun D σ H h => rd h
  · cases h
theorem sS_unp {is : List Nat} {e : E} : SS P nm cl k (.unp is e) := by
  intro X W x B h
  simp only [mS] at h
  split at h
  · obtain ⟨h1, h2⟩ := b2 h
    obtain ⟨h3, h4⟩ := b2 h1
    obtain ⟨h5, h6⟩ := b2 h3
    obtain ⟨h7, h8⟩ := b2 h5
    obtain ⟨q1, q2⟩ := asg_each (env := X.env) h7
    have ps := pgs_own B.F.nd h7 fun s hs => stoN rfl (List.all_eq_true.mp h8 s hs) B.fn
    refine (ps_asg (sE e X W _ B.F B.tk h6) (pg_or (pg_tup B.F.calm ps q1 q2) (pg_unl B.F.calm ps q1 q2)) (swp1 h4) (noswap h2) rfl).imp fun D σ H ⟨ι, m, s, hs, hm, hp⟩ => ?_
    simp only [evS] at hp
    refine ⟨ι, m, s, hs, hm, (PostS.fl hp hs).imp fun w H1 ⟨ι1, v, m1, le, rv, rs, h1⟩ => ?_⟩
    cases v <;> (try exact h1.elim)
    simp only at h1
    split at h1
    · rename_i xs e1
      split at h1
      · rename_i hl
        obtain ⟨p, e2, rfl, ys, ry, hp⟩ := rs.at_ rv e1
        exact .inl ⟨p, ys, rfl, SqT.of hp, by rw [← plen ry, hl], by rw [← plen ry, hl], PostS.nxt h1 (setAll_rel ry (hs.mono le)) rs⟩
      · exact h1.elim
    · rename_i xs e1
      split at h1
      · rename_i hl
        obtain ⟨p, e2, rfl, ys, ry, hp⟩ := rs.at_ rv e1
        exact .inr ⟨p, ys, rfl, SqL.of hp, by rw [← plen ry, hl], by rw [← plen ry, hl], PostS.nxt h1 (setAll_rel ry (hs.mono le)) rs⟩
      · exact h1.elim
    · exact h1.elim
  · cases h
theorem sS_sub {o i e : E} : SS P nm cl k (.sub o i e) := by
  intro X W x B h
  simp only [mS] at h
  split at h
  · obtain ⟨h1, h2⟩ := b2 h
    obtain ⟨h3, h4⟩ := b2 h1
    obtain ⟨h5, h6⟩ := b2 h3
    obtain ⟨h7, h8⟩ := b2 h5
    obtain ⟨h9, h10⟩ := b2 h7
    refine (ps_asg (sE e X W _ B.F B.tk h6) (pg_sub (sE o X W _ B.F B.tk h9) (sE i X W _ B.F B.tk h10) set_list (sub_asg h8)) (swp1 h4) (noswap h2) rfl).imp fun D σ H ⟨ι, m, s, hs, hm, hp⟩ => ?_
    simp only [evS] at hp
    refine ⟨ι, m, s, hs, hm, (PostS.fl hp hs).imp fun w H1 ⟨ι1, v, m1, le, rv, rs, h1⟩ => ⟨ι1, m1, s, hs.mono le, rs, (PostS.fl h1 (hs.mono le)).imp fun u H2 ⟨ι2, v2, m2, le2, rv2, rs2, h2⟩ =>
      ⟨ι2, m2, s, (hs.mono le).mono le2, rs2, (PostS.fl h2 ((hs.mono le).mono le2)).imp fun z H3 ⟨ι3, v3, m3, le3, rv3, rs3, h3⟩ => ?_⟩⟩⟩
    cases v2 <;> cases v3 <;> (try exact h3.elim)
    rename_i a j
    cases rv3
    simp only at h3
    split at h3
    · rename_i xs e1
      split at h3
      · rename_i n en
        obtain ⟨p, e2, rfl, ys, ry, hp⟩ := rs3.at_ (rv2.mono le3) e1
        refine ⟨p, ys, j, n, rfl, rfl, hp, by rw [← plen ry]; exact en, ?_⟩
        exact PostS.nxt h3 (((hs.mono le).mono le2).mono le3) (rs3.upd e1 e2 rfl (.inl rfl) (fun ob v z => by rw [hp] at z; cases z) ⟨_, pset ((rv.mono le2).mono le3) n ry, upd_same⟩)
      · exact h3.elim
    · exact h3.elim
  · cases h
theorem sS_fst {o e : E} {f : Str} : SS P nm cl k (.fst o f e) := by
  intro X W x B h
  simp only [mS] at h
  split at h
  · obtain ⟨h1, h2⟩ := b2 h
    obtain ⟨h3, h4⟩ := b2 h1
    obtain ⟨h5, h6⟩ := b2 h3
    obtain ⟨h7, h8⟩ := b2 h5
    have ef := of_decide_eq_true h8
    subst ef
    refine (ps_ost (sE o X W _ B.F B.tk h7) (sE e X W _ B.F B.tk h4) (swp_ok h2)).imp fun D σ H ⟨ι, m, s, hs, hm, hp⟩ => ?_
    simp only [evS] at hp
    refine ⟨ι, m, s, hs, hm, (PostS.fl hp hs).imp fun w H1 ⟨ι1, v, m1, le, rv, rs, h1⟩ => ⟨ι1, m1, s, hs.mono le, rs, (PostS.fl h1 (hs.mono le)).imp fun u H2 ⟨ι2, v2, m2, le2, rv2, rs2, h2⟩ => ?_⟩⟩
    cases v2 <;> (try exact h2.elim)
    rename_i av
    simp only at h2
    have hf := B.F.fno
    split at h2
    · rename_i c e1
      obtain ⟨p, e2, rfl, hp⟩ := rs2.at_ rv2 e1
      refine ⟨p, cl c, rfl, (B.F.exf c).oex, hf c _ (of_decide_eq_true h6), .inl ⟨hp, fun dx nd ne => ?_⟩⟩
      have r1 := rs2.new (o := .exd [(f, v)]) (u := exd dx [(f, w)]) nd ⟨[(f, w)], .cons ⟨rfl, (rv.mono le2).mono pre1⟩ .nil, upd_same⟩
      have e3 : (m2 ++ [MO.exd [(f, v)]])[av]? = some (MO.exo c none) := by
        rw [List.getElem?_append_left (List.getElem?_eq_some_iff.mp e1).1]
        exact e1
      have hp2 : upd H2 dx (exd dx [(f, w)]) p = some (exo p (cl c) none) := by
        rw [upd_ne (Ne.symm ne)]
        exact hp
      have r2 := r1.upd (o' := .exo c (some m2.length)) (u := exo p (cl c) (some dx)) e3 (pre_get pre1 e2) rfl (.inl rfl) (fun ob v z => by rw [hp2] at z; cases z) ⟨dx, rs2.last, upd_same⟩
      exact h2 _ _ _ pre1 (((hs.mono le).mono le2).mono pre1) r2
    · rename_i c d e1
      split at h2
      · rename_i fs e3
        split at h2
        · rename_i hl
          obtain ⟨p, e2, rfl, q, hq, hp⟩ := rs2.at_ rv2 e1
          obtain ⟨gs, rg, hd⟩ := rs2.ob d _ q e3 hq
          refine ⟨p, cl c, rfl, (B.F.exf c).oex, hf c _ (of_decide_eq_true h6), .inr ⟨q, gs, hp, hd, by rw [← plen rg]; exact hl, ?_⟩⟩
          exact PostS.nxt h2 ((hs.mono le).mono le2) (rs2.upd e3 hq rfl (.inl rfl) (fun ob v z => by rw [hd] at z; cases z) ⟨(f, w) :: gs, .cons ⟨rfl, rv.mono le2⟩ rg, upd_same⟩)
        · exact h2.elim
      · exact h2.elim
    · exact h2.elim
  · cases h
theorem sS_ex {e : E} : SS P nm cl k (.ex e) := by
  intro X W x B h
  simp only [mS] at h
  split at h
  · obtain ⟨h1, h2⟩ := b2 h
    refine (ps_expr (sE e X W _ B.F B.tk h1) (swp_ok h2)).imp fun D σ H ⟨ι, m, s, hs, hm, hp⟩ => ?_
    simp only [evS] at hp
    exact ⟨ι, m, s, hs, hm, (PostS.fl hp hs).imp fun w H1 ⟨ι1, v, m1, le, rv, rs, h1⟩ => PostS.nxt h1 (hs.mono le) rs⟩
  · cases h
theorem sS_ret {e : E} : SS P nm cl k (.ret e) := by
  intro X W x B h
  simp only [mS] at h
  split at h
  · refine (ps_ret (sE e X W _ B.F B.tk h)).imp fun D σ H ⟨ι, m, s, hs, hm, hp⟩ => ?_
    simp only [evS] at hp
    exact ⟨ι, m, s, hs, hm, (PostS.fl hp hs).imp fun w H1 ⟨ι1, v, m1, le, rv, rs, h1⟩ => h1 ι1 w H1 (List.prefix_refl _) rv rs⟩
  · cases h
theorem sS_pas : SS P nm cl k .pas := by
  intro X W x B h
  simp only [mS] at h
  split at h
  · refine ps_pass.imp fun D σ H ⟨ι, m, s, hs, hm, hp⟩ => ?_
    simp only [evS] at hp
    exact PostS.nxt hp hs hm
  · cases h
theorem sS_ife {t : E} {a b : Ss} (ha : SSs P nm cl k a) (hb : SSs P nm cl k b) : SS P nm cl k (.ife t a b) := by
  intro X W x B h
  simp only [mS] at h
  split at h
  · obtain ⟨h1, h2⟩ := b2 h
    obtain ⟨h3, h4⟩ := b2 h1
    obtain ⟨h5, h6⟩ := b2 h3
    refine (ps_if (sT t X W _ B.F B.tk h5 h6).1 (ha X W _ B h4) (hb X W _ B h2)).imp fun D σ H ⟨ι, m, s, hs, hm, hp⟩ => ?_
    simp only [evS] at hp
    refine ⟨ι, m, s, hs, hm, ?_⟩
    unfold evT
    revert hp
    cases e : evE (GG P k) t s m with
    | ok v m1 =>
      intro hp
      simp only [Rs.bind, Rs.fl] at hp ⊢
      cases et : truV m1 v with
      | none => rw [et] at hp; exact hp.elim
      | some z =>
        rw [et] at hp
        intro ι' w H' le r rs
        cases r
        cases z with
        | true => exact ⟨ι', m1, s, hs.mono le, rs, PostS.mono hp le⟩
        | false => exact ⟨ι', m1, s, hs.mono le, rs, PostS.mono hp le⟩
    | ex c d m1 => exact fun hp ι' d' H' l2 a b => hp ι' σ d' H' l2 (hs.mono l2) a b
    | no => exact fun hp => hp
  · cases h
theorem sS_for {t : Tg} {it : It} {b : Ss} (hb : SSs P nm cl k b) : SS P nm cl k (.for t it b) := by
  intro X W x B h
  simp only [mS] at h
  split at h
  · rename_i xt xi xb pos
    obtain ⟨h1, h2⟩ := b2 h
    obtain ⟨h3, h4⟩ := b2 h1
    obtain ⟨pi, pf⟩ := sI (P := P) (cl := cl) (k := k) it X W xt xi B.F B.tk h3
    refine (ps_for B.own B.F.calm pi (pg_tg (fnc := none) B.F.nd B.F.calm h4 B.fn) (hb X W _ B h2) pf).imp fun D σ H ⟨ι, m, s, hs, hm, hp⟩ => ?_
    simp only [evS] at hp
    refine ⟨ι, m, s, hs, hm, (PostS.fl hp hs).imp fun J H1 ⟨ι1, src, m1, le, rv, rs, h1'⟩ => ?_⟩
    refine ⟨fun i n σ H => ∃ ι' m' s', ι1 <+: ι' ∧ RSl ι' s' σ ∧ RS X.K cl ι' m' H ∧ PostS X.K cl W ι' D (forGo (fun v s2 m2 => match t.put m2 v s2 with
        | some s3 => evSs (GG P k) b s3 m2
        | none => .no) src n i s' m'), ⟨_, ι1, m1, s, List.prefix_refl _, hs.mono le, rs, h1'⟩, ?_⟩
    rintro i n σ2 H2 ⟨ι2, m2, s2, le2, hs2, rs2, hp2⟩
    cases n with
    | zero => exact hp2.elim
    | succ n =>
      have sr : RSrc X.K ι2 src J := rv.mono le2
      simp only [forGo] at hp2
      split at hp2
      · exact hp2.elim
      · rename_i eo
        exact .inl ⟨src_turn rs2 sr eo, PostS.nxt hp2 hs2 rs2⟩
      · rename_i v m3 eo
        obtain ⟨hgo, hyl⟩ := src_turn rs2 sr eo
        refine .inr ⟨hgo, fun σ' H' => ∃ ι' m' s', ι1 <+: ι' ∧ RSl ι' s' σ' ∧ RS X.K cl ι' m' H' ∧ PostS X.K cl W ι' D (forGo (fun v s2 m2 => match t.put m2 v s2 with
          | some s3 => evSs (GG P k) b s3 m2
          | none => .no) src n (i + 1) s' m'), fun σ' H' hN => ⟨n, Nat.lt_succ_self n, hN⟩, fun z H3 hz => ?_⟩
        obtain ⟨ι3, le3, r3, rs3⟩ := hyl z H3 hz
        cases ep : t.put m3 v s2 with
        | none => rw [ep] at hp2; exact hp2.elim
        | some s3 =>
          rw [ep] at hp2
          refine put_ok ep r3 rs3 (hs2.mono le3) fun σ3 hs3 _ _ => ⟨ι3, m3, s3, hs3, rs3, ?_⟩
          simp only at hp2
          have hp3 := PostS.mono hp2 le3
          revert hp3
          cases er : evSs (GG P k) b s3 m3 with
          | nx s4 m4 => exact fun hp3 ι4 σ4 H4 le4 hs4 rs4 => ⟨ι4, m4, s4, (le2.trans le3).trans le4, hs4, rs4, PostS.mono hp3 le4⟩
          | ct s4 m4 => exact fun hp3 ι4 σ4 H4 le4 hs4 rs4 => ⟨ι4, m4, s4, (le2.trans le3).trans le4, hs4, rs4, PostS.mono hp3 le4⟩
          | bk s4 m4 => exact fun hp3 => hp3
          | rt v4 m4 => exact fun hp3 => hp3
          | ex c d s4 m4 => exact fun hp3 => hp3
          | no => exact fun hp3 => hp3
  · cases h
theorem sSs_nil : SSs P nm cl k .nil := by
  intro X W x B h
  simp only [mSs] at h
  split at h
  · refine pss_nil.imp fun D σ H ⟨ι, m, s, hs, hm, hp⟩ => ?_
    simp only [evSs] at hp
    exact PostS.nxt hp hs hm
  · cases h
theorem sSs_cons {a : S} {b : Ss} (ha : SS P nm cl k a) (hb : SSs P nm cl k b) : SSs P nm cl k (.cons a b) := by
  intro X W x B h
  simp only [mSs] at h
  split at h
  · obtain ⟨h1, h2⟩ := b2 h
    refine (pss_cons (ha X W _ B h1) (hb X W _ B h2)).imp fun D σ H ⟨ι, m, s, hs, hm, hp⟩ => ⟨ι, m, s, hs, hm, ?_⟩
    simp only [evSs] at hp
    revert hp
    cases er : evS (GG P k) a s m with
    | nx s4 m4 => exact fun hp ι4 σ4 H4 le4 hs4 rs4 => ⟨ι4, m4, s4, hs4, rs4, PostS.mono hp le4⟩
    | ct s4 m4 => exact fun hp => hp
    | bk s4 m4 => exact fun hp => hp
    | rt v4 m4 => exact fun hp => hp
    | ex c d s4 m4 => exact fun hp => hp
    | no => exact fun hp => hp
  · cases h
end
end VI


set_option Elab.async false
set_option linter.all false
set_option maxRecDepth 100000
set_option maxHeartbeats 4000000
namespace VI
open PySem PySem.Spec PyProof.Rows L2
theorem fun_kind {env : Env} (h : env.scope.kind = .function) : env.blockKind = .function := by
  unfold Env.blockKind
  rw [h]
  rfl
theorem all_no {p : Expr → Bool} {xs : List Expr} (h : (!xs.all p) = true) : xs.all p = false := by
  cases e : xs.all p with
  | false => rfl
  | true => rw [e] at h; cases h
theorem ne_of {x y : Str} (h : (!(x == y)) = true) : ¬ y = x := fun e => by
  subst e
  simp at h
theorem line_back {p q : Pos} (h : (p.line == q.line) = true) : (q.line == p.line) = true := by
  rw [beq_iff_eq] at h ⊢
  exact h.symm
theorem swapped2 {x y : Str} {a b : Expr} {px py pt p2 : Pos} {kt k2} {env : Env} (hk : env.scope.kind = .function)
    (h : parB env.scope [.Name x px, .Name y py] [a, b] = true) : swappedStores [.Tuple [.Name x px, .Name y py] kt pt] (.Tuple [a, b] k2 p2) env = pure (some [x, y]) := by
  unfold parB at h
  simp only [Bool.and_eq_true] at h
  obtain ⟨⟨⟨⟨⟨⟨⟨h1, h2⟩, h3⟩, h4⟩, h5⟩, h6⟩, h7⟩, h8⟩ := h
  have e7 := all_no h7
  have e8 := all_no h8
  unfold swappedStores
  simp only [fun_kind hk, Env.kindOf, List.filterMap_cons, List.filterMap_nil, locB_ok h1, locB_ok h2, e7, e8, List.any_cons, List.any_nil, List.head?_cons, Option.map, Option.getD, Expr.pos]
  have d : [x, y].eraseDups.length = 2 := by
    simp [List.eraseDups_cons, List.filter_cons, ne_of h4]
  simp [line_back h3, d]
  rintro (h | h)
  · cases a <;> first | (cases h; done) | cases h5
  · cases b <;> first | (cases h; done) | cases h6
theorem swapped3 {x y z : Str} {a b c : Expr} {px py pz pt p2 : Pos} {kt k2} {env : Env} (hk : env.scope.kind = .function)
    (h : parB env.scope [.Name x px, .Name y py, .Name z pz] [a, b, c] = true) : swappedStores [.Tuple [.Name x px, .Name y py, .Name z pz] kt pt] (.Tuple [a, b, c] k2 p2) env = pure (some [x, y, z]) := by
  unfold parB at h
  simp only [Bool.and_eq_true] at h
  obtain ⟨⟨⟨⟨⟨⟨⟨⟨⟨⟨⟨⟨h1, h2⟩, h9⟩, h3⟩, h10⟩, h4⟩, h11⟩, h12⟩, h5⟩, h6⟩, h13⟩, h7⟩, h8⟩ := h
  have e7 := all_no h7
  have e8 := all_no h8
  unfold swappedStores
  simp only [fun_kind hk, Env.kindOf, List.filterMap_cons, List.filterMap_nil, locB_ok h1, locB_ok h2, locB_ok h9, e7, e8, List.any_cons, List.any_nil, List.head?_cons, Option.map, Option.getD, Expr.pos]
  have d : [x, y, z].eraseDups.length = 3 := by
    simp [List.eraseDups_cons, List.filter_cons, ne_of h4, ne_of h11, ne_of h12]
  simp [line_back h3, line_back h10, d]
  rintro (h | h | h)
  · cases a <;> first | (cases h; done) | cases h5
  · cases b <;> first | (cases h; done) | cases h6
  · cases c <;> first | (cases h; done) | cases h13
section
variable {P : Pg} {nm : Nm} {cl : Nat → Addr} {k : Nat}
theorem sS_par {is : List Nat} {es : Es} : SS P nm cl k (.par is es) := by
  intro X W x B h
  simp only [mS] at h
  split at h
  · rename_i ts kt pt vs k2 p2 pos
    obtain ⟨h1, h2⟩ := b2 h
    obtain ⟨h3, h4⟩ := b2 h1
    obtain ⟨h5, h6⟩ := b2 h3
    have pa := sEs (P := P) (cl := cl) (k := k) es X W vs B.F B.tk h4
    have nd := of_decide_eq_true h6
    have rd : ∀ {D σ H}, tGS X.K cl W (evS (GG P k) (.par is es)) D σ H → tG X.K cl RVs W (evEs (GG P k) es) σ H fun ws H1 => ws.length = is.length ∧ D.nx (setAllV σ is ws) H1 := fun {D σ H} ⟨ι, m, s, hs, hm, hp⟩ => by
      simp only [evS] at hp
      refine ⟨ι, m, s, hs, hm, (PostS.fl hp hs).imp fun ws H1 ⟨ι1, v, m1, le, rv, rs, h1⟩ => ?_⟩
      split at h1
      · rename_i e
        exact ⟨by rw [← plen rv, e], PostS.nxt h1 (setAll_rel rv (hs.mono le)) rs⟩
      · exact h1.elim
    unfold parB at h2
    split at h2
    · rename_i x px y py a b
      have h0 : parB X.env.scope [.Name x px, .Name y py] [a, b] = true := by unfold parB; exact h2
      match is, h5, nd, @rd with
      | [i, j], h5, nd, rd =>
        obtain ⟨g1, g2⟩ := b2 h5
        obtain ⟨g3, _⟩ := b2 g2
        simp only [Bool.and_eq_true] at h2
        have hij : i ≠ j := by
          intro e
          subst e
          exact absurd nd (by simp)
        refine (ps_par B.F.calm B.F.nd (of_decide_eq_true g1) (of_decide_eq_true g3) hij (locB_ok h2.1.1.1.1.1.1.1) (locB_ok h2.1.1.1.1.1.1.2) pa (swapped2 B.kind h0)).imp fun D σ H h => ?_
        obtain ⟨ι, m, s, hs, hm, hp⟩ := rd h
        exact ⟨ι, m, s, hs, hm, hp.imp fun ws H1 ⟨e, q⟩ => by
          match ws, e, q with
          | [v, w], _, q => exact ⟨v, w, rfl, q⟩⟩
      | [], h5, _, _ => cases h5
      | [_], h5, _, _ => cases (b2 h5).2
      | _ :: _ :: _ :: _, h5, _, _ => cases (b2 (b2 h5).2).2
    · rename_i x px y py z pz a b c
      have h0 : parB X.env.scope [.Name x px, .Name y py, .Name z pz] [a, b, c] = true := by unfold parB; exact h2
      match is, h5, nd, @rd with
      | [i, j, l], h5, nd, rd =>
        obtain ⟨g1, g2⟩ := b2 h5
        obtain ⟨g3, g4⟩ := b2 g2
        obtain ⟨g5, _⟩ := b2 g4
        simp only [Bool.and_eq_true] at h2
        simp only [List.nodup_cons, List.mem_cons, List.not_mem_nil, or_false, not_or] at nd
        have l3 := h2.1.1.1.1.1.1.1.1.1.1
        refine (ps_par3 B.F.calm B.F.nd (of_decide_eq_true g1) (of_decide_eq_true g3) (of_decide_eq_true g5) nd.1.1 nd.1.2 nd.2.1 (locB_ok l3.1.1) (locB_ok l3.1.2) (locB_ok l3.2) pa (swapped3 B.kind h0)).imp fun D σ H h => ?_
        obtain ⟨ι, m, s, hs, hm, hp⟩ := rd h
        exact ⟨ι, m, s, hs, hm, hp.imp fun ws H1 ⟨e, q⟩ => by
          match ws, e, q with
          | [v, w, u], _, q => exact ⟨v, w, u, rfl, q⟩⟩
      | [], h5, _, _ => cases h5
      | [_], h5, _, _ => cases (b2 h5).2
      | [_, _], h5, _, _ => cases (b2 (b2 h5).2).2
      | _ :: _ :: _ :: _ :: _, h5, _, _ => cases (b2 (b2 (b2 h5).2).2).2
    · cases h2
  · cases h
mutual
theorem sS : (b : S) → SS P nm cl k b
  | .asg _ _ => sS_asg
  | .par _ _ => sS_par
  | .unp _ _ => sS_unp
  | .sub _ _ _ => sS_sub
  | .fst _ _ _ => sS_fst
  | .ex _ => sS_ex
  | .ret _ => sS_ret
  | .ife _ a b => sS_ife (sSs a) (sSs b)
  | .for _ _ b => sS_for (sSs b)
  | .pas => sS_pas
theorem sSs : (b : Ss) → SSs P nm cl k b
  | .nil => sSs_nil
  | .cons a b => sSs_cons (sS a) (sSs b)
end
end
end VI


set_option Elab.async false
set_option linter.all false
set_option maxRecDepth 100000
set_option maxHeartbeats 4000000
namespace VI
open PySem PySem.Spec PyProof.Rows L2
/-! ### a program's defs keep what callF says -/
/-- the def at a is the interpreter's f -/
def DefAt (P : Pg) (nm : Nm) (K : PySem.W.Frag) (f : Nat) (a : Addr) (fd : FuncData) (ps : List Str) : Prop := ∃ (d : He.DefD) (N : List Str) (ir : Df),
  FunD K d.name d.qual d.params d.body d.scope [] [] a fd ∧ FnScope N ps d.scope ∧ Binds K fd ps [] ∧ P.fs[f]? = some ir ∧ ir.n = N.length ∧ ir.ps = ps.length ∧ mSs nm N ir.body d.scope d.body = true
/-- what is known of the heap and of the module's names -/
structure KX (P : Pg) (nm : Nm) (cl : Nat → Addr) (K : PySem.W.Frag) (mg : Str → Option Value) : Prop where
  blt : ∀ b, mg (biNm b) = none
  rng : mg "range" = none
  enu : mg "enumerate" = none
  zip : mg "zip" = none
  isi : mg "isinstance" = none
  ty : ∀ n ∈ tyNames, mg (Str.ofString n) = none
  fns : ∀ f s, nm.fn f = some s → ∃ a fd ps, mg s = some (.ref a) ∧ DefAt P nm K f a fd ps
  mgc : ∀ c s, nm.cn c = some s → mg s = some (.ref (cl c))
  exf : ∀ c, ExF K (cl c)
  fno : ∀ c f, f ∈ nm.fl → PySem.W.findIn K (.ref (cl c)) f = some none
  hiT : ∀ c, nm.hi c = true → P.ini c ≠ none
  hiF : ∀ c, nm.hi c = false → P.ini c = none
  ini : ∀ c s f, nm.cn c = some s → P.ini c = some f → ∃ a fd ps, PySem.W.findIn K (.ref (cl c)) "__init__" = some (some (.ref a)) ∧ PySem.W.typeIn K (.ref a) = some (.type "function") ∧ DefAt P nm K f a fd ps ∧ ∀ ks, nm.kw c = some ks → KwTo K fd ps ks
  ini0 : ∀ c s, nm.cn c = some s → P.ini c = none → PySem.W.excIn K (cl c) He.veBase "ValueError.__new__" = true ∧ PySem.W.keepIn K (.ref (cl c)) = true
  sub : ∀ c d b, P.sub c d = some b → PySem.W.kitOne K (.ref (cl c)) (.ref (cl d)) = some b
  subT : ∀ c n b, P.subT c n = some b → PySem.W.kitOne K (.ref (cl c)) (.type n) = some b
  subB : ∀ n d b, P.subB n d = some b → PySem.W.kitOne K (.type n) (.ref (cl d)) = some b
section
variable {P : Pg} {nm : Nm} {cl : Nat → Addr} {K : PySem.W.Frag} {mg : Str → Option Value} {p : Program} {w : World}
/-- a frame's end, read back as a call's -/
theorem end_read {W : WX} {E : XK} {ι : List Addr} {H : Hp} {Q : VK} {r : Fl} (hW : ∀ c d σ H, E c d H → W c d σ H)
    (h : Post K cl RV E ι Q (match r with
      | .rt v m1 => .ok v m1
      | .nx _ m1 => .ok .non m1
      | .ex c e _ m1 => .ex c e m1
      | _ => .no)) : PostS K cl W ι { nx := fun _ H' => Q .non H', rt := Q } r := by
  cases r with
  | rt v m1 => exact fun ι' w H' le r rs => h ι' w H' le r rs
  | nx s m1 => exact fun ι' σ' H' le _ rs => h ι' .non H' le rfl rs
  | ex c d s m1 => exact fun ι' σ' d' H' le _ rd rs => hW _ _ _ _ (h ι' d' H' le rd rs)
  | bk s m1 => exact h.elim
  | ct s m1 => exact h.elim
  | no => exact h.elim
theorem start_rel {ι : List Addr} {xs : List MV} {vs : List V} {n : Nat} {N : List Str} (e : n = N.length) (r : RVs ι xs vs) : RSl ι (xs.map some ++ List.replicate (n - xs.length) none) (start N vs) := by
  subst e
  have hl := plen r
  refine ⟨by simp [L2.start, hl], fun i v h => ?_⟩
  unfold L2.start
  by_cases hi : i < xs.length
  · rw [List.getElem?_append_left (by rw [List.length_map]; exact hi), List.getElem?_map] at h
    cases e : xs[i]? with
    | none =>
      rw [e] at h
      cases h
    | some u =>
      rw [e] at h
      obtain ⟨w, h1, h2⟩ := pget r e
      have : u = v := by
        simp at h
        exact h
      subst this
      exact ⟨w, by rw [List.getElem?_append_left (by rw [List.length_map, ← hl]; exact hi), List.getElem?_map, h1] <;> rfl, h2⟩
  · rw [List.getElem?_append_right (by rw [List.length_map]; omega), List.getElem?_replicate] at h
    split at h <;> cases h
theorem def_ok (F : KX P nm cl K mg) (base : Heap) : ∀ (k f : Nat) (a : Addr) (fd : FuncData) (ps : List Str), DefAt P nm K f a fd ps → FnOk p w K mg base (L2.CX p w) (2 * k + 1) a fd ps (spF P K cl k f)
  | 0, f, a, fd, ps, _ => ⟨fun vs H Q E ⟨ι, m, xs, d, _, _, _, _, h⟩ => h.elim, fun A outer s H args us vs Q E _ _ _ _ ⟨ι, m, xs, d, _, _, _, _, h⟩ => h.elim⟩
  | k + 1, f, a, fd, ps, ⟨d, N, ir, fD, S, _, hf, hn, hp, hm⟩ => by
    refine fD.ok S (fun vs H Q E ⟨ι, m, xs, d', hf', hl, _⟩ => ?_) fun cdv A outer s H vs Q E hr ⟨ι, m, xs, d', hf', hl, rv, rs, h⟩ => ?_
    · rw [hf] at hf'
      cases hf'
      rw [hl, hp]
    · rw [hf] at hf'
      cases hf'
      have B : FB P nm cl k (cxOf (L2.CX p w) p w K mg base N d.qual d.scope a cdv A outer s H E) (fun cls e _ H => E cls e H) :=
        { F := { calm := rfl, nd := S.nd, room := hr, blt := F.blt, rng := F.rng, enu := F.enu, zip := F.zip, isi := F.isi, ty := F.ty, mgc := F.mgc, exf := F.exf, fno := F.fno, hiT := F.hiT, hiF := F.hiF, ini0 := F.ini0, sub := F.sub, subT := F.subT, subB := F.subB
                 fns := fun g s hs => by
                   obtain ⟨a', fd', ps', h1, h2⟩ := F.fns g s hs
                   obtain ⟨d2, N2, ir2, fD2, _, b2, _⟩ := id h2
                   exact ⟨a', fd', ps', h1, fD2.kp, b2, def_ok F base k g a' fd' ps' h2⟩
                 ini := fun c s g hs hi => by
                   obtain ⟨a', fd', ps', h1, h2, h3, h4⟩ := F.ini c s g hs hi
                   obtain ⟨d2, N2, ir2, fD2, _, b2, _⟩ := id h3
                   exact ⟨a', fd', ps', h1, h2, b2, def_ok F base k g a' fd' ps' h3, h4⟩ }
          fn := fun _ => rfl
          tk := takes_of rfl rfl rfl rfl
          own := passes_of rfl
          kind := S.kind }
      refine ⟨_, sSs ir.body _ _ d.body B hm, ι, m, _, start_rel hn rv, rs, end_read (H := H) (fun _ _ _ _ h => h) ?_⟩
      unfold callF at h
      rw [hf] at h
      simp only at h
      rw [if_pos (by rw [plen rv, hl])] at h
      exact h
end
end VI


set_option Elab.async false
set_option linter.all false
set_option maxRecDepth 100000
set_option maxHeartbeats 4000000
namespace VI
open PySem PySem.Spec PyProof.Rows L2
/-! ### a law's tables, checked -/
/-- the interpreter's program; the classes' names; the global defs' names (methods: none); the fields; keyword names by class; the defs with their names and parameters -/
structure Tb where
  P : Pg
  cs : List Str
  fs : List (Option Str)
  fl : List Str
  kw : List (Option (List Str))
  ds : List (He.DefD × List Str × List Str)
def nth {α : Type} (l : List (Option α)) (i : Nat) : Option α := match l[i]? with
  | some (some x) => some x
  | _ => none
def Tb.nm (T : Tb) : Nm := { fn := nth T.fs, cn := fun c => T.cs[c]?, fl := T.fl, hi := fun c => (T.P.ini c).isSome, kw := nth T.kw }
def Tb.cAt (T : Tb) (c : Nat) : Str := match T.cs[c]? with
  | some s => s
  | none => match T.cs with
    | s :: _ => s
    | [] => Str.empty
def Tb.cl (T : Tb) (K : PySem.W.Frag) (c : Nat) : Addr := He.ga K (T.cAt c)
/-- an exception class as the walk wants it -/
def xclsB (K : PySem.W.Frag) (C : Addr) : Bool := match K.lookup C with
  | some ⟨.type t, _, .cls cd, sl⟩ => (match cd.mro, sl.toList with
    | .ref C' :: bm, [_, _, _, _, some (.builtin n), _] => decide (t = "type") && decide (C' = C) && decide (n = "ValueError.__new__") && !cd.hasDel && cd.hasDict && PySem.HandSPX.refsVE bm
    | _, _ => false)
  | _ => false
theorem xclsB_ok {K : PySem.W.Frag} {C : Addr} (h : xclsB K C = true) :
    ∃ nm q N bs bm sn sub ab col dd k0 k1 k2 k3 k5, K.lookup C = some (excClassObj nm q C N bs bm true sn sub ab col dd k0 k1 k2 k3 k5 "ValueError.__new__") ∧ PySem.HandSPX.refsVE bm = true := by
  unfold xclsB at h
  split at h
  · rename_i t dd cd sl ho
    split at h
    · rename_i C' bm k0 k1 k2 k3 n k5 hm hs
      obtain ⟨h1, h2⟩ := b2 h
      obtain ⟨h3, h4⟩ := b2 h1
      obtain ⟨h5, h6⟩ := b2 h3
      obtain ⟨h7, h8⟩ := b2 h5
      obtain ⟨h9, h10⟩ := b2 h7
      obtain ⟨nm, bs, mro, ns, qn, hd, sn, sub, ab, col, del⟩ := cd
      simp only at hm h4 h6
      subst hm h4
      have e1 := of_decide_eq_true h9
      have e2 := of_decide_eq_true h10
      have e3 := of_decide_eq_true h8
      have e4 : del = false := by
        cases del with
        | false => rfl
        | true => cases h6
      subst e1 e2 e3 e4
      have es : sl = #[k0, k1, k2, k3, some (.builtin "ValueError.__new__"), k5] := by
        rw [← Array.toArray_toList (xs := sl), hs]
      subst es
      exact ⟨nm, qn, ns, bs, bm, sn, sub, ab, col, dd, k0, k1, k2, k3, k5, ho, h2⟩
    · cases h
  · cases h
def exB (K : PySem.W.Frag) (C : Addr) : Bool := xclsB K C && (He.eqO (PySem.W.findIn K (.ref C) "__setattr__") (some (some (.builtin "object.__setattr__"))) &&
  (decide (PySem.W.subIn K (.ref C) (.type "BaseException") = some true) && (decide (PySem.W.typeIn K (.ref C) = some (.type "type")) && (PySem.W.keepIn K (.ref C) &&
  (He.eqO (PySem.W.findIn K (.ref C) "__getattribute__") (some (some (.builtin "BaseException.__getattribute__"))) && (He.eqO (PySem.W.findIn K (.ref C) "__getattr__") (some none) &&
  (PySem.W.hasDictIn K C && (He.eqO (PySem.W.findIn K (.ref C) "__class__") (some (some (.builtin "object.__class__"))) &&
  (He.eqO (PySem.W.specialIn K (.builtin "object.__class__") "__get__") (some (some (.builtin "getset_descriptor.__get__"))) &&
  (decide (PySem.W.takesIn K (.builtin "object.__class__") = some true) && decide (PySem.W.mroIn K C (.type "object") = some true)))))))))))
theorem exB_ok {K : PySem.W.Frag} {C : Addr} (h : exB K C = true) : ExF K C := by
  obtain ⟨h1, h⟩ := b2 h
  obtain ⟨h2, h⟩ := b2 h
  obtain ⟨h3, h⟩ := b2 h
  obtain ⟨h4, h⟩ := b2 h
  obtain ⟨h5, h⟩ := b2 h
  obtain ⟨h6, h⟩ := b2 h
  obtain ⟨h7, h⟩ := b2 h
  obtain ⟨h8, h⟩ := b2 h
  obtain ⟨h9, h⟩ := b2 h
  obtain ⟨h10, h⟩ := b2 h
  obtain ⟨h11, h12⟩ := b2 h
  exact ⟨⟨xclsB_ok h1, He.eqO_ok h2, of_decide_eq_true h3, of_decide_eq_true h4, h5⟩,
    ⟨He.eqO_ok h6, He.eqO_ok h7, of_decide_eq_true h3, h8, He.eqO_ok h9, He.eqO_ok h10, of_decide_eq_true h11, of_decide_eq_true h12⟩⟩
/-- names that the module leaves to the builtins -/
def frees : List Str := ["abs", "int", "len", "list", "tuple", "min", "max", "all", "str", "range", "enumerate", "zip", "isinstance", "bool", "ValueError"]
/-- one class's facts of the heap -/
def Tb.clB (T : Tb) (K : PySem.W.Frag) (c : Nat) (s : Str) : Bool := (He.Fa.glo s).ok K && (exB K (He.ga K s) && ((T.fl.all fun f => (He.Fa.noat s f).ok K) && (match T.P.ini c with
  | some _ => He.eqO (PySem.W.findIn K (.ref (He.ga K s)) "__init__") (some (some (.ref (He.ma K (He.ga K s) "__init__")))) && decide (PySem.W.typeIn K (.ref (He.ma K (He.ga K s) "__init__")) = some (.type "function"))
  | none => PySem.W.excIn K (He.ga K s) He.veBase "ValueError.__new__" && PySem.W.keepIn K (.ref (He.ga K s)))))
def upTo (n : Nat) (p : Nat → Bool) : Bool := (List.range n).all p
theorem upTo_ok {n i : Nat} {p : Nat → Bool} (h : upTo n p = true) (hi : i < n) : p i = true := List.all_eq_true.mp h i (List.mem_range.mpr hi)
def kitB2 (K : PySem.W.Frag) (a b : Value) : Option Bool → Bool
  | some r => decide (PySem.W.kitOne K a b = some r)
  | none => true
/-- what is asked of the heap behind the top -/
def Tb.ex (T : Tb) (K : PySem.W.Frag) : Bool := (frees.all fun x => (He.Fa.free x).ok K) && ((T.fs.all fun
    | some s => (He.Fa.glo s).ok K
    | none => true) && ((upTo T.cs.length fun c => T.clB K c (T.cAt c)) && ((upTo T.cs.length fun c => upTo T.cs.length fun d => kitB2 K (.ref (T.cl K c)) (.ref (T.cl K d)) (T.P.sub c d)) &&
  ((upTo T.cs.length fun c => tyNames.all fun n => kitB2 K (.ref (T.cl K c)) (.type n) (T.P.subT c n)) && (tyNames.all fun n => upTo T.cs.length fun d => kitB2 K (.type n) (.ref (T.cl K d)) (T.P.subB n d))))))
/-- a def's scope -/
def scB (N ps : List Str) (sc : Scope) : Bool := decide (sc.kind = .function) && (!sc.isCoroutine && (!sc.isGenerator && (decide N.Nodup && (decide (N.take ps.length = ps) && ((ps.all fun x => match sc.names.lookup x with
  | some .local => true
  | some .cell => true
  | _ => false) && (sc.names.all fun y => !(y.2 == NameKind.free)))))))
theorem scB_ok {N ps : List Str} {sc : Scope} (h : scB N ps sc = true) : FnScope N ps sc := by
  obtain ⟨h1, h⟩ := b2 h
  obtain ⟨h2, h⟩ := b2 h
  obtain ⟨h3, h⟩ := b2 h
  obtain ⟨h4, h⟩ := b2 h
  obtain ⟨h5, h⟩ := b2 h
  obtain ⟨h6, h7⟩ := b2 h
  refine ⟨of_decide_eq_true h1, by simpa using h2, by simpa using h3, of_decide_eq_true h4, of_decide_eq_true h5, fun x hx => ?_, fun y hy => ?_⟩
  · have q := List.all_eq_true.mp h6 x hx
    split at q
    · rename_i e; exact .inl e
    · rename_i e; exact .inr e
    · cases q
  · have q := List.all_eq_true.mp h7 y hy
    intro e
    rw [e] at q
    revert q
    decide
/-- one def's text is its tree -/
def Tb.defB (T : Tb) (f : Nat) : Bool := match T.ds[f]?, T.P.fs[f]? with
  | some (d, N, ps), some ir => d.dfl.isEmpty && (d.kwd.isEmpty && (scB N ps d.scope && (decide (ir.n = N.length) && (decide (ir.ps = ps.length) && (mSs T.nm N ir.body d.scope d.body && (match nth T.fs f with
    | some s => decide (d.at_ = (s, none))
    | none => true))))))
  | _, _ => false
/-- the tables' own sense -/
def Tb.st (T : Tb) : Bool := decide (0 < T.cs.length) && ((upTo T.ds.length fun f => T.defB f) && (decide (T.fs.length ≤ T.ds.length) && ((upTo T.cs.length fun c => match T.P.ini c with
    | some f => (match T.ds[f]? with
      | some (d, _, _) => decide (d.at_ = (T.cAt c, some ("__init__" : Str)))
      | none => false)
    | none => true))))
/-- a method's text in its class -/
def inCls : Stmt → Nat → Stmt
  | .ClassDef _ _ _ b _ _ _ _ _ _ _, j => b.getD j (Stmt.Pass default)
  | _, _ => Stmt.Pass default
/-! ### what the tables and the heap give -/
/-- tab: each class's line of ancestors, itself among them -/
def subOf (tab : List (List Nat)) (c d : Nat) : Option Bool := match tab[c]? with
  | some l => if d < tab.length then some (l.contains d) else none
  | none => none
def subTOf (n : Nat) (c : Nat) (t : String) : Option Bool := if c < n ∧ t ∈ tyNames then some (t == "ValueError") else none
def subBOf (n : Nat) (t : String) (d : Nat) : Option Bool := if t ∈ tyNames ∧ d < n then some false else none
theorem subOf_lt {tab : List (List Nat)} {c d : Nat} {b : Bool} (h : subOf tab c d = some b) : c < tab.length ∧ d < tab.length := by
  unfold subOf at h
  split at h
  · rename_i l e
    split at h
    · rename_i hd
      exact ⟨(List.getElem?_eq_some_iff.mp e).1, hd⟩
    · cases h
  · cases h
theorem subTOf_in {n c : Nat} {t : String} {b : Bool} (h : subTOf n c t = some b) : c < n ∧ t ∈ tyNames := by
  unfold subTOf at h
  split at h
  · assumption
  · cases h
theorem subBOf_in {n d : Nat} {t : String} {b : Bool} (h : subBOf n t d = some b) : t ∈ tyNames ∧ d < n := by
  unfold subBOf at h
  split at h
  · assumption
  · cases h
theorem kitB2_ok {K : PySem.W.Frag} {a b : Value} {o : Option Bool} {r : Bool} (h : kitB2 K a b o = true) (e : o = some r) : PySem.W.kitOne K a b = some r := by
  subst e
  exact of_decide_eq_true h
/-- a def binds its values by place -/
def PB (d : He.DefD) (ps : List Str) : Prop := ∀ (kV doc pm : Value) (an : Option Addr) (cdv ct : Value) (us : List Value), us.length = ps.length → bindArgs (PySem.W.fnOf d.name d.qual d.params d.body d.scope .none kV doc pm an cdv ct) ⟨us, []⟩ = pure (ps.zip us)
/-- .. and by the names ks behind the first -/
def PKw (d : He.DefD) (ps ks : List Str) : Prop := ∀ (kV doc pm : Value) (an : Option Addr) (cdv ct u : Value) (ws : List Value), ws.length + 1 = ps.length → bindArgs (PySem.W.fnOf d.name d.qual d.params d.body d.scope .none kV doc pm an cdv ct) ⟨[u], ks.zip ws⟩ = pure (ps.zip (u :: ws))
/-- what is known of a law's tables -/
structure GoodT (T : Tb) : Prop where
  st : T.st = true
  pb : ∀ (f : Nat) (d : He.DefD) (N ps : List Str), T.ds[f]? = some (d, N, ps) → PB d ps
  pk : ∀ (c f : Nat) (d : He.DefD) (N ps ks : List Str), T.P.ini c = some f → T.ds[f]? = some (d, N, ps) → nth T.kw c = some ks → PKw d ps ks
  sub : ∀ c d b, T.P.sub c d = some b → c < T.cs.length ∧ d < T.cs.length
  subT : ∀ c n b, T.P.subT c n = some b → c < T.cs.length ∧ n ∈ tyNames
  subB : ∀ n d b, T.P.subB n d = some b → n ∈ tyNames ∧ d < T.cs.length
section
variable {T : Tb} {fa : List He.Fa} {K : PySem.W.Frag} {h : Heap} {mg : Str → Option Value}
theorem cAt_some {c : Nat} {s : Str} (e : T.cs[c]? = some s) : T.cAt c = s := by
  unfold Tb.cAt
  rw [e]
/-- where a class without a number points: the first's -/
theorem cAt_in (h : 0 < T.cs.length) (c : Nat) : ∃ d, d < T.cs.length ∧ T.cAt c = T.cAt d := by
  by_cases hc : c < T.cs.length
  · exact ⟨c, hc, rfl⟩
  · refine ⟨0, h, ?_⟩
    unfold Tb.cAt
    rw [List.getElem?_eq_none (Nat.not_lt.mp hc)]
    cases e : T.cs with
    | nil => rw [e] at h; cases h
    | cons s r => rfl
theorem defAt (g : GoodT T) (c : He.SaysD fa (T.ds.map (·.1)) K) {f : Nat} {d : He.DefD} {N ps : List Str} (e : T.ds[f]? = some (d, N, ps)) : ∃ fd, DefAt T.P T.nm K f (He.fAd K d.at_) fd ps ∧ FunD K d.name d.qual d.params d.body d.scope [] [] (He.fAd K d.at_) fd ∧
    (∀ s, nth T.fs f = some s → d.at_ = (s, none)) := by
  obtain ⟨_, h⟩ := b2 g.st
  obtain ⟨h, _⟩ := b2 h
  have q := upTo_ok h (List.getElem?_eq_some_iff.mp e).1
  unfold Tb.defB at q
  rw [e] at q
  cases ef : T.P.fs[f]? with
  | none => rw [ef] at q; cases q
  | some ir =>
    rw [ef] at q
    obtain ⟨q1, q⟩ := b2 q
    obtain ⟨q2, q⟩ := b2 q
    obtain ⟨q3, q⟩ := b2 q
    obtain ⟨q4, q⟩ := b2 q
    obtain ⟨q5, q⟩ := b2 q
    obtain ⟨q6, q7⟩ := b2 q
    obtain ⟨fd, F⟩ := c.defs (d := d) (List.mem_map.mpr ⟨_, List.mem_of_getElem? e, rfl⟩)
    have e1 : d.dvs K = [] := by
      unfold He.DefD.dvs
      rw [List.isEmpty_iff.mp q1]
      rfl
    have e2 : d.kws K = [] := by
      unfold He.DefD.kws
      rw [List.isEmpty_iff.mp q2]
      rfl
    rw [e1, e2] at F
    refine ⟨fd, ⟨d, N, ir, F, scB_ok q3, FunD.bindsN F (g.pb f d N ps e), ef, of_decide_eq_true q4, of_decide_eq_true q5, q6⟩, F, fun s hs => ?_⟩
    rw [hs] at q7
    exact of_decide_eq_true q7
theorem kx_of (g : GoodT T) (X : K.In h) (G : h.Ns mainGlobals mg) (c : He.SaysD fa (T.ds.map (·.1)) K) (e : T.ex K = true) : KX T.P T.nm (T.cl K) K mg := by
  obtain ⟨f1, e⟩ := b2 e
  obtain ⟨f2, e⟩ := b2 e
  obtain ⟨f3, e⟩ := b2 e
  obtain ⟨f4, e⟩ := b2 e
  obtain ⟨f5, f6⟩ := b2 e
  obtain ⟨s1, s⟩ := b2 g.st
  obtain ⟨s2, s⟩ := b2 s
  obtain ⟨s3, s4⟩ := b2 s
  have pos := of_decide_eq_true s1
  have fr : ∀ x ∈ frees, mg x = none := fun x hx => He.free_ok X G (List.all_eq_true.mp f1 x hx)
  have cl : ∀ c, c < T.cs.length → T.clB K c (T.cAt c) = true := fun c hc => upTo_ok f3 hc
  have lt : ∀ c s, T.nm.cn c = some s → c < T.cs.length ∧ T.cAt c = s := fun c s hs => ⟨(List.getElem?_eq_some_iff.mp hs).1, cAt_some hs⟩
  exact {
    blt := fun b => fr _ (by cases b <;> decide)
    rng := fr _ (by decide)
    enu := fr _ (by decide)
    zip := fr _ (by decide)
    isi := fr _ (by decide)
    ty := fun n hn => fr _ (by
      simp only [tyNames, List.mem_cons, List.not_mem_nil, or_false] at hn
      rcases hn with rfl | rfl | rfl | rfl | rfl | rfl <;> decide)
    fns := fun f s hs => by
      have hs' : nth T.fs f = some s := hs
      have hf : f < T.fs.length := by
        unfold nth at hs'
        split at hs'
        · rename_i e; exact (List.getElem?_eq_some_iff.mp e).1
        · cases hs'
      have hd : f < T.ds.length := Nat.lt_of_lt_of_le hf (of_decide_eq_true s3)
      obtain ⟨⟨d, N, ps⟩, ed⟩ : ∃ z, T.ds[f]? = some z := ⟨_, List.getElem?_eq_getElem hd⟩
      obtain ⟨fd, hD, _, ha⟩ := defAt g c ed
      have q : (He.Fa.glo s).ok K = true := by
        have := List.all_eq_true.mp f2 (some s) (by
          unfold nth at hs'
          split at hs'
          · rename_i e
            cases hs'
            exact List.mem_of_getElem? e
          · cases hs')
        exact this
      refine ⟨_, fd, ps, ?_, hD⟩
      rw [ha s hs']
      exact He.glo_ok X G q
    mgc := fun c s hs => by
      obtain ⟨l1, l2⟩ := lt c s hs
      have q := (b2 (cl c l1)).1
      unfold Tb.cl
      rw [l2] at q ⊢
      exact He.glo_ok X G q
    exf := fun c => by
      obtain ⟨d, hd, ed⟩ := cAt_in pos c
      unfold Tb.cl
      rw [ed]
      exact exB_ok (b2 (b2 (cl d hd)).2).1
    fno := fun c f hf => by
      obtain ⟨d, hd, ed⟩ := cAt_in pos c
      unfold Tb.cl
      rw [ed]
      exact He.noat_ok (List.all_eq_true.mp (b2 (b2 (b2 (cl d hd)).2).2).1 f hf)
    hiT := fun c hc hn => by
      have q : (T.P.ini c).isSome = true := hc
      rw [hn] at q
      cases q
    hiF := fun c hc => by
      have q : (T.P.ini c).isSome = false := hc
      cases e : T.P.ini c with
      | none => rfl
      | some f => rw [e] at q; cases q
    ini := fun c' s f hs hf => by
      obtain ⟨l1, l2⟩ := lt c' s hs
      have q := (b2 (b2 (b2 (cl c' l1)).2).2).2
      rw [hf] at q
      obtain ⟨q1, q2⟩ := b2 q
      have q3 := upTo_ok s4 l1
      rw [hf] at q3
      simp only at q3
      cases ed : T.ds[f]? with
      | none => rw [ed] at q3; cases q3
      | some z =>
        obtain ⟨d, N, ps⟩ := z
        rw [ed] at q3
        have ea := of_decide_eq_true q3
        obtain ⟨fd, hD, F, _⟩ := defAt g c ed
        have eA : He.fAd K d.at_ = He.ma K (He.ga K (T.cAt c')) "__init__" := by
          rw [ea]
          rfl
        exact ⟨_, fd, ps, by rw [eA]; exact He.eqO_ok q1, by rw [eA]; exact of_decide_eq_true q2, hD, fun ks hk => kwTo_of F (g.pk c' f d N ps ks hf ed hk)⟩
    ini0 := fun c s hs hf => by
      obtain ⟨l1, l2⟩ := lt c s hs
      have q := (b2 (b2 (b2 (cl c l1)).2).2).2
      rw [hf] at q
      exact b2 q
    sub := fun c d b hb => kitB2_ok (upTo_ok (upTo_ok f4 (g.sub c d b hb).1) (g.sub c d b hb).2) hb
    subT := fun c n b hb => kitB2_ok (List.all_eq_true.mp (upTo_ok f5 (g.subT c n b hb).1) n (g.subT c n b hb).2) hb
    subB := fun n d b hb => kitB2_ok (upTo_ok (List.all_eq_true.mp f6 n (g.subB n d b hb).1) (g.subB n d b hb).2) hb }
end
end VI


set_option Elab.async false
set_option linter.all false
set_option maxRecDepth 100000
set_option maxHeartbeats 4000000
namespace VI
open PySem PySem.Spec PyProof.Rows L2
/-! ### a law from its run -/
theorem ints_rel {ι : List Addr} : ∀ {ns : List Int}, RVs ι (ns.map MV.int) (ns.map V.int)
  | [] => .nil
  | _ :: _ => .cons rfl ints_rel
theorem script_rs {K : PySem.W.Frag} {cl : Nat → Addr} {H : Hp} {a : Addr} {ns : List Int} (hO : Only H) (hS : SqL K H a (ns.map V.int)) : RS K cl [a] [.frz (ns.map MV.int)] H where
  len := rfl
  ob := fun i o p e1 e2 => by
    match i, e1, e2 with
    | 0, e1, e2 =>
      cases e1
      cases e2
      refine ⟨_, ints_rel, ?_⟩
      rcases hS with (h | ⟨o, h⟩) | h
      · rcases hO a with q | ⟨o, xs, q⟩
        · rw [q] at h; cases h
        · rw [q] at h; cases h
      · exact .inl ⟨o, h⟩
      · exact .inr h
    | i + 1, e1, _ => cases e1
  inj := fun i j o o' p e1 _ _ _ _ => by
    match i, e1 with
    | 0, e1 =>
      cases e1
      exact .inl rfl
    | i + 1, e1 => cases e1
theorem script_sp {P : Pg} {K : PySem.W.Frag} {cl : Nat → Addr} {H : Hp} {a : Addr} {ns : List Int} {k f : Nat} {ir : Df} (hf : P.fs[f]? = some ir) (hp : ir.ps = 1) (hO : Only H) (hS : SqL K H a (ns.map V.int))
    (h : ∃ m, callF P k f [.ref 0] [.frz (ns.map MV.int)] = .ok (.bl true) m) : spF P K cl k f [.ref a] H (fun v _ => v = .bl true) fun _ _ _ => False := by
  obtain ⟨m, e⟩ := h
  refine ⟨[a], _, [.ref 0], ir, hf, by rw [hp] <;> rfl, .cons ⟨a, rfl, rfl⟩ .nil, script_rs hO hS, ?_⟩
  rw [e]
  exact fun ι' w H' _ r _ => r
theorem glo_of {T : Tb} {K : PySem.W.Frag} {h : Heap} {mg : Str → Option Value} (X : K.In h) (G : h.Ns mainGlobals mg) (e : T.ex K = true) {f : Nat} {s : Str} (hs : nth T.fs f = some s) : mg s = some (.ref (He.ga K s)) := by
  obtain ⟨_, e⟩ := b2 e
  obtain ⟨f2, _⟩ := b2 e
  have q : (He.Fa.glo s).ok K = true := List.all_eq_true.mp f2 (some s) (by
    unfold nth at hs
    split at hs
    · rename_i e
      cases hs
      exact List.mem_of_getElem? e
    · cases hs)
  exact He.glo_ok X G q
/-- THE END: tables that are good, a run that ends true -/
theorem walk_run {l : PySem.W.OpenLaw} {n m k f : Nat} {q : Program} {loose : List Str} {XP : (Str → Option Value) → Heap → Prop} {d : DefRec} {T : Tb} {fa : List He.Fa} {x : Str} {dd : He.DefD} {N : List Str}
    (hn : l.most = some n) (hn2 : n ≤ sizeLine) (hdf : d.params.defaults = []) (hr : Room (2 * k + 1) callerA) (g : GoodT T) (hs : nth T.fs f = some d.name) (hd : T.ds[f]? = some (dd, N, [x]))
    (run : ∀ ns : List Int, ns.length ≤ n → ∃ m, callF T.P k f [.ref 0] [.frz (ns.map MV.int)] = .ok (.bl true) m) :
    PySem.W.WalkO q loose XP (He.hookX m fa (T.ds.map (·.1)) [] [] T.ex).says l.row.toRowW d [] (fun f vs => PySem.call f vs) := by
  refine Att.attach_call hn hdf fun w s₀ s₁ mg mb fx o pm cd doc a vs ns G Y ho hdt hcd hmg hobj hints hlen hg => ?_
  obtain ⟨K, X, c⟩ := Y
  have kx := kx_of g X G.T.g c.t.d c.more
  obtain ⟨fd, hD, F, ha⟩ := defAt g c.t.d hd
  have e1 := glo_of X G.T.g c.more hs
  have e2 : He.fAd K dd.at_ = He.ga K d.name := by
    rw [ha _ hs]
    rfl
  have e3 : fx = He.fAd K dd.at_ := by
    rw [hmg] at e1
    cases e1
    exact e2.symm
  rw [e3] at hmg ⊢
  obtain ⟨d2, N2, ir, _, _, _, hf, _, hp, _⟩ := id hD
  exact law_call X G.T.g G.T.b G.T.builtins G.T.nolimit hg hobj hints (Nat.le_trans hlen hn2) hr (fun base _ _ => def_ok kx base k f _ fd [x] hD) (fun s u => F.bindsA (g.pb f dd N [x] hd) s [u] rfl)
    (fun H hO hS => script_sp hf hp hO hS (run ns hlen)) fun H e s' ⟨_, _, _, _, _, _, _, _, _, _, _, _, z⟩ => z
end VI


set_option Elab.async false
set_option linter.all false
set_option maxRecDepth 100000
set_option maxHeartbeats 4000000
namespace VI
open PySem PySem.Spec PyProof.Rows L2
/-! ### what a run gives -/
def WP {α : Type} (r : Rs α) (Q : α → M → Prop) : Prop := match r with
  | .ok v m => Q v m
  | _ => False
def WS (r : Fl) (N : SL → M → Prop) (R : MV → M → Prop) : Prop := match r with
  | .nx s m => N s m
  | .rt v m => R v m
  | _ => False
theorem WP.imp {α : Type} {r : Rs α} {Q Q' : α → M → Prop} (h : WP r Q) (f : ∀ v m, Q v m → Q' v m) : WP r Q' := by
  cases r <;> first | exact f _ _ h | exact h
theorem WP_ok {α : Type} {v : α} {m : M} {Q : α → M → Prop} : WP (.ok v m) Q ↔ Q v m := Iff.rfl
theorem WP_bind {α β : Type} {r : Rs α} {f : α → M → Rs β} {Q : β → M → Prop} : WP (r.bind f) Q ↔ WP r fun v m => WP (f v m) Q := by
  cases r <;> exact Iff.rfl
theorem WS_fl {α : Type} {r : Rs α} {s : SL} {f : α → M → Fl} {N : SL → M → Prop} {R : MV → M → Prop} : WS (r.fl s f) N R ↔ WP r fun v m => WS (f v m) N R := by
  cases r <;> exact Iff.rfl
theorem WS_nx {s : SL} {m : M} {N : SL → M → Prop} {R : MV → M → Prop} : WS (.nx s m) N R ↔ N s m := Iff.rfl
theorem WS_rt {v : MV} {m : M} {N : SL → M → Prop} {R : MV → M → Prop} : WS (.rt v m) N R ↔ R v m := Iff.rfl
theorem WS_cons {G : Cfg} {a : S} {r : Ss} {s : SL} {m : M} {N : SL → M → Prop} {R : MV → M → Prop} (h : WS (evS G a s m) (fun s m => WS (evSs G r s m) N R) R) : WS (evSs G (.cons a r) s m) N R := by
  unfold evSs
  cases e : evS G a s m <;> rw [e] at h <;> exact h
theorem WS_nil {G : Cfg} {s : SL} {m : M} {N : SL → M → Prop} {R : MV → M → Prop} : WS (evSs G .nil s m) N R ↔ N s m := by
  unfold evSs
  exact Iff.rfl
theorem WS.imp {r : Fl} {N N' : SL → M → Prop} {R R' : MV → M → Prop} (h : WS r N R) (f : ∀ s m, N s m → N' s m) (g : ∀ v m, R v m → R' v m) : WS r N' R' := by
  cases r <;> first | exact f _ _ h | exact g _ _ h | exact h
/-- a call -/
theorem WP_call {P : Pg} {k f : Nat} {xs : List MV} {m : M} {Q : MV → M → Prop} {d : Df} (hf : P.fs[f]? = some d) (hl : xs.length = d.ps)
    (h : WS (evSs (P.cfg (callF P k)) d.body (xs.map some ++ List.replicate (d.n - xs.length) none) m) (fun _ m => Q .non m) Q) : WP (callF P (k + 1) f xs m) Q := by
  unfold callF
  rw [hf]
  simp only
  rw [if_pos hl]
  revert h
  cases evSs (P.cfg (callF P k)) d.body (xs.map some ++ List.replicate (d.n - xs.length) none) m <;> intro h <;> exact h
theorem WP_ite {α : Type} {c : Prop} [Decidable c] {a b : Rs α} {Q : α → M → Prop} : WP (if c then a else b) Q ↔ ((c → WP a Q) ∧ (¬ c → WP b Q)) := by
  split <;> rename_i h <;> simp [h]
theorem WS_ite {c : Prop} [Decidable c] {a b : Fl} {N : SL → M → Prop} {R : MV → M → Prop} : WS (if c then a else b) N R ↔ ((c → WS a N R) ∧ (¬ c → WS b N R)) := by
  split <;> rename_i h <;> simp [h]
/-! ### rules, by the head of what is run -/
section
variable {G : Cfg} {s : SL} {m : M} {Q : MV → M → Prop} {QS : List MV → M → Prop} {N : SL → M → Prop} {R : MV → M → Prop} {a b c e t : E} {es : Es} {A B : Ss} {x y v : MV} {i j : Int} {n : Nat}
theorem W_var (h : s[n]? = some (some v)) (q : Q v m) : WP (evE G (.var n) s m) Q := by
  simp only [evE]
  rw [h]
  exact q
theorem W_int (q : Q (.int i) m) : WP (evE G (.int i) s m) Q := by simp only [evE]; exact q
theorem W_str {z : Str} (q : Q (.str z) m) : WP (evE G (.str z) s m) Q := by simp only [evE]; exact q
theorem W_bl {z : Bool} (q : Q (.bl z) m) : WP (evE G (.bl z) s m) Q := by simp only [evE]; exact q
theorem W_non (q : Q .non m) : WP (evE G .non s m) Q := by simp only [evE]; exact q
theorem W_bin {o : Operator} (h : WP (evE G a s m) fun x m1 => WP (evE G b s m1) fun y m2 => WP (opV o x y m2) Q) : WP (evE G (.bin o a b) s m) Q := by
  simp only [evE, WP_bind]
  exact h
theorem W_cmp {o : CmpOp} (h : WP (evE G a s m) fun x m1 => WP (evE G b s m1) fun y m2 => WP (cmpV o x y m2) Q) : WP (evE G (.cmp o a b) s m) Q := by
  simp only [evE, WP_bind]
  exact h
/-- a truth, looked at -/
def Tr (m : M) (x : MV) (A B : Prop) : Prop := ∃ b, truV m x = some b ∧ (b = true → A) ∧ (b = false → B)
theorem Tr_bl {z : Bool} {A B : Prop} (h1 : z = true → A) (h2 : z = false → B) : Tr m (.bl z) A B := ⟨z, rfl, h1, h2⟩
theorem W_and (h : WP (evE G a s m) fun x m1 => Tr m1 x (WP (evE G b s m1) Q) (Q x m1)) : WP (evE G (.and a b) s m) Q := by
  simp only [evE, WP_bind]
  refine h.imp fun x m1 ⟨z, e, h1, h2⟩ => ?_
  rw [e]
  cases z with
  | true => exact h1 rfl
  | false => exact h2 rfl
theorem W_or (h : WP (evE G a s m) fun x m1 => Tr m1 x (Q x m1) (WP (evE G b s m1) Q)) : WP (evE G (.or a b) s m) Q := by
  simp only [evE, WP_bind]
  refine h.imp fun x m1 ⟨z, e, h1, h2⟩ => ?_
  rw [e]
  cases z with
  | true => exact h1 rfl
  | false => exact h2 rfl
theorem W_ite (h : WP (evE G c s m) fun x m1 => Tr m1 x (WP (evE G a s m1) Q) (WP (evE G b s m1) Q)) : WP (evE G (.ite c a b) s m) Q := by
  simp only [evE, WP_bind]
  refine h.imp fun x m1 ⟨z, e, h1, h2⟩ => ?_
  rw [e]
  cases z with
  | true => exact h1 rfl
  | false => exact h2 rfl
theorem W_not (h : WP (evE G a s m) fun x m1 => ∃ z, x = .bl z ∧ Q (.bl (!z)) m1) : WP (evE G (.not a) s m) Q := by
  simp only [evE, WP_bind]
  refine h.imp fun x m1 ⟨z, e, h1⟩ => ?_
  subst e
  exact h1
theorem W_neg (h : WP (evE G a s m) fun x m1 => ∃ z, x = .int z ∧ Q (.int (-z)) m1) : WP (evE G (.neg a) s m) Q := by
  simp only [evE, WP_bind]
  refine h.imp fun x m1 ⟨z, e, h1⟩ => ?_
  subst e
  exact h1
theorem W_tup (h : WP (evEs G es s m) fun xs m1 => xs.length ≤ big ∧ Q (.ref m1.length) (m1 ++ [.tup xs])) : WP (evE G (.tup es) s m) Q := by
  simp only [evE, WP_bind]
  refine h.imp fun x m1 ⟨e, h1⟩ => ?_
  rw [if_pos e]
  exact h1
theorem W_lst (h : WP (evEs G es s m) fun xs m1 => xs.length ≤ big ∧ Q (.ref m1.length) (m1 ++ [.lst xs])) : WP (evE G (.lst es) s m) Q := by
  simp only [evE, WP_bind]
  refine h.imp fun x m1 ⟨e, h1⟩ => ?_
  rw [if_pos e]
  exact h1
theorem W_sub (h : WP (evE G a s m) fun x m1 => WP (evE G b s m1) fun y m2 => WP (subV x y m2) Q) : WP (evE G (.sub a b) s m) Q := by
  simp only [evE, WP_bind]
  exact h
theorem W_sl {lo hi : E} (h : WP (evE G a s m) fun x m1 => WP (evO G lo s m1) fun l m2 => WP (evO G hi s m2) fun u m3 => WP (slV x l u m3) Q) : WP (evE G (.sl a lo hi) s m) Q := by
  simp only [evE, WP_bind]
  exact h
theorem W_call (h : WP (evEs G es s m) fun xs m1 => WP (G.cf n xs m1) Q) : WP (evE G (.call n es) s m) Q := by
  simp only [evE, WP_bind]
  exact h
theorem W_bi {f : Bi} (h : WP (evEs G es s m) fun xs m1 => WP (biV f xs m1) Q) : WP (evE G (.bi f es) s m) Q := by
  simp only [evE, WP_bind]
  exact h
theorem W_mk (h : WP (evEs G es s m) fun xs m1 => WP (mkX G n xs m1) Q) : WP (evE G (.mk n es) s m) Q := by
  simp only [evE, WP_bind]
  exact h
theorem W_mkK (h : WP (evEs G es s m) fun xs m1 => WP (mkX G n xs m1) Q) : WP (evE G (.mkK n es) s m) Q := by
  simp only [evE, WP_bind]
  exact h
theorem W_fld {f : Str} (h : WP (evE G a s m) fun x m1 => WP (fldV x f m1) Q) : WP (evE G (.fld a f) s m) Q := by
  simp only [evE, WP_bind]
  exact h
theorem W_isi {cs : List Cl} {many : Bool} (h : WP (evE G a s m) fun x m1 => ∃ t z, tyName m1 x = some t ∧ anyO (cs.map (tySub G t)) = some z ∧ (many && t.isRight) = false ∧ Q (.bl z) m1) : WP (evE G (.isi a cs many) s m) Q := by
  simp only [evE, WP_bind]
  refine h.imp fun x m1 ⟨t, z, e1, e2, e3, q⟩ => ?_
  rw [e1]
  simp only
  rw [e2]
  simp only
  rw [e3]
  exact q
theorem W_mt {f : Mt} (h : WP (evE G a s m) fun x m1 => isLst m1 x = true ∧ WP (evEs G es s m1) fun xs m2 => WP (mtV f x xs m2) Q) : WP (evE G (.mt f a es) s m) Q := by
  simp only [evE, WP_bind]
  refine h.imp fun x m1 ⟨e, h1⟩ => ?_
  rw [if_pos e]
  exact WP_bind.mpr h1
theorem W_join (h : WP (evE G a s m) fun x m1 => isStr x = true ∧ WP (evE G b s m1) fun y m2 => WP (joinV x y m2) Q) : WP (evE G (.join a b) s m) Q := by
  simp only [evE, WP_bind]
  refine h.imp fun x m1 ⟨e, h1⟩ => ?_
  rw [if_pos e]
  exact WP_bind.mpr h1
theorem W_nil (q : QS [] m) : WP (evEs G .nil s m) QS := by simp only [evEs]; exact q
theorem W_cons (h : WP (evE G e s m) fun x m1 => WP (evEs G es s m1) fun xs m2 => QS (x :: xs) m2) : WP (evEs G (.cons e es) s m) QS := by
  simp only [evEs, WP_bind]
  exact h
theorem O_nop {QO : Option Int → M → Prop} (q : QO none m) : WP (evO G .nop s m) QO := by simp only [evO]; exact q
theorem O_int {QO : Option Int → M → Prop} (q : QO (some i) m) : WP (evO G (.int i) s m) QO := by simp only [evO]; exact q
theorem O_var {QO : Option Int → M → Prop} (h : s[n]? = some (some (.int i))) (q : QO (some i) m) : WP (evO G (.var n) s m) QO := by
  simp only [evO]
  rw [h]
  exact q
theorem O_bin {o : Operator} {QO : Option Int → M → Prop} (h : WP (evE G a s m) fun x m1 => WP (evE G b s m1) fun y m2 => WP (opV o x y m2) fun v m3 => ∃ k, v = .int k ∧ QO (some k) m3) : WP (evO G (.bin o a b) s m) QO := by
  simp only [evO, WP_bind]
  refine h.imp fun x m1 h => h.imp fun y m2 h => h.imp fun v m3 ⟨k, e, q⟩ => ?_
  subst e
  exact q
/-! #### statements -/
theorem S_asg (h : WP (evE G e s m) fun v m1 => N (s.set n (some v)) m1) : WS (evS G (.asg n e) s m) N R := by
  simp only [evS, WS_fl]
  exact h
theorem S_par {is : List Nat} (h : WP (evEs G es s m) fun vs m1 => vs.length = is.length ∧ N (setAll s is vs) m1) : WS (evS G (.par is es) s m) N R := by
  simp only [evS, WS_fl]
  refine h.imp fun vs m1 ⟨e, q⟩ => ?_
  rw [if_pos e]
  exact q
theorem S_unp {is : List Nat} (h : WP (evE G e s m) fun v m1 => ∃ p xs, v = .ref p ∧ (m1[p]? = some (.tup xs) ∨ m1[p]? = some (.lst xs)) ∧ xs.length = is.length ∧ N (setAll s is xs) m1) : WS (evS G (.unp is e) s m) N R := by
  simp only [evS, WS_fl]
  refine h.imp fun v m1 ⟨p, xs, e, hm, hl, q⟩ => ?_
  subst e
  rcases hm with hm | hm
  · simp only [hm]
    rw [if_pos hl]
    exact q
  · simp only [hm]
    rw [if_pos hl]
    exact q
theorem S_sub (h : WP (evE G e s m) fun v m1 => WP (evE G a s m1) fun x m2 => WP (evE G b s m2) fun k m3 => ∃ p xs j n, x = .ref p ∧ k = .int j ∧ m3[p]? = some (.lst xs) ∧ ixN xs.length j = some n ∧ N s (m3.set p (.lst (xs.set n v)))) :
    WS (evS G (.sub a b e) s m) N R := by
  simp only [evS, WS_fl]
  refine h.imp fun v m1 h => h.imp fun x m2 h => h.imp fun k m3 ⟨p, xs, j, n, e1, e2, e3, e4, q⟩ => ?_
  subst e1 e2
  simp only [e3, e4]
  exact q
theorem S_ex (h : WP (evE G e s m) fun v m1 => N s m1) : WS (evS G (.ex e) s m) N R := by
  simp only [evS, WS_fl]
  exact h
theorem S_ret (h : WP (evE G e s m) R) : WS (evS G (.ret e) s m) N R := by
  simp only [evS, WS_fl]
  exact h
theorem S_ife (h : WP (evE G t s m) fun x m1 => Tr m1 x (WS (evSs G A s m1) N R) (WS (evSs G B s m1) N R)) : WS (evS G (.ife t A B) s m) N R := by
  simp only [evS, WS_fl]
  refine h.imp fun x m1 ⟨z, e, h1, h2⟩ => ?_
  rw [e]
  cases z with
  | true => exact h1 rfl
  | false => exact h2 rfl
/-! #### reckoning -/
theorem V_add (q : Q (.int (i + j)) m) : WP (opV .Add (.int i) (.int j) m) Q := q
theorem V_dif (q : Q (.int (i - j)) m) : WP (opV .Sub (.int i) (.int j) m) Q := q
theorem V_mul (h : (-(2 ^ 64) < i ∧ i < 2 ^ 64) ∨ (-(2 ^ 64) < j ∧ j < 2 ^ 64)) (q : Q (.int (i * j)) m) : WP (opV .Mult (.int i) (.int j) m) Q := by
  unfold opV
  simp only
  rw [if_pos (by rcases h with h | h; exact .inl h; exact .inr (.inl h))]
  exact q
theorem V_div (h : 0 < j ∧ j.natAbs.log2 < 9000) (q : Q (.int (i / j)) m) : WP (opV .FloorDiv (.int i) (.int j) m) Q := by
  unfold opV
  simp only
  rw [if_pos h]
  exact q
theorem V_mod (h : 0 < j) (q : Q (.int (i % j)) m) : WP (opV .Mod (.int i) (.int j) m) Q := by
  unfold opV
  simp only
  rw [if_pos h]
  exact q
theorem V_pow (h : 0 ≤ j ∧ j ≤ 1000000 ∧ i.natAbs < 2 ^ 64) (q : Q (.int (i ^ j.toNat)) m) : WP (opV .Pow (.int i) (.int j) m) Q := by
  unfold opV
  simp only
  rw [if_pos h]
  exact q
theorem V_cat {p r : Nat} {xs ys : List MV} (h1 : m[p]? = some (.lst xs)) (h2 : m[r]? = some (.lst ys)) (hl : xs.length + ys.length ≤ big) (q : Q (.ref m.length) (m ++ [.lst (xs ++ ys)])) : WP (opV .Add (.ref p) (.ref r) m) Q := by
  unfold opV
  simp only [h1, h2]
  rw [if_pos hl]
  exact q
theorem V_scat {x y : Str} (hl : x.length + y.length ≤ big) (q : Q (.str (x ++ y)) m) : WP (opV .Add (.str x) (.str y) m) Q := by
  unfold opV
  simp only
  rw [if_pos hl]
  exact q
theorem C_gt (q : Q (.bl (decide (j < i))) m) : WP (cmpV .Gt (.int i) (.int j) m) Q := q
theorem C_ge (q : Q (.bl (decide (j ≤ i))) m) : WP (cmpV .GtE (.int i) (.int j) m) Q := q
theorem C_lt (q : Q (.bl (decide (i < j))) m) : WP (cmpV .Lt (.int i) (.int j) m) Q := q
theorem C_le (q : Q (.bl (decide (i ≤ j))) m) : WP (cmpV .LtE (.int i) (.int j) m) Q := q
theorem C_eq (h : scalM x y = true) (q : Q (.bl (decide (x = y))) m) : WP (cmpV .Eq x y m) Q := by
  unfold cmpV
  simp only
  rw [if_pos h]
  exact q
theorem C_ne (h : scalM x y = true) (q : Q (.bl (!decide (x = y))) m) : WP (cmpV .NotEq x y m) Q := by
  unfold cmpV
  simp only
  rw [if_pos h]
  exact q
theorem C_isN (q : Q (.bl (decide (x = .non))) m) : WP (cmpV .Is x .non m) Q := q
theorem B_int (q : Q (.int i) m) : WP (biV .int [.int i] m) Q := q
theorem B_intB {z : Bool} (q : Q (.int (if z then 1 else 0)) m) : WP (biV .int [.bl z] m) Q := q
theorem B_abs (q : Q (.int (if i < 0 then -i else i)) m) : WP (biV .abs [.int i] m) Q := q
theorem B_len {p : Nat} {xs : List MV} (h : seqOf m p = some xs) (q : Q (.int xs.length) m) : WP (biV .len [.ref p] m) Q := by
  unfold biV
  simp only [h]
  exact q
theorem B_lenS {z : Str} (h : z.length ≤ big) (q : Q (.int z.length) m) : WP (biV .len [.str z] m) Q := by
  unfold biV
  simp only
  rw [if_pos h]
  exact q
theorem B_list {p : Nat} {xs : List MV} (h : seqOf m p = some xs) (q : Q (.ref m.length) (m ++ [.lst xs])) : WP (biV .list [.ref p] m) Q := by
  unfold biV
  simp only [h]
  exact q
theorem B_listS {z : Str} (h : z.length ≤ big) (q : Q (.ref m.length) (m ++ [.lst (z.cps.toList.map fun c => .str ⟨#[c]⟩)])) : WP (biV .list [.str z] m) Q := by
  unfold biV
  simp only
  rw [if_pos h]
  exact q
theorem B_min (q : Q (.int (if j < i then j else i)) m) : WP (biV .min [.int i, .int j] m) Q := q
theorem B_all {p : Nat} {ys : List MV} {bs : List Bool} (h1 : m[p]? = some (.lst ys)) (h2 : blsOf ys = some bs) (q : Q (.bl (bs.all id)) m) : WP (biV .all [.ref p] m) Q := by
  unfold biV
  simp only [h1, h2]
  exact q
theorem D_at {p : Nat} {xs : List MV} (h : seqOf m p = some xs) (h2 : atI xs i = some v) (q : Q v m) : WP (subV (.ref p) (.int i) m) Q := by
  unfold subV
  simp only [h, h2]
  exact q
theorem D_atS {z : Str} {c : Nat} (h : z.length ≤ big) (h2 : atI z.cps.toList i = some c) (q : Q (.str ⟨#[c]⟩) m) : WP (subV (.str z) (.int i) m) Q := by
  unfold subV
  simp only
  rw [if_pos h, h2]
  exact q
theorem D_sl {p : Nat} {xs : List MV} {lo hi : Option Int} (h : m[p]? = some (.lst xs) ∨ m[p]? = some (.frz xs)) (q : Q (.ref m.length) (m ++ [.lst (cutM xs lo hi)])) : WP (slV (.ref p) lo hi m) Q := by
  unfold slV
  rcases h with h | h <;> simp only [h] <;> exact q
theorem T_app {p : Nat} {xs : List MV} (h : m[p]? = some (.lst xs)) (hl : xs.length < big) (q : Q .non (m.set p (.lst (xs ++ [v])))) : WP (mtV .append (.ref p) [v] m) Q := by
  unfold mtV
  simp only [h]
  rw [if_pos hl]
  exact q
theorem T_pop {p k : Nat} {xs : List MV} (h : m[p]? = some (.lst xs)) (hk : xs[k]? = some v) (hb : k < 2 ^ 63) (q : Q v (m.set p (.lst (xs.eraseIdx k)))) : WP (mtV .pop (.ref p) [.int k] m) Q := by
  have hlt := (List.getElem?_eq_some_iff.mp hk).1
  have e : seqIndex? (k : Int) xs.length = some k := (ixN_seq (show ixN xs.length (k : Int) = some k from by
    unfold ixN
    rw [if_pos (Int.natCast_nonneg k), if_pos (by omega)]
    simp)).1
  unfold mtV
  simp only [h]
  rw [if_pos ⟨by omega, by omega⟩, e]
  simp only [hk]
  exact q
theorem J_join {p : Nat} {a : Str} {ys : List MV} {zs : List Str} (h1 : seqOf m p = some ys) (h2 : strsOf ys = some zs) (hl : (zs.map (·.length)).sum + zs.length * a.length ≤ 16777216) (q : Q (.str (Txt.join a zs)) m) : WP (joinV (.str a) (.ref p) m) Q := by
  unfold joinV
  simp only [h1, h2]
  rw [if_pos hl]
  exact q
end
end VI


set_option Elab.async false
set_option linter.all false
set_option maxRecDepth 100000
set_option maxHeartbeats 4000000
namespace VI
open PySem PySem.Spec PyProof.Rows L2
end VI
local macro_rules | `(tactic| walk_at "vi1") => `(tactic| first
  | with_reducible refine VI.W_var rfl ?_ | with_reducible refine VI.W_int ?_ | with_reducible refine VI.W_bin ?_ | with_reducible refine VI.W_cmp ?_ | with_reducible refine VI.W_sub ?_ | with_reducible refine VI.W_bi ?_
  | with_reducible refine VI.W_cons ?_ | with_reducible refine VI.W_nil ?_ | with_reducible refine VI.W_call ?_ | with_reducible refine VI.W_lst ?_ | with_reducible refine VI.W_tup ?_ | with_reducible refine VI.W_str ?_
  | with_reducible refine VI.W_bl ?_ | with_reducible refine VI.W_non ?_ | with_reducible refine VI.W_and ?_ | with_reducible refine VI.W_or ?_ | with_reducible refine VI.W_ite ?_ | with_reducible refine VI.W_not ?_
  | with_reducible refine VI.W_neg ?_ | with_reducible refine VI.W_sl ?_ | with_reducible refine VI.W_mk ?_ | with_reducible refine VI.W_mkK ?_ | with_reducible refine VI.W_fld ?_ | with_reducible refine VI.W_isi ?_
  | with_reducible refine VI.W_mt ?_ | with_reducible refine VI.W_join ?_ | with_reducible refine VI.O_nop ?_ | with_reducible refine VI.O_int ?_ | with_reducible refine VI.O_var rfl ?_ | with_reducible refine VI.O_bin ?_
  | with_reducible refine VI.WS_cons ?_ | with_reducible refine VI.WS_nil.mpr ?_ | with_reducible refine VI.S_asg ?_ | with_reducible refine VI.S_par ?_ | with_reducible refine VI.S_unp ?_ | with_reducible refine VI.S_sub ?_ | with_reducible refine VI.S_ex ?_
  | with_reducible refine VI.S_ret ?_ | with_reducible refine VI.S_ife ?_
  | with_reducible refine VI.V_add ?_ | with_reducible refine VI.V_dif ?_ | with_reducible refine VI.V_mod (by first | omega | decide) ?_ | with_reducible refine VI.V_div (by first | decide | exact ⟨by omega, by decide⟩) ?_
  | with_reducible refine VI.V_mul (by first | exact .inl ⟨by omega, by omega⟩ | exact .inr ⟨by omega, by omega⟩) ?_
  | with_reducible refine VI.V_pow (by decide) ?_
  | with_reducible refine VI.C_gt ?_ | with_reducible refine VI.C_ge ?_ | with_reducible refine VI.C_lt ?_ | with_reducible refine VI.C_le ?_ | with_reducible refine VI.C_isN ?_
  | with_reducible refine VI.B_intB ?_ | with_reducible refine VI.B_int ?_ | with_reducible refine VI.B_abs ?_ | with_reducible refine VI.B_min ?_)
namespace VI
open PySem PySem.Spec PyProof.Rows L2
end VI
local macro_rules | `(tactic| walk_at "vi") => `(tactic| repeat walk_at "vi1")
namespace VI
open PySem PySem.Spec PyProof.Rows L2
/-! ### take: a draw from a box -/
def bTake : Ss :=
    (.cons (.ife (.cmp .Gt (.sub (.var 0) (.int 0)) (.int 0)) (.cons (.asg 2 (.bin .Mod (.bi .int (.cons (.sub (.var 0) (.int 0)) .nil)) (.var 1)))
    (.cons (.sub (.var 0) (.int 0) (.bin .FloorDiv (.sub (.var 0) (.int 0)) (.var 1)))
    (.cons (.ret (.var 2))
    .nil))) .nil)
    (.cons (.sub (.var 0) (.int 2) (.bin .Add (.sub (.var 0) (.int 2)) (.int 1)))
    (.cons (.asg 3 (.bin .Mod (.bi .int (.cons (.bin .Mult (.bin .Add (.sub (.var 0) (.int 1)) (.bin .Mult (.int 48271) (.sub (.var 0) (.int 2)))) (.bin .Add (.int 39373) (.sub (.var 0) (.int 2)))) .nil)) (.int 2147483647)))
    (.cons (.asg 4 (.bin .Add (.bin .Mod (.bi .int (.cons (.var 3) .nil)) (.int 40009)) (.int 7)))
    (.cons (.asg 5 (.bin .Mod (.bi .int (.cons (.bin .Mult (.bin .Add (.bin .Add (.var 3) (.sub (.var 0) (.int 2))) (.bin .FloorDiv (.sub (.var 0) (.int 1)) (.int 1000003))) (.var 4)) .nil)) (.int 2147483629)))
    (.cons (.ret (.bin .Mod (.bi .int (.cons (.bin .FloorDiv (.bin .Mod (.bi .int (.cons (.bin .Add (.bin .Mult (.var 5) (.int 48271)) (.var 3)) .nil)) (.int 2147483587)) (.int 64)) .nil)) (.var 1)))
    .nil))))))
def isBox (m : M) (a : Nat) (c : Nat) : Prop := ∃ x y : Int, ∃ z : Nat, m[a]? = some (.lst [.int x, .int y, .int z]) ∧ z ≤ c
theorem seq_lst {m : M} {a : Nat} {xs : List MV} (h : m[a]? = some (.lst xs)) : seqOf m a = some xs := by
  unfold seqOf
  rw [h]
theorem get_set {m : M} {a : Nat} {o : MO} (h : a < m.length) : (m.set a o)[a]? = some o := by simp [h]
theorem log_lt {n : Nat} (h0 : 0 < n) (h : n < 2 ^ 60) : (n : Int).natAbs.log2 < 9000 := by
  rw [Int.natAbs_natCast, Nat.log2_lt (by omega)]
  exact Nat.lt_of_lt_of_le h (Nat.pow_le_pow_right (by decide) (by decide))
theorem mod_nat {i : Int} {n : Nat} (h : 0 < n) : ∃ r : Nat, r < n ∧ MV.int (i % n) = .int r := by
  have h1 := Int.emod_nonneg i (show (n : Int) ≠ 0 by omega)
  have h2 := Int.emod_lt_of_pos i (show (0 : Int) < n by omega)
  exact ⟨(i % n).toNat, by omega, by rw [Int.toNat_of_nonneg h1]⟩
theorem take_ok {P : Pg} {f k a n c : Nat} {m : M} (hf : P.fs[f]? = some ⟨6, 2, bTake⟩) (hb : isBox m a c) (hc : c < 2 ^ 60) (h0 : 0 < n) (h1 : n < 2 ^ 60) :
    WP (callF P (k + 1) f [.ref a, .int n] m) fun v m' => (∃ r : Nat, r < n ∧ v = .int r) ∧ ∃ o, m' = m.set a o ∧ isBox m' a (c + 1) := by
  obtain ⟨x, y, z, hm, hz⟩ := hb
  have hlt : a < m.length := (List.getElem?_eq_some_iff.mp hm).1
  have hs := seq_lst hm
  have hg : (0 : Int) < n ∧ (n : Int).natAbs.log2 < 9000 := ⟨by omega, log_lt h0 h1⟩
  refine WP_call hf rfl ?_
  unfold bTake
  walk_at "vi"
  refine D_at hs rfl ?_
  walk_at "vi"
  refine Tr_bl (fun hx => ?_) (fun hx => ?_)
  · walk_at "vi"
    refine D_at hs rfl ?_
    walk_at "vi"
    refine D_at hs rfl ?_
    walk_at "vi"
    refine V_div hg ?_
    walk_at "vi"
    refine ⟨a, _, 0, 0, rfl, rfl, hm, rfl, ?_⟩
    walk_at "vi"
    exact ⟨mod_nat h0, _, rfl, x / n, y, z, get_set hlt, by omega⟩
  · walk_at "vi"
    refine D_at hs rfl ?_
    walk_at "vi"
    refine ⟨a, _, 2, 2, rfl, rfl, hm, rfl, ?_⟩
    have hs2 := seq_lst (get_set (m := m) (a := a) (o := .lst (List.set [.int x, .int y, .int z] 2 (.int (z + 1)))) hlt)
    walk_at "vi"
    refine D_at hs2 rfl ?_
    walk_at "vi"
    refine D_at hs2 rfl ?_
    walk_at "vi"
    refine D_at hs2 rfl ?_
    walk_at "vi"
    refine D_at hs2 rfl ?_
    walk_at "vi"
    refine D_at hs2 rfl ?_
    walk_at "vi"
    exact ⟨mod_nat h0, _, rfl, x, y, z + 1, get_set hlt, by omega⟩
end VI


set_option Elab.async false
set_option linter.all false
set_option maxRecDepth 100000
set_option maxHeartbeats 4000000
namespace VI
open PySem PySem.Spec PyProof.Rows L2
/-! ### stores that grow -/
/-- what stood outside S still stands -/
def Gr (S : List Nat) (m m' : M) : Prop := m.length ≤ m'.length ∧ ∀ (i : Nat) (o : MO), i ∉ S → m[i]? = some o → m'[i]? = some o
theorem lt_of {m : M} {i : Nat} {o : MO} (h : m[i]? = some o) : i < m.length := (List.getElem?_eq_some_iff.mp h).1
theorem Gr.refl {S : List Nat} {m : M} : Gr S m m := ⟨Nat.le_refl _, fun _ _ _ h => h⟩
theorem Gr.trans {S : List Nat} {m1 m2 m3 : M} (a : Gr S m1 m2) (b : Gr S m2 m3) : Gr S m1 m3 := ⟨Nat.le_trans a.1 b.1, fun i o hi h => b.2 i o hi (a.2 i o hi h)⟩
theorem Gr.mono {S S' : List Nat} {m m' : M} (a : Gr S m m') (h : ∀ i ∈ S, i ∈ S') : Gr S' m m' := ⟨a.1, fun i o hi e => a.2 i o (fun q => hi (h i q)) e⟩
theorem Gr.up {S : List Nat} {m m' : M} (a : Gr [] m m') : Gr S m m' := a.mono fun i h => by cases h
theorem Gr.app {S : List Nat} {m l : M} : Gr S m (m ++ l) := ⟨by simp, fun i o _ h => by rw [List.getElem?_append_left (lt_of h)]; exact h⟩
theorem Gr.set {S : List Nat} {m : M} {a : Nat} {o : MO} (h : a ∈ S) : Gr S m (m.set a o) := ⟨by simp, fun i o hi e => by
  rw [List.getElem?_set_ne (fun q => hi (by subst q; exact h))]
  exact e⟩
theorem Gr.fresh {S : List Nat} {m m' : M} {a : Nat} (h : Gr (a :: S) m m') (ha : m.length ≤ a) : Gr S m m' := ⟨h.1, fun i o hi e => h.2 i o (fun q => by
  rcases List.mem_cons.mp q with q | q
  · have := lt_of e
    omega
  · exact hi q) e⟩
theorem Gr.seq {S : List Nat} {m m' : M} {a : Nat} {xs : List MV} (h : Gr S m m') (ha : a ∉ S) (e : seqOf m a = some xs) : seqOf m' a = some xs := by
  unfold seqOf at e ⊢
  cases q : m[a]? with
  | none => rw [q] at e; cases e
  | some o =>
    rw [q] at e
    rw [h.2 a o ha q]
    exact e
theorem get_new {m : M} {o : MO} : (m ++ [o])[m.length]? = some o := by simp
theorem Gr.box {S : List Nat} {m m' : M} {a c : Nat} (h : Gr S m m') (ha : a ∉ S) (b : isBox m a c) : isBox m' a c := by
  obtain ⟨x, y, z, e, hz⟩ := b
  exact ⟨x, y, z, h.2 a _ ha e, hz⟩
theorem isBox.mono {m : M} {a c d : Nat} (h : isBox m a c) (l : c ≤ d) : isBox m a d := by
  obtain ⟨x, y, z, e, hz⟩ := h
  exact ⟨x, y, z, e, by omega⟩
/-! ### loops -/
theorem for_go {f : MV → SL → M → Fl} {src : Src} {n : Nat} {I : Nat → SL → M → Prop} {N : SL → M → Prop} {R : MV → M → Prop}
    (step : ∀ i s m, i < n → I i s m → ∃ v m1, src.at m i = some (some (v, m1)) ∧ WS (f v s m1) (I (i + 1)) R) (stop : ∀ s m, I n s m → src.at m n = some none ∧ N s m) :
    ∀ fuel i s m, i ≤ n → n < fuel + i → I i s m → WS (forGo f src fuel i s m) N R
  | 0, i, s, m, h1, h2, _ => by omega
  | fuel + 1, i, s, m, h1, h2, hI => by
    unfold forGo
    by_cases hi : i = n
    · subst hi
      obtain ⟨e, q⟩ := stop s m hI
      rw [e]
      exact q
    · obtain ⟨v, m1, e, h⟩ := step i s m (by omega) hI
      rw [e]
      simp only
      revert h
      cases f v s m1 with
      | nx s2 m2 => exact fun h => for_go step stop fuel (i + 1) s2 m2 (by omega) (by omega) h
      | rt v m2 => exact fun h => h
      | bk s2 m2 => exact fun h => h.elim
      | ct s2 m2 => exact fun h => h.elim
      | ex c d s2 m2 => exact fun h => h.elim
      | no => exact fun h => h.elim
theorem lc_go {f : MV → M → Rs MV} {src : Src} {D n : Nat} {I : Nat → List MV → M → Prop} {Q : MV → M → Prop} (hn : n < big)
    (step : ∀ i acc m, i < n → acc.length = i → m[D]? = some (.lst acc) → I i acc m → ∃ v m1, src.at m i = some (some (v, m1)) ∧ WP (f v m1) fun y m2 => m2[D]? = some (.lst acc) ∧ I (i + 1) (acc ++ [y]) (m2.set D (.lst (acc ++ [y]))))
    (stop : ∀ acc m, acc.length = n → m[D]? = some (.lst acc) → I n acc m → src.at m n = some none ∧ Q (.ref D) m) :
    ∀ fuel i acc m, i ≤ n → n < fuel + i → acc.length = i → m[D]? = some (.lst acc) → I i acc m → WP (lcGo f src D fuel i m) Q
  | 0, i, acc, m, h1, h2, _, _, _ => by omega
  | fuel + 1, i, acc, m, h1, h2, hl, hD, hI => by
    unfold lcGo
    by_cases hi : i = n
    · subst hi
      obtain ⟨e, q⟩ := stop acc m hl hD hI
      rw [e]
      exact q
    · obtain ⟨v, m1, e, h⟩ := step i acc m (by omega) hl hD hI
      rw [e]
      simp only
      revert h
      cases f v m1 with
      | ok y m2 =>
        intro ⟨e2, hI2⟩
        simp only
        rw [e2]
        simp only
        rw [if_pos (by omega)]
        refine lc_go hn step stop fuel (i + 1) (acc ++ [y]) _ (by omega) (by omega) (by simp [hl]) ?_ hI2
        exact get_set (lt_of e2)
      | ex c d m2 => exact fun h => h.elim
      | no => exact fun h => h.elim
section
variable {G : Cfg} {s : SL} {m : M} {N : SL → M → Prop} {R : MV → M → Prop} {Q : MV → M → Prop}
theorem S_for {t : Tg} {it : It} {B : Ss} (h : WP (evI G it s m) fun src m1 => WS (forGo (fun v s2 m2 => match t.put m2 v s2 with
    | some s3 => evSs G B s3 m2
    | none => .no) src G.fuel 0 s m1) N R) : WS (evS G (.for t it B) s m) N R := by
  simp only [evS, WS_fl]
  exact h
theorem W_lc {e : E} {t : Tg} {it : It} (h : WP (evI G it s m) fun src m1 => WP (lcGo (fun v m2 => match t.put m2 v (wipeM s t.own) with
    | some s2 => evE G e s2 m2
    | none => .no) src m1.length G.fuel 0 (m1 ++ [.lst []])) Q) : WP (evE G (.lc e t it) s m) Q := by
  simp only [evE, WP_bind]
  exact h
theorem I_rng {e : E} {QI : Src → M → Prop} (h : WP (evE G e s m) fun x m1 => ∃ i, x = .int i ∧ (-(2 ^ 62) ≤ i ∧ i < 2 ^ 62) ∧ QI (.rng i.toNat) m1) : WP (evI G (.rng e) s m) QI := by
  simp only [evI, WP_bind]
  refine h.imp fun x m1 ⟨i, e, hb, q⟩ => ?_
  subst e
  simp only
  rw [if_pos hb]
  exact q
theorem I_seq {e : E} {QI : Src → M → Prop} (h : WP (evE G e s m) fun x m1 => ∃ p xs, x = .ref p ∧ (m1[p]? = some (.lst xs)) ∧ QI (.seq p) m1) : WP (evI G (.seq e) s m) QI := by
  simp only [evI, WP_bind]
  refine h.imp fun x m1 ⟨p, xs, e, hb, q⟩ => ?_
  subst e
  simp only [lstOf, hb]
  exact q
theorem I_enum {e : E} {QI : Src → M → Prop} (h : WP (evE G e s m) fun x m1 => ∃ p xs, x = .ref p ∧ (m1[p]? = some (.lst xs)) ∧ QI (.enum p) m1) : WP (evI G (.enum e) s m) QI := by
  simp only [evI, WP_bind]
  refine h.imp fun x m1 ⟨p, xs, e, hb, q⟩ => ?_
  subst e
  simp only [lstOf, hb]
  exact q
theorem I_zip {a b : E} {QI : Src → M → Prop} (h : WP (evE G a s m) fun x m1 => WP (evE G b s m1) fun y m2 => ∃ p q xs ys, x = .ref p ∧ y = .ref q ∧
    ((m2[p]? = some (.lst xs) ∧ m2[q]? = some (.lst ys) ∧ QI (.zip p q) m2) ∨ (m2[p]? = some (.tup xs) ∧ m2[q]? = some (.tup ys) ∧ QI (.zipT p q) m2))) : WP (evI G (.zip a b) s m) QI := by
  simp only [evI, WP_bind]
  refine h.imp fun x m1 h => h.imp fun y m2 ⟨p, q, xs, ys, e1, e2, hh⟩ => ?_
  subst e1 e2
  rcases hh with ⟨h1, h2, hq⟩ | ⟨h1, h2, hq⟩
  · simp only [lstOf, h1, h2]
    exact hq
  · simp only [lstOf, tupOf, h1, h2]
    exact hq
end
theorem at_rng {m : M} {n i : Nat} (h : i < n) : (Src.rng n).at m i = some (some (.int i, m)) := by
  simp [Src.at, h]
theorem at_rng0 {m : M} {n : Nat} : (Src.rng n).at m n = some none := by
  simp [Src.at]
/-! ### of: a good by a draw -/
def bOf (t : Nat) : Ss := .cons (.ret (.sub (.var 1) (.call t (.cons (.var 0) (.cons (.bi .len (.cons (.var 1) .nil)) .nil))))) .nil
theorem atI_nat {α : Type} {xs : List α} {r : Nat} (h : r < xs.length) : ∃ v, atI xs (r : Int) = some v ∧ v ∈ xs := by
  refine ⟨xs[r], ?_, List.getElem_mem h⟩
  unfold atI ixN
  rw [if_pos (Int.natCast_nonneg r), if_pos (by omega)]
  simp [h]
theorem of_ok {P : Pg} {f t k a g c : Nat} {m : M} {ys : List MV} (hf : P.fs[f]? = some ⟨2, 2, bOf t⟩) (ht : P.fs[t]? = some ⟨6, 2, bTake⟩) (hb : isBox m a c) (hc : c < 2 ^ 59) (hg : seqOf m g = some ys) (hne : g ≠ a) (h0 : 0 < ys.length) (h1 : ys.length < 2 ^ 59) :
    WP (callF P (k + 2) f [.ref a, .ref g] m) fun v m' => v ∈ ys ∧ Gr [a] m m' ∧ isBox m' a (c + 1) := by
  refine WP_call hf rfl ?_
  unfold bOf
  walk_at "vi"
  refine B_len hg ?_
  walk_at "vi"
  refine (take_ok ht hb (by omega) h0 (by omega)).imp fun v m' ⟨⟨r, hr, e⟩, o, em, hb'⟩ => ?_
  subst e em
  have gr : Gr [a] m (m.set a o) := .set (List.mem_singleton.mpr rfl)
  obtain ⟨v, e, hv⟩ := atI_nat hr
  refine D_at (gr.seq (fun q => hne (List.mem_singleton.mp q)) hg) e ?_
  exact ⟨hv, gr, hb'⟩
theorem ofS_ok {P : Pg} {f t k a c : Nat} {z : Str} {m : M} (hf : P.fs[f]? = some ⟨2, 2, bOf t⟩) (ht : P.fs[t]? = some ⟨6, 2, bTake⟩) (hb : isBox m a c) (hc : c < 2 ^ 59) (h0 : 0 < z.length) (h1 : z.length ≤ big) :
    WP (callF P (k + 2) f [.ref a, .str z] m) fun v m' => (∃ c, v = .str ⟨#[c]⟩) ∧ Gr [a] m m' ∧ isBox m' a (c + 1) := by
  refine WP_call hf rfl ?_
  unfold bOf
  walk_at "vi"
  refine B_lenS h1 ?_
  walk_at "vi"
  refine (take_ok ht hb (by omega) h0 (by unfold big at h1; omega)).imp fun v m' ⟨⟨r, hr, e⟩, o, em, hb'⟩ => ?_
  subst e em
  obtain ⟨v, e, hv⟩ := atI_nat (xs := z.cps.toList) (by rw [Array.length_toList]; exact hr)
  refine D_atS h1 e ?_
  exact ⟨⟨v, rfl⟩, .set (List.mem_singleton.mpr rfl), hb'⟩
end VI


set_option Elab.async false
set_option linter.all false
set_option maxRecDepth 100000
set_option maxHeartbeats 4000000
namespace VI
open PySem PySem.Spec PyProof.Rows L2
theorem isLst_of {m : M} {a : Nat} {xs : List MV} (h : m[a]? = some (.lst xs)) : isLst m (.ref a) = true := by
  simp only [isLst, h]
def Sign (y : MV) : Prop := ∃ c, y = .str ⟨#[c]⟩
/-! ### pick: so many goods -/
def bPick (t : Nat) : Ss :=
  .cons (.par [3, 4] (.cons (.bi .list (.cons (.var 1) .nil)) (.cons (.lst .nil) .nil)))
    (.cons (.for (.nm 5) (.rng (.bi .min (.cons (.bi .int (.cons (.var 2) .nil)) (.cons (.bi .len (.cons (.var 3) .nil)) .nil))))
      (.cons (.ex (.mt .append (.var 4) (.cons (.mt .pop (.var 3) (.cons (.call t (.cons (.var 0) (.cons (.bi .len (.cons (.var 3) .nil)) .nil))) .nil)) .nil))) .nil))
      (.cons (.ret (.var 4)) .nil))
theorem pickS_ok {P : Pg} {f t k a c n : Nat} {z : Str} {m : M} (hf : P.fs[f]? = some ⟨6, 3, bPick t⟩) (ht : P.fs[t]? = some ⟨6, 2, bTake⟩) (hb : isBox m a c) (hc : c < 2 ^ 58) (h1 : z.length ≤ big) (hn : n ≤ z.length) (hfu : n < P.fuel) :
    WP (callF P (k + 2) f [.ref a, .str z, .int n] m) fun v m' => ∃ p ys, v = .ref p ∧ m.length ≤ p ∧ m'[p]? = some (.lst ys) ∧ ys.length = n ∧ (∀ y ∈ ys, Sign y) ∧ Gr [a] m m' ∧ isBox m' a (c + n) := by
  have ha : a < m.length := by
    obtain ⟨_, _, _, e, _⟩ := hb
    exact lt_of e
  refine WP_call hf rfl ?_
  unfold bPick
  walk_at "vi"
  refine B_listS h1 ?_
  walk_at "vi"
  refine ⟨by decide, ?_⟩
  walk_at "vi"
  refine ⟨rfl, ?_⟩
  have hL : (m ++ [MO.lst (z.cps.toList.map fun c => .str ⟨#[c]⟩)]).length = m.length + 1 := by simp
  rw [hL]
  have e1 : (m ++ [MO.lst (z.cps.toList.map fun c => .str ⟨#[c]⟩)] ++ [MO.lst []])[m.length]? = some (.lst (z.cps.toList.map fun c => .str ⟨#[c]⟩)) := by
    rw [List.getElem?_append_left (by rw [hL]; omega)]
    exact get_new
  have e2 : (m ++ [MO.lst (z.cps.toList.map fun c => .str ⟨#[c]⟩)] ++ [MO.lst []])[m.length + 1]? = some (.lst []) := by
    rw [← hL]
    exact get_new
  have gr : Gr [a, m.length, m.length + 1] m (m ++ [MO.lst (z.cps.toList.map fun c => .str ⟨#[c]⟩)] ++ [MO.lst []]) := Gr.app.trans Gr.app
  have hb1 : isBox (m ++ [MO.lst (z.cps.toList.map fun c => .str ⟨#[c]⟩)] ++ [MO.lst []]) a c := (Gr.app.trans Gr.app : Gr [] m _).box (by simp) hb
  generalize m ++ [MO.lst (z.cps.toList.map fun c => .str ⟨#[c]⟩)] ++ [MO.lst []] = m1 at e1 e2 gr hb1
  refine WS_cons (S_for (I_rng ?_))
  walk_at "vi"
  refine B_len (seq_lst e1) ?_
  walk_at "vi"
  have hz : (z.cps.toList.map fun c => MV.str ⟨#[c]⟩).length = z.length := by rw [List.length_map, Array.length_toList]; rfl
  rw [hz]
  have hmin : (if (z.length : Int) < (n : Int) then (z.length : Int) else (n : Int)) = n := by
    rw [if_neg (by omega)]
  rw [hmin]
  refine ⟨n, rfl, ⟨by omega, by unfold big at h1; omega⟩, ?_⟩
  rw [Int.toNat_natCast]
  refine for_go (n := n) (I := fun i s m' => ∃ x5 rest found, s = [some (.ref a), some (.str z), some (.int n), some (.ref m.length), some (.ref (m.length + 1)), x5] ∧ m'[m.length]? = some (.lst rest) ∧ m'[m.length + 1]? = some (.lst found) ∧
    rest.length + i = z.length ∧ found.length = i ∧ (∀ y ∈ rest, Sign y) ∧ (∀ y ∈ found, Sign y) ∧ Gr [a, m.length, m.length + 1] m m' ∧ isBox m' a (c + i)) ?_ ?_ P.fuel 0 _ m1 (by omega) (by omega) ?_
  · rintro i s m2 hi ⟨x5, rest, found, rfl, q1, q2, q3, q4, q5, q6, q7, q8⟩
    refine ⟨_, m2, at_rng hi, ?_⟩
    simp only [Tg.put]
    walk_at "vi"
    refine ⟨isLst_of q2, ?_⟩
    walk_at "vi"
    refine ⟨isLst_of q1, ?_⟩
    walk_at "vi"
    refine B_len (seq_lst q1) ?_
    walk_at "vi"
    refine (take_ok ht q8 (by unfold big at h1; omega) (by omega) (by unfold big at h1; omega)).imp fun v m3 ⟨⟨r, hr, e⟩, o, em, hb'⟩ => ?_
    subst e em
    have l1 := lt_of q1
    have l2 := lt_of q2
    have p1 : (m2.set a o)[m.length]? = some (.lst rest) := by rw [List.getElem?_set_ne (by omega)]; exact q1
    have p2 : (m2.set a o)[m.length + 1]? = some (.lst found) := by rw [List.getElem?_set_ne (by omega)]; exact q2
    walk_at "vi"
    refine T_pop p1 (List.getElem?_eq_getElem hr) (by unfold big at h1; omega) ?_
    walk_at "vi"
    refine T_app (m := (m2.set a o).set m.length (.lst (rest.eraseIdx r))) (p := m.length + 1) (xs := found) (by rw [List.getElem?_set_ne (by omega)]; exact p2) (by unfold big at h1 ⊢; omega) ?_
    walk_at "vi"
    refine ⟨_, rest.eraseIdx r, found ++ [rest[r]], rfl, ?_, ?_, ?_, by simp [q4], fun y hy => q5 y (List.mem_of_mem_eraseIdx hy), fun y hy => ?_, ?_, ?_⟩
    · rw [List.getElem?_set_ne (by omega)]
      exact get_set (by simp; omega)
    · exact get_set (by simp; omega)
    · rw [List.length_eraseIdx_of_lt hr]; omega
    · rcases List.mem_append.mp hy with hy | hy
      · exact q6 y hy
      · rw [List.mem_singleton.mp hy]
        exact q5 _ (List.getElem_mem hr)
    · exact q7.trans (((Gr.set (by simp)).trans (Gr.set (by simp))).trans (Gr.set (by simp)))
    · obtain ⟨x, y, w, e, hw⟩ := hb'
      refine ⟨x, y, w, ?_, by omega⟩
      rw [List.getElem?_set_ne (by omega), List.getElem?_set_ne (by omega)]
      exact e
  · rintro s m2 ⟨x5, rest, found, rfl, q1, q2, q3, q4, q5, q6, q7, q8⟩
    refine ⟨at_rng0, ?_⟩
    walk_at "vi"
    refine ⟨_, found, rfl, by omega, q2, q4, q6, ?_, q8⟩
    have g1 : Gr [m.length, m.length + 1, a] m m2 := q7.mono fun i hi => by simp at hi ⊢; omega
    exact (g1.fresh (Nat.le_refl _)).fresh (by omega)
  · refine ⟨_, _, [], rfl, e1, e2, by rw [hz]; omega, rfl, fun y hy => ?_, fun y hy => (by cases hy), gr, hb1⟩
    obtain ⟨c, _, e⟩ := List.mem_map.mp hy
    exact ⟨c, e.symm⟩
end VI


set_option Elab.async false
set_option linter.all false
set_option maxRecDepth 100000
set_option maxHeartbeats 4000000
namespace VI
open PySem PySem.Spec PyProof.Rows L2
theorem Tr_t {m : M} {A B : Prop} (h : A) : Tr m (.bl true) A B := ⟨true, rfl, fun _ => h, fun e => by cases e⟩
theorem Tr_f {m : M} {A B : Prop} (h : B) : Tr m (.bl false) A B := ⟨false, rfl, fun e => (by cases e), fun _ => h⟩
theorem Tr_lst {m : M} {p : Nat} {xs : List MV} {A B : Prop} (h : m[p]? = some (.lst xs)) (h1 : xs ≠ [] → A) (h2 : xs = [] → B) : Tr m (.ref p) A B := by
  refine ⟨!xs.isEmpty, by simp only [truV, h], fun e => h1 (fun q => ?_), fun e => h2 ?_⟩
  · subst q
    cases e
  · cases xs with
    | nil => rfl
    | cons _ _ => cases e
/-! ### box: what draws are made from -/
def bBox (w : Int) : Ss :=
  .cons (.asg 2 (.ite (.cmp .Lt (.var 1) (.bi .len (.cons (.var 0) .nil))) (.sub (.var 0) (.var 1)) (.int 0)))
    (.cons (.ret (.lst (.cons (.bin .Mult (.bi .abs (.cons (.var 2) .nil)) (.bi .int (.cons (.cmp .GtE (.bi .abs (.cons (.var 2) .nil)) (.bin .Pow (.int 10) (.int 18))) .nil)))
      (.cons (.bin .Add (.bin .Add (.bin .Mod (.bi .int (.cons (.var 2) .nil)) (.int 2305843009213693951)) (.bin .Mult (.int 39373) (.var 1))) (.int w)) (.cons (.int 0) .nil))))) .nil)
theorem box_ok {P : Pg} {f k c i : Nat} {w : Int} {m : M} {xs : List Int} (hf : P.fs[f]? = some ⟨3, 2, bBox w⟩) (hc : m[c]? = some (.lst (xs.map MV.int))) (hi : i < xs.length) :
    WP (callF P (k + 1) f [.ref c, .int i] m) fun v m' => v = .ref m.length ∧ m.length < m'.length ∧ isBox m' m.length 0 ∧ Gr [] m m' := by
  refine WP_call hf rfl ?_
  unfold bBox
  walk_at "vi"
  refine B_len (seq_lst hc) ?_
  walk_at "vi"
  refine Tr_bl (fun _ => ?_) (fun e => by simp at e; omega)
  walk_at "vi"
  obtain ⟨v, e, hv⟩ := atI_nat (xs := xs.map MV.int) (r := i) (by simpa using hi)
  obtain ⟨z, _, rfl⟩ := List.mem_map.mp hv
  refine D_at (seq_lst hc) e ?_
  walk_at "vi"
  refine ⟨by show 3 ≤ big; decide, ?_⟩
  exact ⟨rfl, by simp, ⟨_, _, 0, get_new, Nat.le_refl _⟩, .app⟩
/-! ### cells: the script folded -/
def bCells : Ss :=
  .cons (.asg 2 (.or (.bi .list (.cons (.sl (.var 0) .nop (.var 1)) .nil)) (.lst (.cons (.int 0) .nil))))
    (.cons (.for (.tp [3, 4]) (.enum (.sl (.var 0) (.var 1) (.int 63))) (.cons (.asg 5 (.bin .Mod (.bi .int (.cons (.var 3) .nil)) (.var 1)))
      (.cons (.sub (.var 2) (.var 5) (.bin .Add (.sub (.var 2) (.var 5)) (.bin .Mult (.var 4) (.bin .Add (.var 3) (.int 2))))) .nil)))
      (.cons (.ret (.var 2)) .nil))
theorem cut_ints {xs : List Int} {lo hi : Option Int} : ∃ ys : List Int, cutM (xs.map MV.int) lo hi = ys.map MV.int ∧ ys.length = (cutM (xs.map MV.int) lo hi).length := by
  refine ⟨(xs.drop (HT.sIx xs.length 0 lo)).take (HT.sIx xs.length xs.length hi - HT.sIx xs.length 0 lo), ?_, ?_⟩
  · unfold cutM
    rw [List.map_take, List.map_drop, List.length_map]
  · unfold cutM
    simp
theorem cut_len {xs : List MV} {lo hi : Option Int} : (cutM xs lo hi).length = min (HT.sIx xs.length xs.length hi - HT.sIx xs.length 0 lo) (xs.length - HT.sIx xs.length 0 lo) := by
  unfold cutM
  rw [List.length_take, List.length_drop]
theorem at_enum {m : M} {q i : Nat} {xs : List MV} {x : MV} (h : m[q]? = some (.lst xs)) (hx : xs[i]? = some x) : (Src.enum q).at m i = some (some (.ref m.length, m ++ [.tup [.int i, x]])) := by
  simp only [Src.at, lstOf, h, hx]
theorem at_enum0 {m : M} {q : Nat} {xs : List MV} (h : m[q]? = some (.lst xs)) : (Src.enum q).at m xs.length = some none := by
  simp only [Src.at, lstOf, h]
  rw [List.getElem?_eq_none (Nat.le_refl _)]
theorem put_tp {m : M} {a : Nat} {xs : List MV} {is : List Nat} {s : SL} (h : m[a]? = some (.tup xs)) (hl : xs.length = is.length) : Tg.put m (.ref a) s (.tp is) = some (setAll s is xs) := by
  simp only [Tg.put, h]
  rw [if_pos hl]
theorem cells_ok {P : Pg} {f k a t : Nat} {m : M} {ns : List Int} (hf : P.fs[f]? = some ⟨6, 2, bCells⟩) (hm : m[a]? = some (.frz (ns.map MV.int))) (hn : ns.length ≤ 63) (ht : 0 < t) (ht2 : t ≤ 63) (hfu : 64 < P.fuel) :
    WP (callF P (k + 1) f [.ref a, .int t] m) fun v m' => ∃ p xs, v = .ref p ∧ m'[p]? = some (.lst (List.map MV.int xs)) ∧ xs.length ≤ t ∧ Gr [] m m' := by
  refine WP_call hf rfl ?_
  unfold bCells
  -- behind the first row
  have key : ∀ (p : Nat) (xs : List Int) (m1 : M), m1[p]? = some (.lst (xs.map MV.int)) → xs.length ≤ t → (t < ns.length → xs.length = t) → Gr [] m m1 → m.length ≤ p →
      WS (evSs (P.cfg (callF P k)) (.cons (.for (.tp [3, 4]) (.enum (.sl (.var 0) (.var 1) (.int 63))) (.cons (.asg 5 (.bin .Mod (.bi .int (.cons (.var 3) .nil)) (.var 1)))
        (.cons (.sub (.var 2) (.var 5) (.bin .Add (.sub (.var 2) (.var 5)) (.bin .Mult (.var 4) (.bin .Add (.var 3) (.int 2))))) .nil)))
        (.cons (.ret (.var 2)) .nil)) [some (.ref a), some (.int t), some (.ref p), none, none, none] m1) (fun _ _ => False) (fun v m' => ∃ p xs, v = .ref p ∧ m'[p]? = some (.lst (List.map MV.int xs)) ∧ xs.length ≤ t ∧ Gr [] m m') := by
    intro p xs m1 hp hl1 hl2 gr hlt
    refine WS_cons (S_for (I_enum ?_))
    walk_at "vi"
    refine D_sl (.inr (gr.2 a _ (by simp) hm)) ?_
    refine ⟨_, _, rfl, get_new, ?_⟩
    obtain ⟨zs, ez, lz⟩ := cut_ints (xs := ns) (lo := some (t : Int)) (hi := some 63)
    rw [ez]
    have hq : (m1 ++ [MO.lst (zs.map MV.int)])[m1.length]? = some (.lst (zs.map MV.int)) := get_new
    have hp2 := (Gr.app (S := []) (l := [MO.lst (zs.map MV.int)])).2 p _ (by simp) hp
    have gr2 : Gr [] m (m1 ++ [MO.lst (zs.map MV.int)]) := gr.trans .app
    have ne : p ≠ m1.length := fun q => by
      have := lt_of hp
      omega
    have more : zs ≠ [] → t < ns.length := fun q => by
      have l1 : zs.length ≠ 0 := fun e => q (List.length_eq_zero_iff.mp e)
      rw [lz, cut_len, HT.sIx_nat] at l1
      simp at l1
      omega
    have lz63 : zs.length ≤ 63 := by
      rw [lz, cut_len, List.length_map]
      omega
    generalize m1 ++ [MO.lst (zs.map MV.int)] = m2 at hq hp2 gr2
    generalize m1.length = q at hq ne
    refine for_go (n := zs.length) (I := fun i s m' => ∃ x3 x4 x5 ys, s = [some (.ref a), some (.int t), some (.ref p), x3, x4, x5] ∧ m'[p]? = some (.lst (List.map MV.int ys)) ∧ ys.length = xs.length ∧ m'[q]? = some (.lst (zs.map MV.int)) ∧ Gr [p] m m') ?_ ?_ P.fuel 0 _ m2 (by omega) (by omega) ?_
    · rintro i s m3 hi ⟨x3, x4, x5, ys, rfl, q1, q2, q3, q4⟩
      have hz : (zs.map MV.int)[i]? = some (.int zs[i]) := by rw [List.getElem?_map, List.getElem?_eq_getElem hi]; rfl
      refine ⟨_, _, at_enum q3 hz, ?_⟩
      rw [put_tp get_new rfl]
      have hx : t < ns.length := more (fun e => by rw [e] at hi; cases hi)
      have hL := hl2 hx
      simp only [setAll]
      have p1 := (Gr.app (S := []) (l := [MO.tup [MV.int i, MV.int zs[i]]])).2 p _ (by simp) q1
      have p3 := (Gr.app (S := []) (l := [MO.tup [MV.int i, MV.int zs[i]]])).2 q _ (by simp) q3
      have gr3 : Gr [p] m (m3 ++ [MO.tup [MV.int i, MV.int zs[i]]]) := q4.trans .app
      generalize m3 ++ [MO.tup [MV.int i, MV.int zs[i]]] = m4 at p1 p3 gr3
      walk_at "vi"
      have hmod : ∃ j : Nat, ((i : Int) % (t : Int)) = j ∧ j < ys.length := ⟨i % t, by simp, by rw [q2, hL]; exact Nat.mod_lt _ ht⟩
      obtain ⟨j, ej, hj⟩ := hmod
      simp only [List.set, ej]
      walk_at "vi"
      obtain ⟨y, ey, hy⟩ := atI_nat (xs := ys.map MV.int) (r := j) (by simpa using hj)
      obtain ⟨y0, _, rfl⟩ := List.mem_map.mp hy
      refine D_at (seq_lst p1) ey ?_
      walk_at "vi"
      have ix : ixN (ys.map MV.int).length (j : Int) = some j := by
        unfold ixN
        rw [if_pos (Int.natCast_nonneg j), if_pos (by simp; omega)]
        simp
      refine ⟨p, _, j, j, rfl, rfl, p1, ix, ?_⟩
      walk_at "vi"
      refine ⟨_, _, _, ys.set j (y0 + zs[i] * (i + 2)), rfl, ?_, by simp [q2], ?_, gr3.trans (.set (by simp))⟩
      · rw [List.map_set]
        exact get_set (lt_of p1)
      · rw [List.getElem?_set_ne ne]
        exact p3
    · rintro s m3 ⟨x3, x4, x5, ys, rfl, q1, q2, q3, q4⟩
      refine ⟨by have := at_enum0 q3; simpa using this, ?_⟩
      walk_at "vi"
      exact ⟨p, ys, rfl, q1, by omega, q4.fresh hlt⟩
    · exact ⟨_, _, _, xs, rfl, hp2, rfl, hq, gr2.up⟩
  walk_at "vi"
  refine D_sl (.inr hm) ?_
  walk_at "vi"
  refine B_list (seq_lst get_new) ?_
  walk_at "vi"
  obtain ⟨zs, ez, lz⟩ := cut_ints (xs := ns) (lo := none) (hi := some (t : Int))
  rw [ez]
  rw [cut_len, HT.sIx_nat, HT.sIx_none, List.length_map] at lz
  refine Tr_lst get_new (fun h => ?_) (fun h => ?_)
  · refine WS.imp (key _ zs _ get_new (by omega) (fun q => by omega) (Gr.app.trans .app) (by simp)) (fun _ _ z => z.elim) fun _ _ z => z
  · walk_at "vi"
    refine ⟨by show 1 ≤ big; decide, ?_⟩
    have l0 : zs.length = 0 := by
      cases zs with
      | nil => rfl
      | cons _ _ => cases h
    refine WS.imp (key _ [0] _ get_new (by show 1 ≤ t; omega) (fun q => by omega) ((Gr.app.trans .app).trans .app) (by simp)) (fun _ _ z => z.elim) fun _ _ z => z
end VI


set_option Elab.async false
set_option linter.all false
set_option maxRecDepth 100000
set_option maxHeartbeats 4000000
namespace VI
open PySem PySem.Spec PyProof.Rows L2
/-! ### same: what a law compares by -/
def bSame (r : Nat) : Ss :=
  .cons (.ife (.isi (.var 1) [.ty "list", .ty "tuple"] true)
      (.cons (.ife (.cmp .NotEq (.isi (.var 0) [.ty "list"] false) (.isi (.var 1) [.ty "list"] false)) (.cons (.ret (.bl false)) .nil) .nil)
      (.cons (.ife (.cmp .NotEq (.isi (.var 0) [.ty "tuple"] false) (.isi (.var 1) [.ty "tuple"] false)) (.cons (.ret (.bl false)) .nil) .nil)
      (.cons (.ret (.and (.cmp .Eq (.bi .len (.cons (.var 0) .nil)) (.bi .len (.cons (.var 1) .nil))) (.bi .all (.cons (.lc (.call r (.cons (.var 2) (.cons (.var 3) .nil))) (.tp [2, 3]) (.zip (.var 0) (.var 1))) .nil)))) .nil))) .nil)
    (.cons (.ife (.or (.cmp .Is (.var 1) .non) (.isi (.var 1) [.ty "bool", .ty "str"] true))
      (.cons (.ret (.and (.cmp .Eq (.var 0) (.var 1)) (.and (.cmp .Eq (.isi (.var 0) [.ty "bool"] false) (.isi (.var 1) [.ty "bool"] false)) (.cmp .Eq (.cmp .Is (.var 0) .non) (.cmp .Is (.var 1) .non))))) .nil) .nil)
    (.cons (.ret (.and (.isi (.var 0) [.ty "int"] false) (.and (.not (.isi (.var 0) [.ty "bool"] false)) (.cmp .Eq (.var 0) (.var 1))))) .nil))
def isRef : MV → Bool
  | .ref _ => true
  | _ => false
/-- the same, to a depth -/
def Sm (m : M) : Nat → MV → MV → Prop
  | 0, x, y => x = y ∧ isRef y = false
  | d + 1, x, y => (x = y ∧ isRef y = false) ∨ ∃ p q xs ys, x = .ref p ∧ y = .ref q ∧ ((m[p]? = some (.lst xs) ∧ m[q]? = some (.lst ys)) ∨ (m[p]? = some (.tup xs) ∧ m[q]? = some (.tup ys))) ∧ xs.length < 1000 ∧ Paired (Sm m d) xs ys
theorem paired_imp {α β : Type} {F G : α → β → Prop} (h : ∀ x y, F x y → G x y) : ∀ {xs : List α} {ys : List β}, Paired F xs ys → Paired G xs ys
  | _, _, .nil => .nil
  | _, _, .cons r t => .cons (h _ _ r) (paired_imp h t)
theorem Sm.gr {m m' : M} (g : Gr [] m m') : ∀ {d : Nat} {x y : MV}, Sm m d x y → Sm m' d x y
  | 0, _, _, h => h
  | d + 1, x, y, h => by
    rcases h with h | ⟨p, q, xs, ys, e1, e2, h, hl, hp⟩
    · exact .inl h
    · refine .inr ⟨p, q, xs, ys, e1, e2, ?_, hl, paired_imp (fun _ _ z => Sm.gr g z) hp⟩
      rcases h with ⟨h1, h2⟩ | ⟨h1, h2⟩
      · exact .inl ⟨g.2 p _ (by simp) h1, g.2 q _ (by simp) h2⟩
      · exact .inr ⟨g.2 p _ (by simp) h1, g.2 q _ (by simp) h2⟩
theorem at_zip {m : M} {p q i : Nat} {xs ys : List MV} {x y : MV} (h1 : m[p]? = some (.lst xs)) (h2 : m[q]? = some (.lst ys)) (hx : xs[i]? = some x) (hy : ys[i]? = some y) : (Src.zip p q).at m i = some (some (.ref m.length, m ++ [.tup [x, y]])) := by
  simp only [Src.at, lstOf, h1, h2, hx, hy]
theorem at_zipT {m : M} {p q i : Nat} {xs ys : List MV} {x y : MV} (h1 : m[p]? = some (.tup xs)) (h2 : m[q]? = some (.tup ys)) (hx : xs[i]? = some x) (hy : ys[i]? = some y) : (Src.zipT p q).at m i = some (some (.ref m.length, m ++ [.tup [x, y]])) := by
  simp only [Src.at, tupOf, h1, h2, hx, hy]
theorem at_zip0 {m : M} {p q n : Nat} {xs ys : List MV} (h1 : m[p]? = some (.lst xs)) (h2 : m[q]? = some (.lst ys)) (hn : n = xs.length) : (Src.zip p q).at m n = some none := by
  subst hn
  simp only [Src.at, lstOf, h1, h2]
  rw [List.getElem?_eq_none (Nat.le_refl _)]
theorem at_zipT0 {m : M} {p q n : Nat} {xs ys : List MV} (h1 : m[p]? = some (.tup xs)) (h2 : m[q]? = some (.tup ys)) (hn : n = xs.length) : (Src.zipT p q).at m n = some none := by
  subst hn
  simp only [Src.at, tupOf, h1, h2]
  rw [List.getElem?_eq_none (Nat.le_refl _)]
theorem bls_true : ∀ {n : Nat}, blsOf (List.replicate n (.bl true)) = some (List.replicate n true)
  | 0 => rfl
  | n + 1 => by
    rw [List.replicate_succ, blsOf, bls_true]
    rfl
end VI
local macro_rules | `(tactic| walk_at "visi") => `(tactic| refine ⟨_, _, rfl, rfl, rfl, ?_⟩)
namespace VI
open PySem PySem.Spec PyProof.Rows L2
theorem same_scal {P : Pg} {f k : Nat} {x : MV} {m : M} (hf : P.fs[f]? = some ⟨4, 2, bSame f⟩) (h : isRef x = false) : WP (callF P (k + 1) f [x, x] m) fun v m' => v = .bl true ∧ m' = m := by
  refine WP_call hf rfl ?_
  unfold bSame
  cases x with
  | ref a => cases h
  | non =>
    walk_at "vi"
    walk_at "visi"
    refine Tr_f ?_
    walk_at "vi"
    refine Tr_t (Tr_t ?_)
    walk_at "vi"
    refine C_eq (by rfl) ?_
    refine Tr_bl (fun _ => ?_) (fun e => by simp at e)
    walk_at "vi"
    walk_at "visi"
    walk_at "vi"
    walk_at "visi"
    refine C_eq (by rfl) ?_
    refine Tr_bl (fun _ => ?_) (fun e => by simp at e)
    walk_at "vi"
    refine C_eq (by rfl) ?_
    simp
  | bl b =>
    walk_at "vi"
    walk_at "visi"
    refine Tr_f ?_
    walk_at "vi"
    refine Tr_f ?_
    walk_at "vi"
    walk_at "visi"
    refine Tr_t ?_
    walk_at "vi"
    refine C_eq (by rfl) ?_
    refine Tr_bl (fun _ => ?_) (fun e => by simp at e)
    walk_at "vi"
    walk_at "visi"
    walk_at "vi"
    walk_at "visi"
    refine C_eq (by rfl) ?_
    refine Tr_bl (fun _ => ?_) (fun e => by simp at e)
    walk_at "vi"
    refine C_eq (by rfl) ?_
    simp
  | int i =>
    walk_at "vi"
    walk_at "visi"
    refine Tr_f ?_
    walk_at "vi"
    refine Tr_f ?_
    walk_at "vi"
    walk_at "visi"
    refine Tr_f ?_
    walk_at "vi"
    walk_at "visi"
    refine Tr_t ?_
    walk_at "vi"
    walk_at "visi"
    refine ⟨_, rfl, ?_⟩
    refine Tr_t ?_
    walk_at "vi"
    refine C_eq (by rfl) ?_
    simp
  | str z =>
    walk_at "vi"
    walk_at "visi"
    refine Tr_f ?_
    walk_at "vi"
    refine Tr_f ?_
    walk_at "vi"
    walk_at "visi"
    refine Tr_t ?_
    walk_at "vi"
    refine C_eq (by rfl) ?_
    refine Tr_bl (fun _ => ?_) (fun e => by simp at e)
    walk_at "vi"
    walk_at "visi"
    walk_at "vi"
    walk_at "visi"
    refine C_eq (by rfl) ?_
    refine Tr_bl (fun _ => ?_) (fun e => by simp at e)
    walk_at "vi"
    refine C_eq (by rfl) ?_
    simp
end VI


set_option Elab.async false
set_option linter.all false
set_option maxRecDepth 100000
set_option maxHeartbeats 4000000
namespace VI
open PySem PySem.Spec PyProof.Rows L2
theorem pat {α β : Type} {F : α → β → Prop} : ∀ {xs : List α} {ys : List β} {i : Nat}, Paired F xs ys → i < xs.length → ∃ x y, xs[i]? = some x ∧ ys[i]? = some y ∧ F x y
  | _, _, 0, .cons r _, _ => ⟨_, _, rfl, rfl, r⟩
  | _, _, i + 1, .cons _ t, h => pat (i := i) t (Nat.lt_of_succ_lt_succ h)
theorem plen2 {α β : Type} {F : α → β → Prop} : ∀ {xs : List α} {ys : List β}, Paired F xs ys → xs.length = ys.length
  | _, _, .nil => rfl
  | _, _, .cons _ t => congrArg Nat.succ (plen2 t)
/-- the row of turns -/
theorem same_turns {P : Pg} {f k d : Nat} {src : Src} {m : M} {xs ys : List MV} {x y : MV} {Q : MV → M → Prop}
    (ih : ∀ {x y : MV} {m : M}, Sm m d x y → WP (callF P k f [x, y] m) fun v m' => v = .bl true ∧ Gr [] m m') (hl : xs.length < 1000) (hfu : 1000 < P.fuel) (hp : Paired (Sm m d) xs ys)
    (hat : ∀ m' i x y, Gr [] m m' → xs[i]? = some x → ys[i]? = some y → src.at m' i = some (some (.ref m'.length, m' ++ [.tup [x, y]]))) (h0 : ∀ m', Gr [] m m' → src.at m' xs.length = some none)
    (q : ∀ m', m'[m.length]? = some (.lst (List.replicate xs.length (.bl true))) → Gr [] m m' → Q (.ref m.length) m') :
    WP (lcGo (fun v m2 => match Tg.put m2 v (wipeM [some x, some y, none, none] (Tg.own (.tp [2, 3]))) (.tp [2, 3]) with
      | some s2 => evE (P.cfg (callF P k)) (.call f (.cons (.var 2) (.cons (.var 3) .nil))) s2 m2
      | none => .no) src m.length P.fuel 0 (m ++ [.lst []])) Q := by
  refine lc_go (n := xs.length) (I := fun i acc m' => acc = List.replicate i (.bl true) ∧ Gr [m.length] m m') (by unfold big; omega) ?_ ?_ P.fuel 0 [] _ (by omega) (by omega) rfl get_new ⟨rfl, .app⟩
  · rintro i acc m3 hi hal hD ⟨ea, g⟩
    obtain ⟨u, v, hu, hv, r⟩ := pat hp hi
    have g0 : Gr [] m m3 := g.fresh (Nat.le_refl _)
    refine ⟨_, _, hat m3 i u v g0 hu hv, ?_⟩
    rw [put_tp get_new rfl]
    simp only [Tg.own, setAll, wipeM, List.set]
    walk_at "vi"
    refine (ih (Sm.gr (g0.trans Gr.app) r)).imp fun z m5 ⟨e, g5⟩ => ?_
    subst e
    have hD5 := g5.2 _ _ (by simp) ((Gr.app (S := []) (l := [MO.tup [u, v]])).2 m.length _ (by simp) hD)
    refine ⟨hD5, ?_, ?_⟩
    · rw [ea, List.replicate_succ']
    · exact ((g.trans (Gr.app (l := [MO.tup [u, v]]))).trans g5.up).trans (.set (by simp))
  · rintro acc m3 hal hD ⟨ea, g⟩
    have g0 : Gr [] m m3 := g.fresh (Nat.le_refl _)
    refine ⟨h0 m3 g0, q m3 ?_ g0⟩
    rw [hD, ea]
theorem same_ok {P : Pg} {f : Nat} (hf : P.fs[f]? = some ⟨4, 2, bSame f⟩) (hfu : 1000 < P.fuel) : ∀ (d k : Nat) {x y : MV} {m : M}, Sm m d x y → WP (callF P (k + d + 1) f [x, y] m) fun v m' => v = .bl true ∧ Gr [] m m'
  | 0, k, x, y, m, ⟨e, h⟩ => by
    subst e
    exact (same_scal hf h).imp fun v m' ⟨e1, e2⟩ => ⟨e1, e2 ▸ .refl⟩
  | d + 1, k, x, y, m, h => by
    rcases h with ⟨e, h⟩ | ⟨p, q, xs, ys, rfl, rfl, hh, hl, hp⟩
    · subst e
      exact (same_scal hf h).imp fun v m' ⟨e1, e2⟩ => ⟨e1, e2 ▸ .refl⟩
    · have ih : ∀ {x y : MV} {m : M}, Sm m d x y → WP (callF P (k + d + 1) f [x, y] m) fun v m' => v = .bl true ∧ Gr [] m m' := fun h => same_ok hf hfu d k h
      have len := plen2 hp
      refine WP_call (k := k + (d + 1)) hf rfl ?_
      unfold bSame
      rcases hh with ⟨h1, h2⟩ | ⟨h1, h2⟩
      · have t1 : tyName m (.ref p) = some (.inl "list") := by simp only [tyName, h1]
        have t2 : tyName m (.ref q) = some (.inl "list") := by simp only [tyName, h2]
        walk_at "vi"
        refine ⟨_, _, t2, rfl, rfl, ?_⟩
        refine Tr_t ?_
        walk_at "vi"
        refine ⟨_, _, t1, rfl, rfl, ?_⟩
        walk_at "vi"
        refine ⟨_, _, t2, rfl, rfl, ?_⟩
        refine C_ne (by rfl) ?_
        refine Tr_bl (fun e => by simp at e) (fun _ => ?_)
        walk_at "vi"
        refine ⟨_, _, t1, rfl, rfl, ?_⟩
        walk_at "vi"
        refine ⟨_, _, t2, rfl, rfl, ?_⟩
        refine C_ne (by rfl) ?_
        refine Tr_bl (fun e => by simp at e) (fun _ => ?_)
        walk_at "vi"
        refine B_len (seq_lst h1) ?_
        walk_at "vi"
        refine B_len (seq_lst h2) ?_
        refine C_eq (by rfl) ?_
        refine Tr_bl (fun _ => ?_) (fun e => by simp [len] at e)
        walk_at "vi"
        refine W_lc (I_zip ?_)
        walk_at "vi"
        refine ⟨p, q, xs, ys, rfl, rfl, .inl ⟨h1, h2, ?_⟩⟩
        refine same_turns ih hl hfu hp (fun m' i u v g hu hv => at_zip (g.2 p _ (by simp) h1) (g.2 q _ (by simp) h2) hu hv) (fun m' g => at_zip0 (g.2 p _ (by simp) h1) (g.2 q _ (by simp) h2) rfl) fun m' hm g => ?_
        walk_at "vi"
        refine B_all hm bls_true ?_
        exact ⟨by simp, g⟩
      · have t1 : tyName m (.ref p) = some (.inl "tuple") := by simp only [tyName, h1]
        have t2 : tyName m (.ref q) = some (.inl "tuple") := by simp only [tyName, h2]
        have s1 : seqOf m p = some xs := by simp only [seqOf, h1]
        have s2 : seqOf m q = some ys := by simp only [seqOf, h2]
        walk_at "vi"
        refine ⟨_, _, t2, rfl, rfl, ?_⟩
        refine Tr_t ?_
        walk_at "vi"
        refine ⟨_, _, t1, rfl, rfl, ?_⟩
        walk_at "vi"
        refine ⟨_, _, t2, rfl, rfl, ?_⟩
        refine C_ne (by rfl) ?_
        refine Tr_bl (fun e => by simp at e) (fun _ => ?_)
        walk_at "vi"
        refine ⟨_, _, t1, rfl, rfl, ?_⟩
        walk_at "vi"
        refine ⟨_, _, t2, rfl, rfl, ?_⟩
        refine C_ne (by rfl) ?_
        refine Tr_bl (fun e => by simp at e) (fun _ => ?_)
        walk_at "vi"
        refine B_len s1 ?_
        walk_at "vi"
        refine B_len s2 ?_
        refine C_eq (by rfl) ?_
        refine Tr_bl (fun _ => ?_) (fun e => by simp [len] at e)
        walk_at "vi"
        refine W_lc (I_zip ?_)
        walk_at "vi"
        refine ⟨p, q, xs, ys, rfl, rfl, .inr ⟨h1, h2, ?_⟩⟩
        refine same_turns ih hl hfu hp (fun m' i u v g hu hv => at_zipT (g.2 p _ (by simp) h1) (g.2 q _ (by simp) h2) hu hv) (fun m' g => at_zipT0 (g.2 p _ (by simp) h1) (g.2 q _ (by simp) h2) rfl) fun m' hm g => ?_
        walk_at "vi"
        refine B_all hm bls_true ?_
        exact ⟨by simp, g⟩
end VI


set_option Elab.async false
set_option linter.all false
set_option maxRecDepth 100000
set_option maxHeartbeats 4000000
namespace VI
open PySem PySem.Spec PyProof.Rows L2
/-! ### names: texts by draws -/
theorem signs_strs : ∀ {ys : List MV}, (∀ y ∈ ys, Sign y) → ∃ zs, strsOf ys = some zs ∧ (∀ z ∈ zs, z.length = 1) ∧ zs.length = ys.length
  | [], _ => ⟨[], rfl, fun _ h => (by cases h), rfl⟩
  | y :: ys, h => by
    obtain ⟨c, rfl⟩ := h y (List.Mem.head _)
    obtain ⟨zs, e, h1, h2⟩ := signs_strs fun z hz => h z (List.Mem.tail _ hz)
    refine ⟨⟨#[c]⟩ :: zs, by simp only [strsOf, e]; rfl, fun z hz => ?_, by simp [h2]⟩
    rcases List.mem_cons.mp hz with rfl | hz
    · rfl
    · exact h1 z hz
theorem ones_sum : ∀ {zs : List Str}, (∀ z ∈ zs, z.length = 1) → (zs.map (·.length)).sum = zs.length
  | [], _ => rfl
  | z :: zs, h => by
    rw [List.map_cons, List.sum_cons, h z (List.Mem.head _), ones_sum fun y hy => h y (List.Mem.tail _ hy), List.length_cons]
    omega
/-- texts by draws from a text, in a row -/
theorem of_turns {P : Pg} {o t k a c n : Nat} {z : Str} {m : M} {s : SL} (ho : P.fs[o]? = some ⟨2, 2, bOf t⟩) (ht : P.fs[t]? = some ⟨6, 2, bTake⟩) (hb : isBox m a c) (hc : c < 2 ^ 58) (h0 : 0 < z.length) (h1 : z.length ≤ big)
    (hn : n < 1000) (hfu : 1000 < P.fuel) (s0 : s[0]? = some (some (.ref a))) (s2 : s[2]? = some (some (.str z))) :
    WP (lcGo (fun v m2 => match Tg.put m2 v s (.nm 5) with
      | some s2 => evE (P.cfg (callF P (k + 2))) (.call o (.cons (.var 0) (.cons (.var 2) .nil))) s2 m2
      | none => .no) (.rng n) m.length P.fuel 0 (m ++ [.lst []])) fun v m' => v = .ref m.length ∧ ∃ acc, m'[m.length]? = some (.lst acc) ∧ acc.length = n ∧ (∀ y ∈ acc, Sign y) ∧ Gr [a] m m' ∧ isBox m' a (c + n) := by
  have ha : a < m.length := by
    obtain ⟨_, _, _, e, _⟩ := hb
    exact lt_of e
  refine lc_go (n := n) (I := fun i acc m' => (∀ y ∈ acc, Sign y) ∧ Gr [m.length, a] m m' ∧ isBox m' a (c + i)) (by unfold big; omega) ?_ ?_ P.fuel 0 [] _ (by omega) (by omega) rfl get_new ⟨fun y hy => (by cases hy), Gr.app, (Gr.app (S := [])).box (by simp) hb⟩
  · rintro i acc m3 hi hal hD ⟨q1, q2, q3⟩
    refine ⟨_, m3, at_rng hi, ?_⟩
    simp only [Tg.put]
    refine W_call (W_cons (W_var (by rw [List.getElem?_set_ne (by decide)]; exact s0) (W_cons (W_var (by rw [List.getElem?_set_ne (by decide)]; exact s2) (W_nil ?_)))))
    refine (ofS_ok ho ht q3 (by omega) h0 h1).imp fun v m4 ⟨hv, g, hb4⟩ => ?_
    refine ⟨g.2 _ _ (by simp; omega) hD, fun y hy => ?_, q2.trans ((g.mono (by simp)).trans (.set (by simp))), ?_⟩
    · rcases List.mem_append.mp hy with hy | hy
      · exact q1 y hy
      · rw [List.mem_singleton.mp hy]
        exact hv
    · exact (Gr.set (S := [m.length]) (by simp)).box (by simp; omega) hb4
  · rintro acc m3 hal hD ⟨q1, q2, q3⟩
    exact ⟨at_rng0, rfl, acc, hD, hal, q1, q2.fresh (Nat.le_refl _), q3⟩
def bNames (z : Str) (t o p : Nat) : Ss :=
    (.cons (.asg 2 (.str z))
    (.cons (.asg 3 (.bin .Add (.int 1) (.call t (.cons (.var 0) (.cons (.int 8) .nil)))))
    (.cons (.asg 4 (.lc (.call o (.cons (.var 0) (.cons (.var 2) .nil))) (.nm 5) (.rng (.var 3))))
    (.cons (.par [6, 7, 8] (.cons (.call t (.cons (.var 0) (.cons (.int 4) .nil))) (.cons (.call t (.cons (.var 0) (.cons (.var 3) .nil))) (.cons (.lst .nil) .nil))))
    (.cons (.for (.nm 9) (.seq (.call p (.cons (.var 0) (.cons (.var 2) (.cons (.var 1) .nil))))) (.cons (.ife (.cmp .Eq (.var 6) (.int 0)) (.cons (.ex (.mt .append (.var 8) (.cons (.var 9) .nil)))
    .nil) (.cons (.ife (.cmp .Lt (.var 6) (.int 3)) (.cons (.ex (.mt .append (.var 8) (.cons (.join (.str "") (.bin .Add (.bin .Add (.sl (.var 4) .nop (.var 7)) (.lst (.cons (.var 9) .nil))) (.sl (.var 4) (.bin .Add (.var 7) (.int 1)) .nop))) .nil)))
    .nil) (.cons (.ex (.mt .append (.var 8) (.cons (.bin .Add (.var 9) (.join (.str "") (.lc (.call o (.cons (.var 0) (.cons (.var 2) .nil))) (.nm 5) (.rng (.call t (.cons (.var 0) (.cons (.int 8) .nil))))))) .nil)))
    .nil))
    .nil))
    .nil))
    (.cons (.ret (.var 8))
    .nil))))))
theorem at_seq {m : M} {q i : Nat} {xs : List MV} {x : MV} (h : m[q]? = some (.lst xs)) (hx : xs[i]? = some x) : (Src.seq q).at m i = some (some (x, m)) := by
  simp only [Src.at, lstOf, h, hx]
theorem at_seq0 {m : M} {q n : Nat} {xs : List MV} (h : m[q]? = some (.lst xs)) (hn : n = xs.length) : (Src.seq q).at m n = some none := by
  subst hn
  simp only [Src.at, lstOf, h]
  rw [List.getElem?_eq_none (Nat.le_refl _)]
theorem cut_mem {xs : List MV} {lo hi : Option Int} {y : MV} (h : y ∈ cutM xs lo hi) : y ∈ xs := by
  unfold cutM at h
  exact List.mem_of_mem_drop (List.mem_of_mem_take h)
theorem cut_le {xs : List MV} {lo hi : Option Int} : (cutM xs lo hi).length ≤ xs.length := by
  rw [cut_len]
  omega
/-- a text in the list of names -/
def Txts (y : MV) : Prop := ∃ z : Str, y = .str z ∧ z.length ≤ 100
/-- one turn's text -/
theorem name_turn {P : Pg} {t o k a c sp : Nat} {z sg : Str} {m : M} {s : SL} {bs : List MV} {b l so : Nat} {s1 : Option MV} (ht : P.fs[t]? = some ⟨6, 2, bTake⟩) (ho : P.fs[o]? = some ⟨2, 2, bOf t⟩)
    (hb : isBox m a c) (hc : c < 2 ^ 57) (h0 : 0 < z.length) (h1 : z.length ≤ big) (hfu : 1000 < P.fuel) {fd : List MV} {ln s5 : Option MV} (hbs : m[b]? = some (.lst bs)) (hsg : ∀ y ∈ bs, Sign y) (hbl : bs.length < 50) (hl : m[l]? = some (.lst fd)) (hfl : fd.length < 1000)
    (g1 : sg.length = 1) (na : l ≠ a) (nb : b ≠ a) (nl : b ≠ l) :
    WS (evSs (P.cfg (callF P (k + 2))) (.cons (.ife (.cmp .Eq (.var 6) (.int 0)) (.cons (.ex (.mt .append (.var 8) (.cons (.var 9) .nil)))
    .nil) (.cons (.ife (.cmp .Lt (.var 6) (.int 3)) (.cons (.ex (.mt .append (.var 8) (.cons (.join (.str "") (.bin .Add (.bin .Add (.sl (.var 4) .nop (.var 7)) (.lst (.cons (.var 9) .nil))) (.sl (.var 4) (.bin .Add (.var 7) (.int 1)) .nop))) .nil)))
    .nil) (.cons (.ex (.mt .append (.var 8) (.cons (.bin .Add (.var 9) (.join (.str "") (.lc (.call o (.cons (.var 0) (.cons (.var 2) .nil))) (.nm 5) (.rng (.call t (.cons (.var 0) (.cons (.int 8) .nil))))))) .nil)))
    .nil))
    .nil))
    .nil) [some (.ref a), s1, some (.str z), ln, some (.ref b), s5, some (.int so), some (.int sp), some (.ref l), some (.str sg)] m)
    (fun s' m' => s' = [some (.ref a), s1, some (.str z), ln, some (.ref b), s5, some (.int so), some (.int sp), some (.ref l), some (.str sg)] ∧ ∃ y, Txts y ∧ m'[l]? = some (.lst (fd ++ [y])) ∧ Gr [l, a] m m' ∧ isBox m' a (c + 10)) (fun _ _ => False) := by
  refine WS_cons (S_ife ?_)
  walk_at "vi"
  refine C_eq (by rfl) ?_
  refine Tr_bl (fun _ => ?_) (fun _ => ?_)
  · walk_at "vi"
    refine ⟨isLst_of hl, ?_⟩
    walk_at "vi"
    refine T_app hl (by unfold big; omega) ?_
    walk_at "vi"
    exact ⟨rfl, _, ⟨sg, rfl, by omega⟩, get_set (lt_of hl), .set (by simp), (Gr.set (S := [l]) (by simp)).box (by simp; omega) (hb.mono (by omega))⟩
  · walk_at "vi"
    refine Tr_bl (fun _ => ?_) (fun _ => ?_)
    · walk_at "vi"
      refine ⟨isLst_of hl, ?_⟩
      walk_at "vi"
      refine ⟨rfl, ?_⟩
      walk_at "vi"
      refine D_sl (.inl hbs) ?_
      walk_at "vi"
      refine ⟨by show 1 ≤ big; decide, ?_⟩
      have l1 := cut_le (xs := bs) (lo := none) (hi := some (sp : Int))
      have l2 := cut_le (xs := bs) (lo := some ((sp : Int) + 1)) (hi := none)
      refine V_cat (xs := cutM bs none (some (sp : Int))) (ys := [.str sg]) ?_ get_new (by unfold big; simp; omega) ?_
      · exact (Gr.app (S := [])).2 _ _ (by simp) get_new
      walk_at "vi"
      have hb3 := ((Gr.app (S := []) (m := m) (l := [MO.lst (cutM bs none (some (sp : Int)))])).trans (Gr.app (l := [MO.lst [MV.str sg]]))).trans (Gr.app (l := [MO.lst (cutM bs none (some (sp : Int)) ++ [MV.str sg])]))
      refine ⟨_, rfl, ?_⟩
      walk_at "vi"
      refine D_sl (.inl (hb3.2 b _ (by simp) hbs)) ?_
      refine V_cat (xs := cutM bs none (some (sp : Int)) ++ [.str sg]) (ys := cutM bs (some ((sp : Int) + 1)) none) ?_ get_new (by unfold big; simp; omega) ?_
      · exact (Gr.app (S := [])).2 _ _ (by simp) get_new
      have sgn : ∀ y ∈ (cutM bs none (some (sp : Int)) ++ [MV.str sg]) ++ cutM bs (some ((sp : Int) + 1)) none, Sign y := fun y hy => by
        rcases List.mem_append.mp hy with hy | hy
        · rcases List.mem_append.mp hy with hy | hy
          · exact hsg y (cut_mem hy)
          · rw [List.mem_singleton.mp hy]
            obtain ⟨⟨cs⟩⟩ := sg
            match cs, g1 with
            | [x], _ => exact ⟨x, rfl⟩
        · exact hsg y (cut_mem hy)
      obtain ⟨zs, ez, hz1, hz2⟩ := signs_strs sgn
      have len : zs.length < 100 := by
        rw [hz2]
        simp
        omega
      refine J_join (seq_lst get_new) ez ?_ ?_
      · rw [ones_sum hz1]
        show zs.length + zs.length * 0 ≤ 16777216
        omega
      have hj : (Txt.join ("" : Str) zs).length = zs.length := PySem.W.KT.join_ones zs hz1
      have g4 : Gr [] m (m ++ [MO.lst (cutM bs none (some (sp : Int)))] ++ [MO.lst [MV.str sg]] ++ [MO.lst (cutM bs none (some (sp : Int)) ++ [MV.str sg])] ++ [MO.lst (cutM bs (some ((sp : Int) + 1)) none)] ++
        [MO.lst (cutM bs none (some (sp : Int)) ++ [MV.str sg] ++ cutM bs (some ((sp : Int) + 1)) none)]) := (hb3.trans Gr.app).trans Gr.app
      generalize m ++ [MO.lst (cutM bs none (some (sp : Int)))] ++ [MO.lst [MV.str sg]] ++ [MO.lst (cutM bs none (some (sp : Int)) ++ [MV.str sg])] ++ [MO.lst (cutM bs (some ((sp : Int) + 1)) none)] ++
        [MO.lst (cutM bs none (some (sp : Int)) ++ [MV.str sg] ++ cutM bs (some ((sp : Int) + 1)) none)] = m4 at g4
      have hl4 := g4.2 l _ (by simp) hl
      walk_at "vi"
      refine T_app hl4 (by unfold big; omega) ?_
      walk_at "vi"
      exact ⟨rfl, _, ⟨_, rfl, by rw [hj]; omega⟩, get_set (lt_of hl4), g4.up.trans (.set (by simp)), (Gr.set (S := [l]) (by simp)).box (by simp; omega) ((g4.box (by simp) hb).mono (by omega))⟩
    · walk_at "vi"
      refine ⟨isLst_of hl, ?_⟩
      walk_at "vi"
      refine ⟨rfl, ?_⟩
      refine W_lc (I_rng ?_)
      walk_at "vi"
      refine (take_ok (n := 8) ht hb (by omega) (by decide) (by decide)).imp fun v m1 ⟨⟨r, hr, e⟩, ob, em, hb1⟩ => ?_
      subst e
      have g1' : Gr [a] m m1 := em ▸ .set (by simp)
      have hl1 := g1'.2 l _ (by simp; omega) hl
      refine ⟨r, rfl, ⟨by omega, by omega⟩, ?_⟩
      rw [Int.toNat_natCast]
      refine (of_turns ho ht hb1 (by omega) h0 h1 (by omega) hfu rfl rfl).imp fun v m2 ⟨e, acc, h2, hla, hs, g2, hb2⟩ => ?_
      subst e
      obtain ⟨zs, ez, hz1, hz2⟩ := signs_strs hs
      refine J_join (seq_lst h2) ez ?_ ?_
      · rw [ones_sum hz1]
        show zs.length + zs.length * 0 ≤ 16777216
        omega
      have hj : (Txt.join ("" : Str) zs).length = zs.length := PySem.W.KT.join_ones zs hz1
      refine V_scat (by unfold big; omega) ?_
      have hl2 := g2.2 l _ (by simp; omega) hl1
      walk_at "vi"
      refine T_app hl2 (by unfold big; omega) ?_
      walk_at "vi"
      exact ⟨rfl, _, ⟨_, rfl, by rw [PySem.Str.length_append]; omega⟩, get_set (lt_of hl2), ((g1'.trans g2).mono (by simp)).trans (.set (by simp)), (Gr.set (S := [l]) (by simp)).box (by simp; omega) (hb2.mono (by omega))⟩
theorem names_ok {P : Pg} {f t o p k a c n : Nat} {z : Str} {m : M} (hf : P.fs[f]? = some ⟨10, 2, bNames z t o p⟩) (ht : P.fs[t]? = some ⟨6, 2, bTake⟩) (ho : P.fs[o]? = some ⟨2, 2, bOf t⟩) (hp : P.fs[p]? = some ⟨6, 3, bPick t⟩)
    (hb : isBox m a c) (hc : c < 2 ^ 56) (hz : z.length = 26) (hn : n ≤ 26) (hfu : 1000 < P.fuel) :
    WP (callF P (k + 3) f [.ref a, .int n] m) fun v m' => ∃ l ys, v = .ref l ∧ m'[l]? = some (.lst ys) ∧ ys.length = n ∧ (∀ y ∈ ys, Txts y) ∧ Gr [a] m m' ∧ isBox m' a (c + 400) := by
  have ha : a < m.length := by
    obtain ⟨_, _, _, e, _⟩ := hb
    exact lt_of e
  have z0 : 0 < z.length := by omega
  have z1 : z.length ≤ big := by unfold big; omega
  refine WP_call (k := k + 2) hf rfl ?_
  unfold bNames
  show WS (evSs (P.cfg (callF P (k + 2))) _ [some (.ref a), some (.int n), none, none, none, none, none, none, none, none] m) _ _
  walk_at "vi"
  refine (take_ok (n := 8) ht hb (by omega) (by decide) (by decide)).imp fun v m1 ⟨⟨r, hr, e⟩, ob, em, hb1⟩ => ?_
  subst e
  have g1 : Gr [a] m m1 := em ▸ .set (by simp)
  walk_at "vi"
  simp only [List.set]
  with_reducible refine W_lc ?_
  with_reducible refine I_rng ?_
  walk_at "vi"
  refine ⟨_, rfl, ⟨by omega, by omega⟩, ?_⟩
  have er : (1 + (r : Int)).toNat = r + 1 := by omega
  rw [er]
  refine (of_turns ho ht hb1 (by omega) z0 z1 (by omega) hfu rfl rfl).imp fun v m2 ⟨e, bs, h2, hbl, hbs, g2, hb2⟩ => ?_
  subst e
  walk_at "vi"
  refine (take_ok (n := 4) ht hb2 (by omega) (by decide) (by decide)).imp fun v m3 ⟨⟨so, hso, e⟩, ob3, em3, hb3⟩ => ?_
  subst e
  have g3 : Gr [a] m2 m3 := em3 ▸ .set (by simp)
  walk_at "vi"
  have e1 : (MV.int (1 + (r : Int))) = MV.int ((r + 1 : Nat) : Int) := by
    congr 1
    omega
  rw [e1]
  refine (take_ok (n := r + 1) ht hb3 (by omega) (by omega) (by omega)).imp fun v m4 ⟨⟨sp, hsp, e⟩, ob4, em4, hb4⟩ => ?_
  subst e
  have g4 : Gr [a] m3 m4 := em4 ▸ .set (by simp)
  walk_at "vi"
  refine ⟨by decide, ?_⟩
  walk_at "vi"
  refine ⟨rfl, ?_⟩
  have hlt1 : m.length ≤ m1.length := g1.1
  have nb : m1.length ≠ a := by omega
  have h4 : m4[m1.length]? = some (.lst bs) := g4.2 _ _ (by simp; omega) (g3.2 _ _ (by simp; omega) h2)
  have h5 : (m4 ++ [MO.lst []])[m4.length]? = some (.lst []) := get_new
  have h5b := (Gr.app (S := []) (l := [MO.lst []])).2 _ _ (by simp) h4
  have hb5 : isBox (m4 ++ [MO.lst []]) a (c + 1 + (r + 1) + 1 + 1) := (Gr.app (S := [])).box (by simp) hb4
  have g5 : Gr [a] m (m4 ++ [MO.lst []]) := (((g1.trans g2).trans g3).trans g4).trans .app
  have nl : m4.length ≠ a := by
    have := g5.1
    have l1 := (((g1.trans g2).trans g3).trans g4).1
    omega
  have nbl : m1.length ≠ m4.length := by
    have := lt_of h4
    omega
  have lge : m.length ≤ m4.length := (((g1.trans g2).trans g3).trans g4).1
  generalize m4 ++ [MO.lst []] = m5 at h5 h5b hb5 g5
  generalize m4.length = l at h5 nl nbl lge
  generalize m1.length = b at h5b nb nbl
  refine WS_cons (S_for (I_seq ?_))
  walk_at "vi"
  refine (pickS_ok (n := n) hp ht hb5 (by omega) z1 (by omega) (by omega)).imp fun v m6 ⟨pk, ys, e, hge, h6, hyl, hys, g6, hb6⟩ => ?_
  subst e
  have n1 : pk ≠ l := by
    have := lt_of h5
    omega
  have n2 : pk ≠ a := by
    have := lt_of h5
    have := g5.1
    omega
  refine ⟨pk, ys, rfl, h6, ?_⟩
  refine for_go (n := n) (I := fun i s m' => ∃ x9 fd, s = [some (.ref a), some (.int n), some (.str z), some (.int ((r + 1 : Nat) : Int)), some (.ref b), none, some (.int so), some (.int sp), some (.ref l), x9] ∧ m'[l]? = some (.lst fd) ∧ fd.length = i ∧ (∀ y ∈ fd, Txts y) ∧
    m'[b]? = some (.lst bs) ∧ m'[pk]? = some (.lst ys) ∧ Gr [l, a] m m' ∧ isBox m' a (c + 1 + (r + 1) + 1 + 1 + n + 10 * i)) ?_ ?_ P.fuel 0 _ m6 (by omega) (by omega) ?_
  · rintro i s m7 hi ⟨x9, fd, rfl, q1, q2, q3, q4, q5, q6, q7⟩
    have hy : i < ys.length := by omega
    obtain ⟨sg, hsg⟩ := hys _ (List.getElem_mem hy)
    refine ⟨_, m7, at_seq q5 (List.getElem?_eq_getElem hy), ?_⟩
    simp only [Tg.put, List.set]
    rw [hsg]
    refine WS.imp (name_turn (sp := sp) (so := so) (s := []) ht ho q7 (by omega) z0 z1 hfu q4 hbs (by omega) q1 (by omega) rfl nl nb nbl) ?_ fun _ _ h => h.elim
    rintro s' m8 ⟨rfl, y, ty, h8, g8, hb8⟩
    refine ⟨_, fd ++ [y], rfl, h8, by simp [q2], fun u hu => ?_, g8.2 _ _ (by simp; omega) q4, g8.2 _ _ (by simp; omega) q5, q6.trans g8, hb8.mono (by omega)⟩
    rcases List.mem_append.mp hu with hu | hu
    · exact q3 u hu
    · rw [List.mem_singleton.mp hu]
      exact ty
  · rintro s m7 ⟨x9, fd, rfl, q1, q2, q3, q4, q5, q6, q7⟩
    refine ⟨at_seq0 q5 hyl.symm, ?_⟩
    walk_at "vi"
    exact ⟨l, fd, rfl, q1, q2, q3, q6.fresh lge, q7.mono (by omega)⟩
  · refine ⟨_, [], rfl, g6.2 _ _ (by simp; omega) h5, rfl, fun y hy => (by cases hy), g6.2 _ _ (by simp; omega) h5b, h6, (g5.trans g6).mono (by simp), hb6.mono (by omega)⟩
end VI


set_option Elab.async false
set_option linter.all false
set_option maxRecDepth 100000
set_option maxHeartbeats 4000000
namespace VI
open PySem PySem.Spec PyProof.Rows L2
/-! ### exceptions as values -/
def IsE (m : M) (v : MV) (c : Nat) : Prop := ∃ x, v = .ref x ∧ (m[x]? = some (.exo c none) ∨ ∃ d fs, m[x]? = some (.exo c (some d)) ∧ m[d]? = some (.exd fs))
def Has (m : M) (v : MV) (f : Str) (w : MV) : Prop := ∃ x d fs c, v = .ref x ∧ m[x]? = some (.exo c (some d)) ∧ m[d]? = some (.exd fs) ∧ fs.lookup f = some w
theorem IsE.gr {m m' : M} {v : MV} {c : Nat} (g : Gr [] m m') (h : IsE m v c) : IsE m' v c := by
  obtain ⟨x, e, h | ⟨d, fs, h1, h2⟩⟩ := h
  · exact ⟨x, e, .inl (g.2 _ _ (by simp) h)⟩
  · exact ⟨x, e, .inr ⟨d, fs, g.2 _ _ (by simp) h1, g.2 _ _ (by simp) h2⟩⟩
theorem Has.gr {m m' : M} {v : MV} {f : Str} {w : MV} (g : Gr [] m m') (h : Has m v f w) : Has m' v f w := by
  obtain ⟨x, d, fs, c, e, h1, h2, h3⟩ := h
  exact ⟨x, d, fs, c, e, g.2 _ _ (by simp) h1, g.2 _ _ (by simp) h2, h3⟩
theorem IsE.ty {m : M} {v : MV} {c : Nat} (h : IsE m v c) : tyName m v = some (.inr c) := by
  obtain ⟨x, rfl, h | ⟨d, fs, h1, h2⟩⟩ := h
  · simp only [tyName, h]
  · simp only [tyName, h1, h2]
section
variable {G : Cfg} {s : SL} {m : M} {Q : MV → M → Prop} {N : SL → M → Prop} {R : MV → M → Prop} {v : MV}
theorem V_fld {f : Str} {w : MV} (h : Has m v f w) (q : Q w m) : WP (fldV v f m) Q := by
  obtain ⟨x, d, fs, c, rfl, h1, h2, h3⟩ := h
  unfold fldV
  simp only [h1, h2, h3]
  exact q
theorem S_fst {o e : E} {f : Str} (h : WP (evE G e s m) fun v m1 => WP (evE G o s m1) fun x m2 => ∃ a c, x = .ref a ∧ ((m2[a]? = some (.exo c none) ∧ N s ((m2 ++ [MO.exd [(f, v)]]).set a (.exo c (some m2.length)))) ∨
    ∃ d fs, m2[a]? = some (.exo c (some d)) ∧ m2[d]? = some (.exd fs) ∧ fs.length ≤ 900 ∧ N s (m2.set d (.exd ((f, v) :: fs))))) : WS (evS G (.fst o f e) s m) N R := by
  simp only [evS, WS_fl]
  refine h.imp fun v m1 h => h.imp fun x m2 ⟨a, c, e, hh⟩ => ?_
  subst e
  rcases hh with ⟨h1, q⟩ | ⟨d, fs, h1, h2, h3, q⟩
  · simp only [h1]
    exact q
  · simp only [h1, h2]
    rw [if_pos h3]
    exact q
theorem W_isO {a : E} {d : Nat} (h : WP (evE G a s m) fun x m1 => ∃ c z, tyName m1 x = some (.inr c) ∧ G.sub c d = some z ∧ Q (.bl z) m1) : WP (evE G (.isi a [.own d] false) s m) Q :=
  W_isi (h.imp fun x m1 ⟨c, z, e, e2, q⟩ => ⟨.inr c, z, e, by
    simp only [List.map, tySub, e2]
    cases z <;> rfl, rfl, q⟩)
theorem WP_mk {P : Pg} {k c f : Nat} {xs : List MV} (hi : P.ini c = some f) (hl : xs.length ≤ 1000) (h : WP (callF P k f (.ref m.length :: xs) (m ++ [.exo c none])) fun v m' => v = .non ∧ Q (.ref m.length) m') : WP (mkX (P.cfg (callF P k)) c xs m) Q := by
  unfold mkX
  have e : (P.cfg (callF P k)).ini c = some f := hi
  rw [e]
  simp only
  rw [if_pos hl]
  have e2 : (P.cfg (callF P k)).cf f (.ref m.length :: xs) (m ++ [.exo c none]) = callF P k f (.ref m.length :: xs) (m ++ [.exo c none]) := rfl
  rw [e2]
  revert h
  cases callF P k f (.ref m.length :: xs) (m ++ [.exo c none]) with
  | ok v m1 =>
    intro ⟨e, q⟩
    subst e
    exact q
  | ex c d m1 => exact fun h => h.elim
  | no => exact fun h => h.elim
end
theorem look_same {f : Str} {v : MV} {l : List (Str × MV)} : List.lookup f ((f, v) :: l) = some v := by
  simp [List.lookup_cons]
theorem look_next {f g : Str} {v : MV} {l : List (Str × MV)} (h : f ≠ g) : List.lookup f ((g, v) :: l) = List.lookup f l := by
  rw [List.lookup_cons, show (f == g) = false from by simp [h]]
def bI1 (g : Str) : Ss := .cons (.fst (.var 0) g (.var 1)) .nil
def bI2 (g h : Str) : Ss := .cons (.fst (.var 0) g (.var 1)) (.cons (.fst (.var 0) h (.var 2)) .nil)
def bI3 (g h i : Str) : Ss := .cons (.fst (.var 0) g (.var 1)) (.cons (.fst (.var 0) h (.var 2)) (.cons (.fst (.var 0) i (.var 3)) .nil))
def bIR (g : Str) : Ss := .cons (.fst (.var 0) g (.ite (.isi (.var 1) [.ty "list"] false) (.bi .tuple (.cons (.var 1) .nil)) (.var 1))) .nil
section
variable {P : Pg} {k c f : Nat} {g h i : Str} {u v w : MV} {m : M}
/-- the first field laid -/
theorem first_fld : IsE (((m ++ [MO.exo c none]) ++ [MO.exd [(g, v)]]).set m.length (.exo c (some (m ++ [MO.exo c none]).length))) (.ref m.length) c ∧
    (((m ++ [MO.exo c none]) ++ [MO.exd [(g, v)]]).set m.length (.exo c (some (m ++ [MO.exo c none]).length)))[m.length]? = some (.exo c (some (m ++ [MO.exo c none]).length)) ∧
    (((m ++ [MO.exo c none]) ++ [MO.exd [(g, v)]]).set m.length (.exo c (some (m ++ [MO.exo c none]).length)))[(m ++ [MO.exo c none]).length]? = some (.exd [(g, v)]) ∧
    Gr [] m (((m ++ [MO.exo c none]) ++ [MO.exd [(g, v)]]).set m.length (.exo c (some (m ++ [MO.exo c none]).length))) := by
  have a1 : (((m ++ [MO.exo c none]) ++ [MO.exd [(g, v)]]).set m.length (.exo c (some (m ++ [MO.exo c none]).length)))[m.length]? = some (.exo c (some (m ++ [MO.exo c none]).length)) := get_set (by simp)
  have a2 : (((m ++ [MO.exo c none]) ++ [MO.exd [(g, v)]]).set m.length (.exo c (some (m ++ [MO.exo c none]).length)))[(m ++ [MO.exo c none]).length]? = some (.exd [(g, v)]) := by
    rw [List.getElem?_set_ne (by simp)]
    exact get_new
  exact ⟨⟨_, rfl, .inr ⟨_, _, a1, a2⟩⟩, a1, a2, Gr.fresh ((Gr.app.trans Gr.app).trans (.set (by simp))) (Nat.le_refl _)⟩
theorem mk1_ok (hi : P.ini c = some f) (hf : P.fs[f]? = some ⟨2, 2, bI1 g⟩) : WP (mkX (P.cfg (callF P (k + 1))) c [v] m) fun u m' => IsE m' u c ∧ Has m' u g v ∧ Gr [] m m' := by
  refine WP_mk hi (by show 1 ≤ 1000; decide) (WP_call hf rfl ?_)
  unfold bI1
  show WS (evSs _ _ [some (.ref m.length), some v] _) _ _
  refine WS_cons (S_fst ?_)
  walk_at "vi"
  refine ⟨m.length, c, rfl, .inl ⟨get_new, ?_⟩⟩
  walk_at "vi"
  obtain ⟨a0, a1, a2, a3⟩ := first_fld (m := m) (c := c) (g := g) (v := v)
  exact ⟨rfl, a0, ⟨_, _, _, _, rfl, a1, a2, look_same⟩, a3⟩
theorem mkR_ok (hi : P.ini c = some f) (hf : P.fs[f]? = some ⟨2, 2, bIR g⟩) {t : Nat} {xs : List MV} (ht : m[t]? = some (.tup xs)) : WP (mkX (P.cfg (callF P (k + 1))) c [.ref t] m) fun u m' => IsE m' u c ∧ Has m' u g (.ref t) ∧ Gr [] m m' := by
  refine WP_mk hi (by show 1 ≤ 1000; decide) (WP_call hf rfl ?_)
  unfold bIR
  show WS (evSs _ _ [some (.ref m.length), some (.ref t)] _) _ _
  refine WS_cons (S_fst ?_)
  walk_at "vi"
  have t1 : tyName (m ++ [.exo c none]) (.ref t) = some (.inl "tuple") := by
    have := (Gr.app (S := []) (l := [MO.exo c none])).2 t _ (by simp) ht
    simp only [tyName, this]
  refine ⟨_, _, t1, rfl, rfl, ?_⟩
  refine Tr_f ?_
  walk_at "vi"
  refine ⟨m.length, c, rfl, .inl ⟨get_new, ?_⟩⟩
  walk_at "vi"
  obtain ⟨a0, a1, a2, a3⟩ := first_fld (m := m) (c := c) (g := g) (v := .ref t)
  exact ⟨rfl, a0, ⟨_, _, _, _, rfl, a1, a2, look_same⟩, a3⟩
theorem mk2_ok (hi : P.ini c = some f) (hf : P.fs[f]? = some ⟨3, 3, bI2 g h⟩) (ne : g ≠ h) : WP (mkX (P.cfg (callF P (k + 1))) c [v, w] m) fun u m' => IsE m' u c ∧ Has m' u g v ∧ Has m' u h w ∧ Gr [] m m' := by
  refine WP_mk hi (by show 2 ≤ 1000; decide) (WP_call hf rfl ?_)
  unfold bI2
  show WS (evSs _ _ [some (.ref m.length), some v, some w] _) _ _
  refine WS_cons (S_fst ?_)
  walk_at "vi"
  refine ⟨m.length, c, rfl, .inl ⟨get_new, ?_⟩⟩
  obtain ⟨a0, a1, a2, a3⟩ := first_fld (m := m) (c := c) (g := g) (v := v)
  have dl : m.length < (m ++ [MO.exo c none]).length := by simp
  generalize ((m ++ [MO.exo c none]) ++ [MO.exd [(g, v)]]).set m.length (.exo c (some (m ++ [MO.exo c none]).length)) = m1 at a0 a1 a2 a3
  generalize (m ++ [MO.exo c none]).length = d at a1 a2 dl
  refine WS_cons (S_fst ?_)
  walk_at "vi"
  refine ⟨m.length, c, rfl, .inr ⟨d, [(g, v)], a1, a2, by show 1 ≤ 900; decide, ?_⟩⟩
  walk_at "vi"
  have b1 : (m1.set d (.exd [(h, w), (g, v)]))[m.length]? = some (.exo c (some d)) := by
    rw [List.getElem?_set_ne (by omega)]
    exact a1
  have b2 : (m1.set d (.exd [(h, w), (g, v)]))[d]? = some (.exd [(h, w), (g, v)]) := get_set (lt_of a2)
  refine ⟨rfl, ⟨_, rfl, .inr ⟨_, _, b1, b2⟩⟩, ⟨_, _, _, _, rfl, b1, b2, ?_⟩, ⟨_, _, _, _, rfl, b1, b2, look_same⟩, Gr.fresh (a := d) (a3.up.trans (.set (by simp))) (by omega)⟩
  rw [look_next ne]
  exact look_same
theorem mk3_ok (hi : P.ini c = some f) (hf : P.fs[f]? = some ⟨4, 4, bI3 g h i⟩) (ne : g ≠ h) (ne2 : g ≠ i) (ne3 : h ≠ i) : WP (mkX (P.cfg (callF P (k + 1))) c [v, w, u] m) fun x m' => IsE m' x c ∧ Has m' x g v ∧ Has m' x h w ∧ Has m' x i u ∧ Gr [] m m' := by
  refine WP_mk hi (by show 3 ≤ 1000; decide) (WP_call hf rfl ?_)
  unfold bI3
  show WS (evSs _ _ [some (.ref m.length), some v, some w, some u] _) _ _
  refine WS_cons (S_fst ?_)
  walk_at "vi"
  refine ⟨m.length, c, rfl, .inl ⟨get_new, ?_⟩⟩
  obtain ⟨a0, a1, a2, a3⟩ := first_fld (m := m) (c := c) (g := g) (v := v)
  have dl : m.length < (m ++ [MO.exo c none]).length := by simp
  generalize ((m ++ [MO.exo c none]) ++ [MO.exd [(g, v)]]).set m.length (.exo c (some (m ++ [MO.exo c none]).length)) = m1 at a0 a1 a2 a3
  generalize (m ++ [MO.exo c none]).length = d at a1 a2 dl
  refine WS_cons (S_fst ?_)
  walk_at "vi"
  refine ⟨m.length, c, rfl, .inr ⟨d, [(g, v)], a1, a2, by show 1 ≤ 900; decide, ?_⟩⟩
  have b1 : (m1.set d (.exd [(h, w), (g, v)]))[m.length]? = some (.exo c (some d)) := by
    rw [List.getElem?_set_ne (by omega)]
    exact a1
  have b2 : (m1.set d (.exd [(h, w), (g, v)]))[d]? = some (.exd [(h, w), (g, v)]) := get_set (lt_of a2)
  have b3 : Gr [] m (m1.set d (.exd [(h, w), (g, v)])) := Gr.fresh (a := d) (a3.up.trans (.set (by simp))) (by omega)
  generalize m1.set d (.exd [(h, w), (g, v)]) = m2 at b1 b2 b3
  refine WS_cons (S_fst ?_)
  walk_at "vi"
  refine ⟨m.length, c, rfl, .inr ⟨d, [(h, w), (g, v)], b1, b2, by show 2 ≤ 900; decide, ?_⟩⟩
  walk_at "vi"
  have c1 : (m2.set d (.exd [(i, u), (h, w), (g, v)]))[m.length]? = some (.exo c (some d)) := by
    rw [List.getElem?_set_ne (by omega)]
    exact b1
  have c2 : (m2.set d (.exd [(i, u), (h, w), (g, v)]))[d]? = some (.exd [(i, u), (h, w), (g, v)]) := get_set (lt_of b2)
  refine ⟨rfl, ⟨_, rfl, .inr ⟨_, _, c1, c2⟩⟩, ⟨_, _, _, _, rfl, c1, c2, ?_⟩, ⟨_, _, _, _, rfl, c1, c2, ?_⟩, ⟨_, _, _, _, rfl, c1, c2, look_same⟩, Gr.fresh (a := d) (b3.up.trans (.set (by simp))) (by omega)⟩
  · rw [look_next ne2, look_next ne]
    exact look_same
  · rw [look_next ne3]
    exact look_same
theorem mk0_ok (hi : P.ini c = none) : WP (mkX (P.cfg (callF P k)) c [] m) fun u m' => IsE m' u c ∧ Gr [] m m' := by
  unfold mkX
  have e : (P.cfg (callF P k)).ini c = none := hi
  rw [e]
  exact ⟨⟨_, rfl, .inl get_new⟩, .app⟩
end
/-! ### new things, by what is known of them -/
section
variable {G : Cfg} {s : SL} {m : M} {Q : MV → M → Prop} {es : Es}
theorem W_lstG (h : WP (evEs G es s m) fun xs m1 => xs.length ≤ big ∧ ∀ p m2, m2[p]? = some (.lst xs) → Gr [] m1 m2 → m1.length ≤ p → Q (.ref p) m2) : WP (evE G (.lst es) s m) Q :=
  W_lst (h.imp fun xs m1 ⟨e, q⟩ => ⟨e, q _ _ get_new .app (Nat.le_refl _)⟩)
theorem W_tupG (h : WP (evEs G es s m) fun xs m1 => xs.length ≤ big ∧ ∀ p m2, m2[p]? = some (.tup xs) → Gr [] m1 m2 → m1.length ≤ p → Q (.ref p) m2) : WP (evE G (.tup es) s m) Q :=
  W_tup (h.imp fun xs m1 ⟨e, q⟩ => ⟨e, q _ _ get_new .app (Nat.le_refl _)⟩)
theorem V_catG {p r : Nat} {xs ys : List MV} (h1 : m[p]? = some (.lst xs)) (h2 : m[r]? = some (.lst ys)) (hl : xs.length + ys.length ≤ big) (q : ∀ u m2, m2[u]? = some (.lst (xs ++ ys)) → Gr [] m m2 → Q (.ref u) m2) : WP (opV .Add (.ref p) (.ref r) m) Q :=
  V_cat h1 h2 hl (q _ _ get_new .app)
end
theorem paired_map {α β γ : Type} {F : β → γ → Prop} {f : α → β} {g : α → γ} : ∀ {l : List α}, (∀ x ∈ l, F (f x) (g x)) → Paired F (l.map f) (l.map g)
  | [], _ => .nil
  | x :: l, h => .cons (h x (List.Mem.head _)) (paired_map fun y hy => h y (List.Mem.tail _ hy))
theorem Gr.at_ {m m' : M} {i : Nat} {o : MO} (g : Gr [] m m') (h : m[i]? = some o) : m'[i]? = some o := g.2 i o (by simp) h
end VI
local macro_rules | `(tactic| walk_at "vgr") => `(tactic| first | exact VI.Gr.refl | assumption | exact VI.Gr.app | (refine VI.Gr.trans (by assumption) ?_; walk_at "vgr") | (refine VI.Gr.trans ?_ VI.Gr.app; walk_at "vgr"))
namespace VI
open PySem PySem.Spec PyProof.Rows L2
end VI
local macro_rules | `(tactic| walk_at "vj1") => `(tactic| first
  | with_reducible refine VI.W_var rfl ?_ | with_reducible refine VI.W_int ?_ | with_reducible refine VI.W_bin ?_ | with_reducible refine VI.W_cmp ?_ | with_reducible refine VI.W_sub ?_ | with_reducible refine VI.W_bi ?_
  | with_reducible refine VI.W_cons ?_ | with_reducible refine VI.W_nil ?_ | with_reducible refine VI.W_call ?_ | with_reducible refine VI.W_lstG ?_ | with_reducible refine VI.W_tupG ?_ | with_reducible refine VI.W_str ?_
  | with_reducible refine VI.W_bl ?_ | with_reducible refine VI.W_non ?_ | with_reducible refine VI.W_and ?_ | with_reducible refine VI.W_or ?_ | with_reducible refine VI.W_ite ?_ | with_reducible refine VI.W_not ?_
  | with_reducible refine VI.W_neg ?_ | with_reducible refine VI.W_mk ?_ | with_reducible refine VI.W_mkK ?_ | with_reducible refine VI.W_fld ?_
  | with_reducible refine VI.WS_cons ?_ | with_reducible refine VI.WS_nil.mpr ?_ | with_reducible refine VI.S_asg ?_ | with_reducible refine VI.S_par ?_ | with_reducible refine VI.S_unp ?_ | with_reducible refine VI.S_ex ?_
  | with_reducible refine VI.S_ret ?_ | with_reducible refine VI.S_ife ?_
  | with_reducible refine VI.V_pow (by decide) ?_)
namespace VI
open PySem PySem.Spec PyProof.Rows L2
end VI
local macro_rules | `(tactic| walk_at "vj") => `(tactic| repeat walk_at "vj1")
namespace VI
open PySem PySem.Spec PyProof.Rows L2
end VI


set_option Elab.async false
set_option linter.all false
set_option maxRecDepth 100000
set_option maxHeartbeats 4000000
namespace VI.k00
open PySem PySem.Spec PyProof.Rows L2
def top (i : Nat) : Stmt := PySem.Challenge.pw_toldlate_k00_errors.main.body.getD i (Stmt.Pass default)
def st_law_box : Stmt := top 21
def d_law_box : He.DefD := ⟨("_law_box", none), "_law_box", "_law_box", defArgs st_law_box, defBody st_law_box, defScope st_law_box, [], []⟩
def b_law_box : Ss :=
    (.cons (.asg 2 (.ite (.cmp .Lt (.var 1) (.bi .len (.cons (.var 0) .nil))) (.sub (.var 0) (.var 1)) (.int 0)))
    (.cons (.ret (.lst (.cons (.bin .Mult (.bi .abs (.cons (.var 2) .nil)) (.bi .int (.cons (.cmp .GtE (.bi .abs (.cons (.var 2) .nil)) (.bin .Pow (.int 10) (.int 18))) .nil))) (.cons (.bin .Add (.bin .Add (.bin .Mod (.bi .int (.cons (.var 2) .nil)) (.int 2305843009213693951)) (.bin .Mult (.int 39373) (.var 1))) (.int 58800)) (.cons (.int 0) .nil)))))
    .nil))
theorem pb_law_box : PB d_law_box ["_law_script", "_law_k"] := fun _ _ _ _ _ _ us hl => match us, hl with
  | [_, _], _ => rfl
def st_law_take : Stmt := top 22
def d_law_take : He.DefD := ⟨("_law_take", none), "_law_take", "_law_take", defArgs st_law_take, defBody st_law_take, defScope st_law_take, [], []⟩
def b_law_take : Ss :=
    (.cons (.ife (.cmp .Gt (.sub (.var 0) (.int 0)) (.int 0)) (.cons (.asg 2 (.bin .Mod (.bi .int (.cons (.sub (.var 0) (.int 0)) .nil)) (.var 1)))
    (.cons (.sub (.var 0) (.int 0) (.bin .FloorDiv (.sub (.var 0) (.int 0)) (.var 1)))
    (.cons (.ret (.var 2))
    .nil))) .nil)
    (.cons (.sub (.var 0) (.int 2) (.bin .Add (.sub (.var 0) (.int 2)) (.int 1)))
    (.cons (.asg 3 (.bin .Mod (.bi .int (.cons (.bin .Mult (.bin .Add (.sub (.var 0) (.int 1)) (.bin .Mult (.int 48271) (.sub (.var 0) (.int 2)))) (.bin .Add (.int 39373) (.sub (.var 0) (.int 2)))) .nil)) (.int 2147483647)))
    (.cons (.asg 4 (.bin .Add (.bin .Mod (.bi .int (.cons (.var 3) .nil)) (.int 40009)) (.int 7)))
    (.cons (.asg 5 (.bin .Mod (.bi .int (.cons (.bin .Mult (.bin .Add (.bin .Add (.var 3) (.sub (.var 0) (.int 2))) (.bin .FloorDiv (.sub (.var 0) (.int 1)) (.int 1000003))) (.var 4)) .nil)) (.int 2147483629)))
    (.cons (.ret (.bin .Mod (.bi .int (.cons (.bin .FloorDiv (.bin .Mod (.bi .int (.cons (.bin .Add (.bin .Mult (.var 5) (.int 48271)) (.var 3)) .nil)) (.int 2147483587)) (.int 64)) .nil)) (.var 1)))
    .nil))))))
theorem pb_law_take : PB d_law_take ["_law_box_here", "_law_size_so"] := fun _ _ _ _ _ _ us hl => match us, hl with
  | [_, _], _ => rfl
def st_law_cells : Stmt := top 23
def d_law_cells : He.DefD := ⟨("_law_cells", none), "_law_cells", "_law_cells", defArgs st_law_cells, defBody st_law_cells, defScope st_law_cells, [], []⟩
def b_law_cells : Ss :=
    (.cons (.asg 2 (.or (.bi .list (.cons (.sl (.var 0) .nop (.var 1)) .nil)) (.lst (.cons (.int 0) .nil))))
    (.cons (.for (.tp [3, 4]) (.enum (.sl (.var 0) (.var 1) (.int 63))) (.cons (.asg 5 (.bin .Mod (.bi .int (.cons (.var 3) .nil)) (.var 1)))
    (.cons (.sub (.var 2) (.var 5) (.bin .Add (.sub (.var 2) (.var 5)) (.bin .Mult (.var 4) (.bin .Add (.var 3) (.int 2)))))
    .nil)))
    (.cons (.ret (.var 2))
    .nil)))
theorem pb_law_cells : PB d_law_cells ["_law_script", "_law_top_so"] := fun _ _ _ _ _ _ us hl => match us, hl with
  | [_, _], _ => rfl
def st_law_of : Stmt := top 24
def d_law_of : He.DefD := ⟨("_law_of", none), "_law_of", "_law_of", defArgs st_law_of, defBody st_law_of, defScope st_law_of, [], []⟩
def b_law_of : Ss :=
    (.cons (.ret (.sub (.var 1) (.call 1 (.cons (.var 0) (.cons (.bi .len (.cons (.var 1) .nil)) .nil)))))
    .nil)
theorem pb_law_of : PB d_law_of ["_law_box_here", "_law_goods_so"] := fun _ _ _ _ _ _ us hl => match us, hl with
  | [_, _], _ => rfl
def st_law_pick : Stmt := top 25
def d_law_pick : He.DefD := ⟨("_law_pick", none), "_law_pick", "_law_pick", defArgs st_law_pick, defBody st_law_pick, defScope st_law_pick, [], []⟩
def b_law_pick : Ss :=
    (.cons (.par [3, 4] (.cons (.bi .list (.cons (.var 1) .nil)) (.cons (.lst .nil) .nil)))
    (.cons (.for (.nm 5) (.rng (.bi .min (.cons (.bi .int (.cons (.var 2) .nil)) (.cons (.bi .len (.cons (.var 3) .nil)) .nil)))) (.cons (.ex (.mt .append (.var 4) (.cons (.mt .pop (.var 3) (.cons (.call 1 (.cons (.var 0) (.cons (.bi .len (.cons (.var 3) .nil)) .nil))) .nil)) .nil)))
    .nil))
    (.cons (.ret (.var 4))
    .nil)))
theorem pb_law_pick : PB d_law_pick ["_law_box_here", "_law_goods_so", "_law_count_so"] := fun _ _ _ _ _ _ us hl => match us, hl with
  | [_, _, _], _ => rfl
def st_law_same : Stmt := top 26
def d_law_same : He.DefD := ⟨("_law_same", none), "_law_same", "_law_same", defArgs st_law_same, defBody st_law_same, defScope st_law_same, [], []⟩
def b_law_same : Ss :=
    (.cons (.ife (.isi (.var 1) [.ty "list", .ty "tuple"] true) (.cons (.ife (.cmp .NotEq (.isi (.var 0) [.ty "list"] false) (.isi (.var 1) [.ty "list"] false)) (.cons (.ret (.bl false))
    .nil) .nil)
    (.cons (.ife (.cmp .NotEq (.isi (.var 0) [.ty "tuple"] false) (.isi (.var 1) [.ty "tuple"] false)) (.cons (.ret (.bl false))
    .nil) .nil)
    (.cons (.ret (.and (.cmp .Eq (.bi .len (.cons (.var 0) .nil)) (.bi .len (.cons (.var 1) .nil))) (.bi .all (.cons (.lc (.call 5 (.cons (.var 2) (.cons (.var 3) .nil))) (.tp [2, 3]) (.zip (.var 0) (.var 1))) .nil))))
    .nil))) .nil)
    (.cons (.ife (.or (.cmp .Is (.var 1) .non) (.isi (.var 1) [.ty "bool", .ty "str"] true)) (.cons (.ret (.and (.cmp .Eq (.var 0) (.var 1)) (.and (.cmp .Eq (.isi (.var 0) [.ty "bool"] false) (.isi (.var 1) [.ty "bool"] false)) (.cmp .Eq (.cmp .Is (.var 0) .non) (.cmp .Is (.var 1) .non)))))
    .nil) .nil)
    (.cons (.ret (.and (.isi (.var 0) [.ty "int"] false) (.and (.not (.isi (.var 0) [.ty "bool"] false)) (.cmp .Eq (.var 0) (.var 1)))))
    .nil)))
theorem pb_law_same : PB d_law_same ["_law_got", "_law_due"] := fun _ _ _ _ _ _ us hl => match us, hl with
  | [_, _], _ => rfl
def st_law_names : Stmt := top 27
def d_law_names : He.DefD := ⟨("_law_names", none), "_law_names", "_law_names", defArgs st_law_names, defBody st_law_names, defScope st_law_names, [], []⟩
def b_law_names : Ss :=
    (.cons (.asg 2 (.str "abcdefghijklmnopqrstuvwxyz"))
    (.cons (.asg 3 (.bin .Add (.int 1) (.call 1 (.cons (.var 0) (.cons (.int 8) .nil)))))
    (.cons (.asg 4 (.lc (.call 3 (.cons (.var 0) (.cons (.var 2) .nil))) (.nm 5) (.rng (.var 3))))
    (.cons (.par [6, 7, 8] (.cons (.call 1 (.cons (.var 0) (.cons (.int 4) .nil))) (.cons (.call 1 (.cons (.var 0) (.cons (.var 3) .nil))) (.cons (.lst .nil) .nil))))
    (.cons (.for (.nm 9) (.seq (.call 4 (.cons (.var 0) (.cons (.var 2) (.cons (.var 1) .nil))))) (.cons (.ife (.cmp .Eq (.var 6) (.int 0)) (.cons (.ex (.mt .append (.var 8) (.cons (.var 9) .nil)))
    .nil) (.cons (.ife (.cmp .Lt (.var 6) (.int 3)) (.cons (.ex (.mt .append (.var 8) (.cons (.join (.str "") (.bin .Add (.bin .Add (.sl (.var 4) .nop (.var 7)) (.lst (.cons (.var 9) .nil))) (.sl (.var 4) (.bin .Add (.var 7) (.int 1)) .nop))) .nil)))
    .nil) (.cons (.ex (.mt .append (.var 8) (.cons (.bin .Add (.var 9) (.join (.str "") (.lc (.call 3 (.cons (.var 0) (.cons (.var 2) .nil))) (.nm 5) (.rng (.call 1 (.cons (.var 0) (.cons (.int 8) .nil))))))) .nil)))
    .nil))
    .nil))
    .nil))
    (.cons (.ret (.var 8))
    .nil))))))
theorem pb_law_names : PB d_law_names ["_law_box_here", "_law_much_so"] := fun _ _ _ _ _ _ us hl => match us, hl with
  | [_, _], _ => rfl
def st_law_sorts : Stmt := top 28
def d_law_sorts : He.DefD := ⟨("_law_sorts", none), "_law_sorts", "_law_sorts", defArgs st_law_sorts, defBody st_law_sorts, defScope st_law_sorts, [], []⟩
def b_law_sorts : Ss :=
    (.cons (.asg 1 (.lst (.cons (.isi (.var 0) [.own 1] false) (.cons (.isi (.var 0) [.own 2] false) (.cons (.isi (.var 0) [.own 3] false) .nil)))))
    (.cons (.asg 1 (.bin .Add (.var 1) (.lst (.cons (.isi (.var 0) [.own 4] false) (.cons (.isi (.var 0) [.own 5] false) (.cons (.isi (.var 0) [.own 6] false) .nil))))))
    (.cons (.asg 1 (.bin .Add (.var 1) (.lst (.cons (.isi (.var 0) [.own 7] false) (.cons (.isi (.var 0) [.own 8] false) (.cons (.isi (.var 0) [.own 9] false) .nil))))))
    (.cons (.asg 1 (.bin .Add (.var 1) (.lst (.cons (.isi (.var 0) [.own 10] false) (.cons (.isi (.var 0) [.own 11] false) (.cons (.isi (.var 0) [.own 12] false) .nil))))))
    (.cons (.asg 1 (.bin .Add (.var 1) (.lst (.cons (.isi (.var 0) [.own 13] false) (.cons (.isi (.var 0) [.own 14] false) (.cons (.isi (.var 0) [.own 15] false) .nil))))))
    (.cons (.ret (.bin .Add (.var 1) (.lst (.cons (.isi (.var 0) [.own 16] false) (.cons (.isi (.var 0) [.own 17] false) (.cons (.isi (.var 0) [.own 18] false) .nil))))))
    .nil))))))
theorem pb_law_sorts : PB d_law_sorts ["_law_caught"] := fun _ _ _ _ _ _ us hl => match us, hl with
  | [_], _ => rfl
def st_law_right : Stmt := top 29
def d_law_right : He.DefD := ⟨("_law_right", none), "_law_right", "_law_right", defArgs st_law_right, defBody st_law_right, defScope st_law_right, [], []⟩
def b_law_right : Ss :=
    (.cons (.unp [1, 2] (.call 6 (.cons (.var 0) (.cons (.int 2) .nil))))
    (.cons (.asg 3 (.call 3 (.cons (.var 0) (.cons (.lst (.cons (.int 0) (.cons (.neg (.int 1)) (.cons (.str "") (.cons (.str "A b") (.cons .non (.cons (.bl true) (.cons (.bin .Pow (.int 10) (.int 30)) .nil)))))))) .nil))))
    (.cons (.asg 4 (.call 1 (.cons (.var 0) (.cons (.bin .Pow (.int 10) (.int 9)) .nil))))
    (.cons (.par [5, 6, 7] (.cons (.mk 5 (.cons (.var 1) (.cons (.var 4) .nil))) (.cons (.mk 10 (.cons (.var 4) .nil)) (.cons (.mk 8 (.cons (.var 1) (.cons (.var 2) (.cons (.str "cost") .nil)))) .nil))))
    (.cons (.par [8, 9, 10] (.cons (.mk 3 (.cons (.var 3) (.cons (.var 2) .nil))) (.cons (.mk 12 (.cons (.tup (.cons (.var 1) (.cons (.var 2) .nil))) .nil)) (.cons (.mk 9 (.cons (.var 1) (.cons (.var 2) .nil))) .nil))))
    (.cons (.asg 11 (.lst (.cons (.mk 1 (.cons (.var 3) .nil)) (.cons (.mk 2 (.cons (.var 3) .nil)) (.cons (.var 8) (.cons (.mk 4 (.cons (.var 1) .nil)) (.cons (.var 5) (.cons (.mk 6 .nil) (.cons (.mk 7 (.cons (.var 1) .nil)) (.cons (.var 7) (.cons (.var 10) (.cons (.var 6) .nil))))))))))))
    (.cons (.asg 11 (.bin .Add (.var 11) (.lst (.cons (.mk 11 (.cons (.var 2) .nil)) (.cons (.var 9) (.cons (.mk 13 .nil) (.cons (.mk 14 .nil) (.cons (.mk 15 .nil) (.cons (.mk 16 .nil) (.cons (.mk 17 (.cons (.var 4) .nil)) (.cons (.mk 18 .nil) .nil)))))))))))
    (.cons (.for (.tp [12, 13]) (.enum (.var 11)) (.cons (.ife (.not (.call 5 (.cons (.call 7 (.cons (.var 13) .nil)) (.cons (.lc (.cmp .Eq (.var 14) (.var 12)) (.nm 14) (.rng (.int 18))) .nil)))) (.cons (.ret (.bl false))
    .nil) .nil)
    (.cons (.ife (.or (.not (.isi (.var 13) [.own 0] false)) (.not (.isi (.var 13) [.ty "ValueError"] false))) (.cons (.ret (.bl false))
    .nil) .nil)
    .nil)))
    (.cons (.asg 15 (.lst (.cons (.fld (.mk 1 (.cons (.var 3) .nil)) "value") (.cons (.fld (.mk 2 (.cons (.var 3) .nil)) "kind") (.cons (.fld (.var 8) "kind") (.cons (.fld (.var 8) "outcome") (.cons (.fld (.mk 4 (.cons (.var 2) .nil)) "kind") (.cons (.fld (.var 5) "kind") .nil))))))))
    (.cons (.asg 15 (.bin .Add (.var 15) (.lst (.cons (.fld (.var 5) "lacking") .nil))))
    (.cons (.asg 16 (.lst (.cons (.var 3) (.cons (.var 3) (.cons (.var 3) (.cons (.var 2) (.cons (.var 2) (.cons (.var 1) (.cons (.var 4) .nil)))))))))
    (.cons (.asg 15 (.bin .Add (.var 15) (.lst (.cons (.fld (.mk 7 (.cons (.var 2) .nil)) "kind") (.cons (.fld (.var 7) "kind") (.cons (.fld (.var 7) "outcome") (.cons (.fld (.var 7) "word") (.cons (.fld (.var 10) "kind") (.cons (.fld (.var 10) "outcome") .nil)))))))))
    (.cons (.asg 16 (.bin .Add (.var 16) (.lst (.cons (.var 2) (.cons (.var 1) (.cons (.var 2) (.cons (.str "cost") (.cons (.var 1) (.cons (.var 2) .nil)))))))))
    (.cons (.asg 15 (.bin .Add (.var 15) (.lst (.cons (.fld (.var 6) "place") (.cons (.fld (.mk 11 (.cons (.var 1) .nil)) "kind") (.cons (.fld (.var 9) "stray") (.cons (.fld (.mk 17 (.cons (.var 4) .nil)) "number") .nil)))))))
    (.cons (.asg 15 (.bin .Add (.var 15) (.lst (.cons (.fld (.mkK 1 (.cons (.var 3) .nil)) "value") (.cons (.fld (.mkK 2 (.cons (.var 3) .nil)) "kind") (.cons (.fld (.mkK 3 (.cons (.var 1) (.cons (.var 2) .nil))) "outcome") .nil))))))
    (.cons (.asg 15 (.bin .Add (.var 15) (.lst (.cons (.fld (.mkK 4 (.cons (.var 1) .nil)) "kind") .nil))))
    (.cons (.asg 16 (.bin .Add (.var 16) (.lst (.cons (.var 4) (.cons (.var 1) (.cons (.tup (.cons (.var 1) (.cons (.var 2) .nil))) (.cons (.var 4) (.cons (.var 3) (.cons (.var 3) (.cons (.var 2) (.cons (.var 1) .nil)))))))))))
    (.cons (.asg 15 (.bin .Add (.var 15) (.lst (.cons (.fld (.mkK 5 (.cons (.var 1) (.cons (.var 4) .nil))) "lacking") (.cons (.fld (.mkK 7 (.cons (.var 2) .nil)) "kind") (.cons (.fld (.mkK 8 (.cons (.var 1) (.cons (.var 2) (.cons (.str "any") .nil)))) "word") .nil))))))
    (.cons (.asg 15 (.bin .Add (.var 15) (.lst (.cons (.fld (.mkK 9 (.cons (.var 1) (.cons (.var 2) .nil))) "kind") (.cons (.fld (.mkK 10 (.cons (.var 4) .nil)) "place") (.cons (.fld (.mkK 11 (.cons (.var 1) .nil)) "kind") .nil))))))
    (.cons (.asg 15 (.bin .Add (.var 15) (.lst (.cons (.fld (.mkK 12 (.cons (.tup (.cons (.var 2) .nil)) .nil)) "stray") .nil))))
    (.cons (.ret (.call 5 (.cons (.bin .Add (.var 15) (.lst (.cons (.fld (.mkK 17 (.cons (.var 4) .nil)) "number") .nil))) (.cons (.bin .Add (.var 16) (.lst (.cons (.var 4) (.cons (.var 2) (.cons (.str "any") (.cons (.var 1) (.cons (.var 4) (.cons (.var 1) (.cons (.tup (.cons (.var 2) .nil)) (.cons (.var 4) .nil)))))))))) .nil))))
    .nil)))))))))))))))))))))
theorem pb_law_right : PB d_law_right ["_law_box_here"] := fun _ _ _ _ _ _ us hl => match us, hl with
  | [_], _ => rfl
def st_law : Stmt := top 30
def d_law : He.DefD := ⟨("law", none), "law", "law", defArgs st_law, defBody st_law, defScope st_law, [], []⟩
def b_law : Ss :=
    (.cons (.asg 1 (.call 2 (.cons (.var 0) (.cons (.int 3) .nil))))
    (.cons (.ret (.bi .all (.cons (.lc (.call 8 (.cons (.call 0 (.cons (.var 1) (.cons (.var 2) .nil))) .nil)) (.nm 2) (.rng (.bi .len (.cons (.var 1) .nil)))) .nil)))
    .nil))
theorem pb_law : PB d_law ["_law_script"] := fun _ _ _ _ _ _ us hl => match us, hl with
  | [_], _ => rfl
def st_iNoName : Stmt := inCls (top 2) 0
def d_iNoName : He.DefD := ⟨("NoName", some "__init__"), "__init__", "NoName.__init__", defArgs st_iNoName, defBody st_iNoName, defScope st_iNoName, [], []⟩
def b_iNoName : Ss :=
    (.cons (.fst (.var 0) "value" (.var 1))
    .nil)
theorem pb_iNoName : PB d_iNoName ["self", "value"] := fun _ _ _ _ _ _ us hl => match us, hl with
  | [_, _], _ => rfl
theorem pk_iNoName : PKw d_iNoName ["self", "value"] ["value"] := fun _ _ _ _ _ _ _ us hl => match us, hl with
  | [_], _ => rfl
def st_iNoKind : Stmt := inCls (top 3) 0
def d_iNoKind : He.DefD := ⟨("NoKind", some "__init__"), "__init__", "NoKind.__init__", defArgs st_iNoKind, defBody st_iNoKind, defScope st_iNoKind, [], []⟩
def b_iNoKind : Ss :=
    (.cons (.fst (.var 0) "kind" (.var 1))
    .nil)
theorem pb_iNoKind : PB d_iNoKind ["self", "kind"] := fun _ _ _ _ _ _ us hl => match us, hl with
  | [_, _], _ => rfl
theorem pk_iNoKind : PKw d_iNoKind ["self", "kind"] ["kind"] := fun _ _ _ _ _ _ _ us hl => match us, hl with
  | [_], _ => rfl
def st_iNoOutcome : Stmt := inCls (top 4) 0
def d_iNoOutcome : He.DefD := ⟨("NoOutcome", some "__init__"), "__init__", "NoOutcome.__init__", defArgs st_iNoOutcome, defBody st_iNoOutcome, defScope st_iNoOutcome, [], []⟩
def b_iNoOutcome : Ss :=
    (.cons (.fst (.var 0) "kind" (.var 1))
    (.cons (.fst (.var 0) "outcome" (.var 2))
    .nil))
theorem pb_iNoOutcome : PB d_iNoOutcome ["self", "kind", "outcome"] := fun _ _ _ _ _ _ us hl => match us, hl with
  | [_, _, _], _ => rfl
theorem pk_iNoOutcome : PKw d_iNoOutcome ["self", "kind", "outcome"] ["kind", "outcome"] := fun _ _ _ _ _ _ _ us hl => match us, hl with
  | [_, _], _ => rfl
def st_iNoAny : Stmt := inCls (top 5) 0
def d_iNoAny : He.DefD := ⟨("NoAny", some "__init__"), "__init__", "NoAny.__init__", defArgs st_iNoAny, defBody st_iNoAny, defScope st_iNoAny, [], []⟩
def b_iNoAny : Ss :=
    (.cons (.fst (.var 0) "kind" (.var 1))
    .nil)
theorem pb_iNoAny : PB d_iNoAny ["self", "kind"] := fun _ _ _ _ _ _ us hl => match us, hl with
  | [_, _], _ => rfl
theorem pk_iNoAny : PKw d_iNoAny ["self", "kind"] ["kind"] := fun _ _ _ _ _ _ _ us hl => match us, hl with
  | [_], _ => rfl
def st_iShort : Stmt := inCls (top 6) 0
def d_iShort : He.DefD := ⟨("Short", some "__init__"), "__init__", "Short.__init__", defArgs st_iShort, defBody st_iShort, defScope st_iShort, [], []⟩
def b_iShort : Ss :=
    (.cons (.fst (.var 0) "kind" (.var 1))
    (.cons (.fst (.var 0) "lacking" (.var 2))
    .nil))
theorem pb_iShort : PB d_iShort ["self", "kind", "lacking"] := fun _ _ _ _ _ _ us hl => match us, hl with
  | [_, _, _], _ => rfl
theorem pk_iShort : PKw d_iShort ["self", "kind", "lacking"] ["kind", "lacking"] := fun _ _ _ _ _ _ _ us hl => match us, hl with
  | [_, _], _ => rfl
def st_iUnending : Stmt := inCls (top 8) 0
def d_iUnending : He.DefD := ⟨("Unending", some "__init__"), "__init__", "Unending.__init__", defArgs st_iUnending, defBody st_iUnending, defScope st_iUnending, [], []⟩
def b_iUnending : Ss :=
    (.cons (.fst (.var 0) "kind" (.var 1))
    .nil)
theorem pb_iUnending : PB d_iUnending ["self", "kind"] := fun _ _ _ _ _ _ us hl => match us, hl with
  | [_, _], _ => rfl
theorem pk_iUnending : PKw d_iUnending ["self", "kind"] ["kind"] := fun _ _ _ _ _ _ _ us hl => match us, hl with
  | [_], _ => rfl
def st_iHeavy : Stmt := inCls (top 9) 0
def d_iHeavy : He.DefD := ⟨("Heavy", some "__init__"), "__init__", "Heavy.__init__", defArgs st_iHeavy, defBody st_iHeavy, defScope st_iHeavy, [], []⟩
def b_iHeavy : Ss :=
    (.cons (.fst (.var 0) "kind" (.var 1))
    (.cons (.fst (.var 0) "outcome" (.var 2))
    (.cons (.fst (.var 0) "word" (.var 3))
    .nil)))
theorem pb_iHeavy : PB d_iHeavy ["self", "kind", "outcome", "word"] := fun _ _ _ _ _ _ us hl => match us, hl with
  | [_, _, _, _], _ => rfl
theorem pk_iHeavy : PKw d_iHeavy ["self", "kind", "outcome", "word"] ["kind", "outcome", "word"] := fun _ _ _ _ _ _ _ us hl => match us, hl with
  | [_, _, _], _ => rfl
def st_iUnlike : Stmt := inCls (top 10) 0
def d_iUnlike : He.DefD := ⟨("Unlike", some "__init__"), "__init__", "Unlike.__init__", defArgs st_iUnlike, defBody st_iUnlike, defScope st_iUnlike, [], []⟩
def b_iUnlike : Ss :=
    (.cons (.fst (.var 0) "kind" (.var 1))
    (.cons (.fst (.var 0) "outcome" (.var 2))
    .nil))
theorem pb_iUnlike : PB d_iUnlike ["self", "kind", "outcome"] := fun _ _ _ _ _ _ us hl => match us, hl with
  | [_, _, _], _ => rfl
theorem pk_iUnlike : PKw d_iUnlike ["self", "kind", "outcome"] ["kind", "outcome"] := fun _ _ _ _ _ _ _ us hl => match us, hl with
  | [_, _], _ => rfl
def st_iNotAlive : Stmt := inCls (top 11) 0
def d_iNotAlive : He.DefD := ⟨("NotAlive", some "__init__"), "__init__", "NotAlive.__init__", defArgs st_iNotAlive, defBody st_iNotAlive, defScope st_iNotAlive, [], []⟩
def b_iNotAlive : Ss :=
    (.cons (.fst (.var 0) "place" (.var 1))
    .nil)
theorem pb_iNotAlive : PB d_iNotAlive ["self", "place"] := fun _ _ _ _ _ _ us hl => match us, hl with
  | [_, _], _ => rfl
theorem pk_iNotAlive : PKw d_iNotAlive ["self", "place"] ["place"] := fun _ _ _ _ _ _ _ us hl => match us, hl with
  | [_], _ => rfl
def st_iOpen : Stmt := inCls (top 12) 0
def d_iOpen : He.DefD := ⟨("Open", some "__init__"), "__init__", "Open.__init__", defArgs st_iOpen, defBody st_iOpen, defScope st_iOpen, [], []⟩
def b_iOpen : Ss :=
    (.cons (.fst (.var 0) "kind" (.var 1))
    .nil)
theorem pb_iOpen : PB d_iOpen ["self", "kind"] := fun _ _ _ _ _ _ us hl => match us, hl with
  | [_, _], _ => rfl
theorem pk_iOpen : PKw d_iOpen ["self", "kind"] ["kind"] := fun _ _ _ _ _ _ _ us hl => match us, hl with
  | [_], _ => rfl
def st_iNoRun : Stmt := inCls (top 13) 0
def d_iNoRun : He.DefD := ⟨("NoRun", some "__init__"), "__init__", "NoRun.__init__", defArgs st_iNoRun, defBody st_iNoRun, defScope st_iNoRun, [], []⟩
def b_iNoRun : Ss :=
    (.cons (.fst (.var 0) "stray" (.ite (.isi (.var 1) [.ty "list"] false) (.bi .tuple (.cons (.var 1) .nil)) (.var 1)))
    .nil)
theorem pb_iNoRun : PB d_iNoRun ["self", "stray"] := fun _ _ _ _ _ _ us hl => match us, hl with
  | [_, _], _ => rfl
theorem pk_iNoRun : PKw d_iNoRun ["self", "stray"] ["stray"] := fun _ _ _ _ _ _ _ us hl => match us, hl with
  | [_], _ => rfl
def st_iBadLine : Stmt := inCls (top 18) 0
def d_iBadLine : He.DefD := ⟨("BadLine", some "__init__"), "__init__", "BadLine.__init__", defArgs st_iBadLine, defBody st_iBadLine, defScope st_iBadLine, [], []⟩
def b_iBadLine : Ss :=
    (.cons (.fst (.var 0) "number" (.var 1))
    .nil)
theorem pb_iBadLine : PB d_iBadLine ["self", "number"] := fun _ _ _ _ _ _ us hl => match us, hl with
  | [_, _], _ => rfl
theorem pk_iBadLine : PKw d_iBadLine ["self", "number"] ["number"] := fun _ _ _ _ _ _ _ us hl => match us, hl with
  | [_], _ => rfl
def anc : List (List Nat) := [[0], [1, 0], [2, 0], [3, 0], [4, 0], [5, 0], [6, 0], [7, 0], [8, 0], [9, 0], [10, 0], [11, 0], [12, 0], [13, 0], [14, 0], [15, 0], [16, 0], [17, 0], [18, 0]]
def inis : List (Option Nat) := [none, some 10, some 11, some 12, some 13, some 14, none, some 15, some 16, some 17, some 18, some 19, some 20, none, none, none, none, some 21, none]
def P : Pg := ⟨[⟨3, 2, b_law_box⟩, ⟨6, 2, b_law_take⟩, ⟨6, 2, b_law_cells⟩, ⟨2, 2, b_law_of⟩, ⟨6, 3, b_law_pick⟩, ⟨4, 2, b_law_same⟩, ⟨10, 2, b_law_names⟩, ⟨2, 1, b_law_sorts⟩, ⟨17, 1, b_law_right⟩, ⟨3, 1, b_law⟩, ⟨2, 2, b_iNoName⟩, ⟨2, 2, b_iNoKind⟩, ⟨3, 3, b_iNoOutcome⟩, ⟨2, 2, b_iNoAny⟩, ⟨3, 3, b_iShort⟩, ⟨2, 2, b_iUnending⟩, ⟨4, 4, b_iHeavy⟩, ⟨3, 3, b_iUnlike⟩, ⟨2, 2, b_iNotAlive⟩, ⟨2, 2, b_iOpen⟩, ⟨2, 2, b_iNoRun⟩, ⟨2, 2, b_iBadLine⟩], nth inis, subOf anc, subTOf 19, subBOf 19, 2000⟩
def T : Tb := ⟨P, ["LateError", "NoName", "NoKind", "NoOutcome", "NoAny", "Short", "BelowZero", "Unending", "Heavy", "Unlike", "NotAlive", "Open", "NoRun", "NotEnough", "NotBelow", "NotDown", "Beaten", "BadLine", "NothingDone"], [some "_law_box", some "_law_take", some "_law_cells", some "_law_of", some "_law_pick", some "_law_same", some "_law_names", some "_law_sorts", some "_law_right", some "law"], ["number", "stray", "kind", "place", "word", "lacking", "outcome", "value"],
  [none, some ["value"], some ["kind"], some ["kind", "outcome"], some ["kind"], some ["kind", "lacking"], none, some ["kind"], some ["kind", "outcome", "word"], some ["kind", "outcome"], some ["place"], some ["kind"], some ["stray"], none, none, none, none, some ["number"], none],
  [(d_law_box, ["_law_script", "_law_k", "_law_cell"], ["_law_script", "_law_k"]), (d_law_take, ["_law_box_here", "_law_size_so", "_law_some", "_law_once", "_law_far", "_law_again"], ["_law_box_here", "_law_size_so"]), (d_law_cells, ["_law_script", "_law_top_so", "_law_cells_so", "_law_k", "_law_cell", "_law_at_so"], ["_law_script", "_law_top_so"]), (d_law_of, ["_law_box_here", "_law_goods_so"], ["_law_box_here", "_law_goods_so"]), (d_law_pick, ["_law_box_here", "_law_goods_so", "_law_count_so", "_law_rest", "_law_found", "_law_turn"], ["_law_box_here", "_law_goods_so", "_law_count_so"]), (d_law_same, ["_law_got", "_law_due", "_law_mine", "_law_its"], ["_law_got", "_law_due"]), (d_law_names, ["_law_box_here", "_law_much_so", "_law_letters_so", "_law_long", "_law_base", "_law_turn", "_law_sort_so", "_law_spot_so", "_law_found", "_law_sign"], ["_law_box_here", "_law_much_so"]), (d_law_sorts, ["_law_caught", "_law_some"], ["_law_caught"]), (d_law_right, ["_law_box_here", "_law_a", "_law_b", "_law_odd", "_law_far", "_law_short", "_law_late_so", "_law_heavy_so", "_law_none_so", "_law_wide", "_law_apart", "_law_some", "_law_k", "_law_own", "_law_j", "_law_got", "_law_due"], ["_law_box_here"]), (d_law, ["_law_script", "_law_cells_here", "_law_k"], ["_law_script"]), (d_iNoName, ["self", "value"], ["self", "value"]), (d_iNoKind, ["self", "kind"], ["self", "kind"]), (d_iNoOutcome, ["self", "kind", "outcome"], ["self", "kind", "outcome"]), (d_iNoAny, ["self", "kind"], ["self", "kind"]), (d_iShort, ["self", "kind", "lacking"], ["self", "kind", "lacking"]), (d_iUnending, ["self", "kind"], ["self", "kind"]), (d_iHeavy, ["self", "kind", "outcome", "word"], ["self", "kind", "outcome", "word"]), (d_iUnlike, ["self", "kind", "outcome"], ["self", "kind", "outcome"]), (d_iNotAlive, ["self", "place"], ["self", "place"]), (d_iOpen, ["self", "kind"], ["self", "kind"]), (d_iNoRun, ["self", "stray"], ["self", "stray"]), (d_iBadLine, ["self", "number"], ["self", "number"])]⟩
theorem st_ok : T.st = true := by decide +kernel
theorem good : GoodT T where
  st := st_ok
  pb := fun f d N ps e => by
    match f, e with
    | 0, e => cases e; exact pb_law_box
    | 1, e => cases e; exact pb_law_take
    | 2, e => cases e; exact pb_law_cells
    | 3, e => cases e; exact pb_law_of
    | 4, e => cases e; exact pb_law_pick
    | 5, e => cases e; exact pb_law_same
    | 6, e => cases e; exact pb_law_names
    | 7, e => cases e; exact pb_law_sorts
    | 8, e => cases e; exact pb_law_right
    | 9, e => cases e; exact pb_law
    | 10, e => cases e; exact pb_iNoName
    | 11, e => cases e; exact pb_iNoKind
    | 12, e => cases e; exact pb_iNoOutcome
    | 13, e => cases e; exact pb_iNoAny
    | 14, e => cases e; exact pb_iShort
    | 15, e => cases e; exact pb_iUnending
    | 16, e => cases e; exact pb_iHeavy
    | 17, e => cases e; exact pb_iUnlike
    | 18, e => cases e; exact pb_iNotAlive
    | 19, e => cases e; exact pb_iOpen
    | 20, e => cases e; exact pb_iNoRun
    | 21, e => cases e; exact pb_iBadLine
    | f + 22, e => cases e
  pk := fun c f d N ps ks hi e hk => by
    match c, hi, hk with
    | 0, hi, _ => cases hi
    | 1, hi, hk => cases hi; cases e; cases hk; exact pk_iNoName
    | 2, hi, hk => cases hi; cases e; cases hk; exact pk_iNoKind
    | 3, hi, hk => cases hi; cases e; cases hk; exact pk_iNoOutcome
    | 4, hi, hk => cases hi; cases e; cases hk; exact pk_iNoAny
    | 5, hi, hk => cases hi; cases e; cases hk; exact pk_iShort
    | 6, hi, _ => cases hi
    | 7, hi, hk => cases hi; cases e; cases hk; exact pk_iUnending
    | 8, hi, hk => cases hi; cases e; cases hk; exact pk_iHeavy
    | 9, hi, hk => cases hi; cases e; cases hk; exact pk_iUnlike
    | 10, hi, hk => cases hi; cases e; cases hk; exact pk_iNotAlive
    | 11, hi, hk => cases hi; cases e; cases hk; exact pk_iOpen
    | 12, hi, hk => cases hi; cases e; cases hk; exact pk_iNoRun
    | 13, hi, _ => cases hi
    | 14, hi, _ => cases hi
    | 15, hi, _ => cases hi
    | 16, hi, _ => cases hi
    | 17, hi, hk => cases hi; cases e; cases hk; exact pk_iBadLine
    | 18, hi, _ => cases hi
    | c + 19, hi, _ => cases hi
  sub := fun c d b h => subOf_lt h
  subT := fun c n b h => subTOf_in h
  subB := fun n d b h => subBOf_in h
end VI.k00


set_option Elab.async false
set_option linter.all false
set_option maxRecDepth 100000
set_option maxHeartbeats 0
namespace VI.k00
open PySem PySem.Spec PyProof.Rows L2
abbrev R : PySem.W.OpenRow := PySem.W.OpenLaw.row PySem.Challenge.rw_toldlate_k00_errors
def fn : List He.DefD := T.ds.map (·.1)
abbrev hk : PySem.W.Hook := He.hookX 6 [] fn [] [] T.ex
def ob (s : PySem.W.SharedT) : He.AlX := He.obsX 6 [] fn [] [] T.ex (HandSHeadRun.getT s)
theorem ob_eq (s : PySem.W.SharedT) : ob s = hk.obs s.abs := He.obsX_eq (HandSHeadRun.getT_eq s)
def loose : List Str := ["LateError", "NoName", "NoKind", "NoOutcome", "NoAny", "Short", "BelowZero", "Unending", "Heavy", "Unlike", "NotAlive", "Open", "NoRun", "NotEnough", "NotBelow", "NotDown", "Beaten", "BadLine", "NothingDone", "_law_box", "_law_take", "_law_cells", "_law_of", "_law_pick", "_law_same", "_law_names", "_law_sorts", "_law_right"]
theorem run (w : World) : HandSHeadRun.RunEq R (PySem.W.view R.prog [30]) hk ob 12000 loose w := by
  intro os
  kernel_rfl
end VI.k00


set_option Elab.async false
set_option linter.all false
set_option maxRecDepth 100000
set_option maxHeartbeats 4000000
namespace VI.k00
open PySem PySem.Spec PyProof.Rows L2
theorem sub_flat : ∀ c, c < 19 → ∀ d, d < 19 → 1 ≤ c → 1 ≤ d → subOf anc c d = some (c == d) := by decide +kernel
theorem sub_base : ∀ c, c < 19 → subOf anc c 0 = some true := by decide +kernel
theorem sub_ve : ∀ c, c < 19 → subTOf 19 c "ValueError" = some true := by decide +kernel
theorem is_d {k c d : Nat} {v : MV} {m : M} {s : SL} {Q : MV → M → Prop} (h : s[0]? = some (some v)) (hE : IsE m v c) (h1 : 1 ≤ c) (h2 : c < 19) (d1 : 1 ≤ d) (d2 : d < 19) (q : Q (.bl (c == d)) m) :
    WP (evE (P.cfg (callF P k)) (.isi (.var 0) [.own d] false) s m) Q := W_isO (W_var h ⟨c, _, hE.ty, sub_flat c h2 d d2 h1 d1, q⟩)
theorem add3 {k c d p : Nat} {v : MV} {m : M} {xs : List MV} {Q : MV → M → Prop} (hE : IsE m v c) (h1 : 1 ≤ c) (h2 : c < 19) (d1 : 1 ≤ d) (d2 : d + 2 < 19) (hp : m[p]? = some (.lst xs)) (hl : xs.length ≤ 100)
    (q : ∀ u m', m'[u]? = some (.lst (xs ++ [.bl (c == d), .bl (c == d + 1), .bl (c == d + 2)])) → Gr [] m m' → Q (.ref u) m') :
    WP (evE (P.cfg (callF P k)) (.bin .Add (.var 1) (.lst (.cons (.isi (.var 0) [.own d] false) (.cons (.isi (.var 0) [.own (d + 1)] false) (.cons (.isi (.var 0) [.own (d + 2)] false) .nil))))) [some v, some (.ref p)] m) Q := by
  refine W_bin (W_var rfl (W_lst (W_cons (is_d rfl hE h1 h2 d1 (by omega) (W_cons (is_d rfl hE h1 h2 (by omega) (by omega) (W_cons (is_d rfl hE h1 h2 (by omega) (by omega) (W_nil ?_)))))))))
  refine ⟨by show 3 ≤ big; decide, ?_⟩
  refine V_cat (Gr.app (S := []) |>.2 _ _ (by simp) hp) get_new (by unfold big; simp; omega) ?_
  exact q _ _ get_new (Gr.app.trans .app)
theorem sorts_ok {k c : Nat} {v : MV} {m : M} (hE : IsE m v c) (h1 : 1 ≤ c) (h2 : c < 19) : WP (callF P (k + 1) 7 [v] m) fun r m' => ∃ p, r = .ref p ∧ m'[p]? = some (.lst ((List.range 18).map fun j => .bl (c == j + 1))) ∧ Gr [] m m' := by
  refine WP_call (d := ⟨2, 1, b_law_sorts⟩) rfl rfl ?_
  unfold b_law_sorts
  show WS (evSs (P.cfg (callF P k)) _ [some v, none] m) _ _
  refine WS_cons (S_asg (W_lst (W_cons (is_d rfl hE h1 h2 (by omega) (by omega) (W_cons (is_d rfl hE h1 h2 (by omega) (by omega) (W_cons (is_d rfl hE h1 h2 (by omega) (by omega) (W_nil ?_)))))))))
  refine ⟨by show 3 ≤ big; decide, ?_⟩
  simp only [List.set]
  have e1 : (m ++ [MO.lst [.bl (c == 1), .bl (c == 2), .bl (c == 3)]])[m.length]? = some (.lst [.bl (c == 1), .bl (c == 2), .bl (c == 3)]) := get_new
  have g1 : Gr [] m (m ++ [MO.lst [.bl (c == 1), .bl (c == 2), .bl (c == 3)]]) := .app
  generalize m ++ [MO.lst [.bl (c == 1), .bl (c == 2), .bl (c == 3)]] = m1 at e1 g1
  refine WS_cons (S_asg (add3 (hE.gr g1) h1 h2 (by omega) (by omega) e1 (by show 3 ≤ 100; decide) fun p2 m2 e2 g2 => ?_))
  simp only [List.set]
  refine WS_cons (S_asg (add3 (hE.gr (g1.trans g2)) h1 h2 (by omega) (by omega) e2 (by show 6 ≤ 100; decide) fun p3 m3 e3 g3 => ?_))
  simp only [List.set]
  refine WS_cons (S_asg (add3 (hE.gr ((g1.trans g2).trans g3)) h1 h2 (by omega) (by omega) e3 (by show 9 ≤ 100; decide) fun p4 m4 e4 g4 => ?_))
  simp only [List.set]
  refine WS_cons (S_asg (add3 (hE.gr (((g1.trans g2).trans g3).trans g4)) h1 h2 (by omega) (by omega) e4 (by show 12 ≤ 100; decide) fun p5 m5 e5 g5 => ?_))
  simp only [List.set]
  refine WS_cons (S_ret (add3 (hE.gr ((((g1.trans g2).trans g3).trans g4).trans g5)) h1 h2 (by omega) (by omega) e5 (by show 15 ≤ 100; decide) fun p6 m6 e6 g6 => ?_))
  exact ⟨p6, rfl, e6, ((((g1.trans g2).trans g3).trans g4).trans g5).trans g6⟩
/-- the eighteen, one by one -/
theorem turn_ok {k i : Nat} {x : MV} {m : M} {s0 s1 s2 s3 s4 s5 s6 s7 s8 s9 s10 s11 s14 s15 s16 : Option MV} {R : MV → M → Prop} (hi : i < 18) (hE : IsE m x (i + 1)) :
    WS (evSs (P.cfg (callF P (k + 3))) (.cons (.ife (.not (.call 5 (.cons (.call 7 (.cons (.var 13) .nil)) (.cons (.lc (.cmp .Eq (.var 14) (.var 12)) (.nm 14) (.rng (.int 18))) .nil)))) (.cons (.ret (.bl false)) .nil) .nil)
    (.cons (.ife (.or (.not (.isi (.var 13) [.own 0] false)) (.not (.isi (.var 13) [.ty "ValueError"] false))) (.cons (.ret (.bl false)) .nil) .nil)
    .nil)) [s0, s1, s2, s3, s4, s5, s6, s7, s8, s9, s10, s11, some (.int i), some x, s14, s15, s16] m)
    (fun s' m' => s' = [s0, s1, s2, s3, s4, s5, s6, s7, s8, s9, s10, s11, some (.int i), some x, s14, s15, s16] ∧ Gr [] m m') R := by
  refine WS_cons (S_ife (W_not (W_call (W_cons (W_call (W_cons (W_var rfl (W_nil ?_))))))))
  refine (sorts_ok (k := k + 2) hE (by omega) (by omega)).imp fun v m1 ⟨p, e, h1, g1⟩ => ?_
  subst e
  refine W_cons ?_
  with_reducible refine W_lc ?_
  with_reducible refine I_rng ?_
  refine W_int ⟨_, rfl, by decide, ?_⟩
  show WP (lcGo _ (.rng 18) _ _ _ _) _
  refine lc_go (n := 18) (I := fun j acc m' => acc = (List.range j).map (fun q : Nat => MV.bl (decide (MV.int (q : Int) = MV.int i))) ∧ Gr [m1.length] m1 m') (by decide) ?_ ?_ _ 0 [] _ (by omega) (by show 18 < 2000 + 0; decide) rfl get_new ⟨rfl, .app⟩
  · rintro j acc m3 hj hal hD ⟨ea, g⟩
    refine ⟨_, _, at_rng hj, ?_⟩
    simp only [Tg.put, Tg.own, wipeM, List.set]
    walk_at "vj"
    refine C_eq (by rfl) ⟨hD, ?_, g.trans (.set (by simp))⟩
    rw [ea, List.range_succ, List.map_append]
    rfl
  · rintro acc m3 hal hD ⟨ea, g⟩
    refine ⟨at_rng0, ?_⟩
    have g0 : Gr [] m1 m3 := g.fresh (Nat.le_refl _)
    refine W_nil ?_
    have sm : Sm m3 1 (.ref p) (.ref m1.length) := .inr ⟨_, _, _, _, rfl, rfl, .inl ⟨g0.2 _ _ (by simp) h1, hD⟩, by show 18 < 1000; decide, by
      rw [ea]
      exact paired_map fun j hj => ⟨by
        congr 1
        rw [Bool.eq_iff_iff]
        simp
        omega, rfl⟩⟩
    refine (same_ok (P := P) (f := 5) rfl (by show 1000 < 2000; decide) 1 (k + 1) sm).imp fun v m4 ⟨e, g4⟩ => ?_
    subst e
    refine ⟨true, rfl, Tr_f ?_⟩
    have gA : Gr [] m m4 := (g1.trans g0).trans g4
    refine WS_nil.mpr ?_
    refine WS_cons (S_ife (W_or (W_not (W_isO (W_var rfl ⟨_, _, (hE.gr gA).ty, sub_base _ (by omega), true, rfl, Tr_f (W_not ?_)⟩)))))
    refine W_isi (W_var rfl ⟨.inr (i + 1), true, (hE.gr gA).ty, ?_, rfl, true, rfl, Tr_f (WS_nil.mpr (WS_nil.mpr ⟨rfl, gA⟩))⟩)
    have e2 : (P.cfg (callF P (k + 3))).subT (i + 1) "ValueError" = some true := sub_ve _ (by omega)
    simp only [List.map, tySub, e2]
    rfl
end VI.k00


set_option Elab.async false
set_option linter.all false
set_option maxRecDepth 100000
set_option maxHeartbeats 8000000
namespace VI.k00
open PySem PySem.Spec PyProof.Rows L2
theorem first_of {m : M} {t1 t2 t3 t4 o x y : MV} (h1 : Sm m 1 t1 t2) (h2 : Sm m 1 t3 t4) (ho : isRef o = false) (h : (x = y ∧ isRef y = false) ∨ (x = o ∧ y = o) ∨ (x = t1 ∧ y = t2) ∨ (x = t3 ∧ y = t4)) : Sm m 1 x y := by
  rcases h with h | ⟨rfl, rfl⟩ | ⟨rfl, rfl⟩ | ⟨rfl, rfl⟩
  · exact .inl h
  · exact .inl ⟨rfl, ho⟩
  · exact h1
  · exact h2
theorem right_ok {k a c : Nat} {m : M} (hb : isBox m a c) (hc : c < 2 ^ 50) : WP (callF P (k + 4) 8 [.ref a] m) fun v m' => v = .bl true ∧ Gr [a] m m' := by
  have ha : a < m.length := by
    obtain ⟨_, _, _, e, _⟩ := hb
    exact lt_of e
  refine WP_call (k := k + 3) (d := ⟨17, 1, b_law_right⟩) rfl rfl ?_
  unfold b_law_right
  show WS (evSs (P.cfg (callF P (k + 3))) _ [some (.ref a), none, none, none, none, none, none, none, none, none, none, none, none, none, none, none, none] m) _ _
  walk_at "vj"
  refine (names_ok (P := P) (n := 2) (f := 6) (t := 1) (o := 3) (p := 4) (z := "abcdefghijklmnopqrstuvwxyz") rfl rfl rfl rfl hb (by omega) (by decide) (by decide) (by decide)).imp fun v m1 ⟨l, ys, e, h1, hl, hy, g1, hb1⟩ => ?_
  subst e
  obtain ⟨y0, y1, rfl⟩ : ∃ y0 y1, ys = [y0, y1] := by
    match ys, hl with
    | [y0, y1], _ => exact ⟨y0, y1, rfl⟩
  obtain ⟨za, rfl, _⟩ := hy _ (List.Mem.head _)
  obtain ⟨zb, rfl, _⟩ := hy _ (List.Mem.tail _ (List.Mem.head _))
  refine ⟨l, _, rfl, .inr h1, rfl, ?_⟩
  simp only [setAll, List.set]
  walk_at "vj"
  refine ⟨1, rfl, ?_⟩
  walk_at "vj"
  refine ⟨by show 7 ≤ big; decide, fun pg mG hG gG hge => ?_⟩
  walk_at "vj"
  have l1 : a < m1.length := Nat.lt_of_lt_of_le ha g1.1
  refine (of_ok (P := P) (f := 3) (t := 1) rfl rfl (gG.box (by simp) hb1) (by omega) (seq_lst hG) (by omega) (by show 0 < 7; decide) (by show 7 < 2 ^ 59; decide)).imp fun odd m2 ⟨ho, g2, hb2⟩ => ?_
  have oR : isRef odd = false := by
    simp only [List.mem_cons, List.not_mem_nil, or_false] at ho
    rcases ho with rfl | rfl | rfl | rfl | rfl | rfl | rfl <;> rfl
  simp only [List.set]
  walk_at "vj"
  have e9 : (10 : Int) ^ (9 : Int).toNat = ((1000000000 : Nat) : Int) := by decide
  rw [e9]
  refine (take_ok (P := P) (f := 1) rfl hb2 (by omega) (by decide) (by decide)).imp fun v m3 ⟨⟨r, _, e⟩, ob, em, _⟩ => ?_
  subst e
  have g3 : Gr [a] m2 m3 := em ▸ .set (by simp)
  have gBox : Gr [a] m m3 := ((g1.trans gG.up).trans g2).trans g3
  simp only [List.set]
  clear hb1 hb2 em ho hG gG g2 g3 g1 h1 hy
  walk_at "vj"
  refine (mk2_ok (P := P) (c := 5) (f := 14) (g := "kind") (h := "lacking") rfl rfl (by decide)).imp fun x5 m4 ⟨i5, k5, l5, g4⟩ => ?_
  walk_at "vj"
  refine (mk1_ok (P := P) (c := 10) (f := 18) (g := "place") rfl rfl).imp fun x6 m5 ⟨i6, p6, g5⟩ => ?_
  walk_at "vj"
  refine (mk3_ok (P := P) (c := 8) (f := 16) (g := "kind") (h := "outcome") (i := "word") rfl rfl (by decide) (by decide) (by decide)).imp fun x7 m6 ⟨i7, k7, o7, w7, g6⟩ => ?_
  walk_at "vj"
  refine ⟨rfl, ?_⟩
  simp only [setAll, List.set]
  walk_at "vj"
  refine (mk2_ok (P := P) (c := 3) (f := 12) (g := "kind") (h := "outcome") rfl rfl (by decide)).imp fun x8 m7 ⟨i8, k8, o8, g7⟩ => ?_
  walk_at "vj"
  refine ⟨by show 2 ≤ big; decide, fun t m8 ht g8 _ => ?_⟩
  walk_at "vj"
  refine (mkR_ok (P := P) (c := 12) (f := 20) (g := "stray") rfl rfl ht).imp fun x9 m9 ⟨i9, s9, g9⟩ => ?_
  walk_at "vj"
  refine (mk2_ok (P := P) (c := 9) (f := 17) (g := "kind") (h := "outcome") rfl rfl (by decide)).imp fun x10 m10 ⟨i10, k10, o10, g10⟩ => ?_
  walk_at "vj"
  refine ⟨rfl, ?_⟩
  simp only [setAll, List.set]
  walk_at "vj"
  refine (mk1_ok (P := P) (c := 1) (f := 10) (g := "value") rfl rfl).imp fun z1 n1 ⟨j1, _, f1⟩ => ?_
  walk_at "vj"
  refine (mk1_ok (P := P) (c := 2) (f := 11) (g := "kind") rfl rfl).imp fun z2 n2 ⟨j2, _, f2⟩ => ?_
  walk_at "vj"
  refine (mk1_ok (P := P) (c := 4) (f := 13) (g := "kind") rfl rfl).imp fun z4 n4 ⟨j4, _, f4⟩ => ?_
  walk_at "vj"
  refine (mk0_ok (P := P) (c := 6) rfl).imp fun z6 n6 ⟨j6, f6⟩ => ?_
  walk_at "vj"
  refine (mk1_ok (P := P) (c := 7) (f := 15) (g := "kind") rfl rfl).imp fun z7 n7 ⟨j7, _, f7⟩ => ?_
  walk_at "vj"
  refine ⟨by show 10 ≤ big; decide, fun pA mA hA gA _ => ?_⟩
  simp only [List.set]
  walk_at "vj"
  refine (mk1_ok (P := P) (c := 11) (f := 19) (g := "kind") rfl rfl).imp fun z11 n11 ⟨j11, _, f11⟩ => ?_
  walk_at "vj"
  refine (mk0_ok (P := P) (c := 13) rfl).imp fun z13 n13 ⟨j13, f13⟩ => ?_
  walk_at "vj"
  refine (mk0_ok (P := P) (c := 14) rfl).imp fun z14 n14 ⟨j14, f14⟩ => ?_
  walk_at "vj"
  refine (mk0_ok (P := P) (c := 15) rfl).imp fun z15 n15 ⟨j15, f15⟩ => ?_
  walk_at "vj"
  refine (mk0_ok (P := P) (c := 16) rfl).imp fun z16 n16 ⟨j16, f16⟩ => ?_
  walk_at "vj"
  refine (mk1_ok (P := P) (c := 17) (f := 21) (g := "number") rfl rfl).imp fun z17 n17 ⟨j17, _, f17⟩ => ?_
  walk_at "vj"
  refine (mk0_ok (P := P) (c := 18) rfl).imp fun z18 n18 ⟨j18, f18⟩ => ?_
  walk_at "vj"
  refine ⟨by show 8 ≤ big; decide, fun pB mB hB gB _ => ?_⟩
  refine V_catG (Gr.at_ (by walk_at "vgr") hA) hB (by show 18 ≤ big; decide) fun pS mS hS gS => ?_
  simp only [List.set, List.cons_append, List.nil_append] at hS ⊢
  refine WS_cons (S_for (I_enum ?_))
  walk_at "vj"
  refine ⟨pS, _, rfl, hS, ?_⟩
  have all18 : ∀ i, i < 18 → ∃ x, [z1, z2, x8, z4, x5, z6, z7, x7, x10, x6, z11, x9, z13, z14, z15, z16, z17, z18][i]? = some x ∧ IsE mS x (i + 1) := by
    intro i hi
    match i, hi with
    | 0, _ => exact ⟨_, rfl, IsE.gr (by walk_at "vgr") j1⟩
    | 1, _ => exact ⟨_, rfl, IsE.gr (by walk_at "vgr") j2⟩
    | 2, _ => exact ⟨_, rfl, IsE.gr (by walk_at "vgr") i8⟩
    | 3, _ => exact ⟨_, rfl, IsE.gr (by walk_at "vgr") j4⟩
    | 4, _ => exact ⟨_, rfl, IsE.gr (by walk_at "vgr") i5⟩
    | 5, _ => exact ⟨_, rfl, IsE.gr (by walk_at "vgr") j6⟩
    | 6, _ => exact ⟨_, rfl, IsE.gr (by walk_at "vgr") j7⟩
    | 7, _ => exact ⟨_, rfl, IsE.gr (by walk_at "vgr") i7⟩
    | 8, _ => exact ⟨_, rfl, IsE.gr (by walk_at "vgr") i10⟩
    | 9, _ => exact ⟨_, rfl, IsE.gr (by walk_at "vgr") i6⟩
    | 10, _ => exact ⟨_, rfl, IsE.gr (by walk_at "vgr") j11⟩
    | 11, _ => exact ⟨_, rfl, IsE.gr (by walk_at "vgr") i9⟩
    | 12, _ => exact ⟨_, rfl, IsE.gr (by walk_at "vgr") j13⟩
    | 13, _ => exact ⟨_, rfl, IsE.gr (by walk_at "vgr") j14⟩
    | 14, _ => exact ⟨_, rfl, IsE.gr (by walk_at "vgr") j15⟩
    | 15, _ => exact ⟨_, rfl, IsE.gr (by walk_at "vgr") j16⟩
    | 16, _ => exact ⟨_, rfl, IsE.gr (by walk_at "vgr") j17⟩
    | 17, _ => exact ⟨_, rfl, IsE.gr (by walk_at "vgr") j18⟩
    | n + 18, h => omega
  refine for_go (n := 18) (I := fun i s m' => (∃ x12 x13, s = [some (.ref a), some (.str za), some (.str zb), some odd, some (.int r), some x5, some x6, some x7, some x8, some x9, some x10, some (.ref pS), x12, x13, none, none, none]) ∧ Gr [] mS m') ?_ ?_ _ 0 _ mS (by omega) (by show 18 < 2000 + 0; decide) ⟨⟨_, _, rfl⟩, .refl⟩
  · rintro i s m' hi ⟨⟨x12, x13, rfl⟩, g⟩
    obtain ⟨x, hx, hE⟩ := all18 i hi
    refine ⟨_, _, at_enum (g.at_ hS) hx, ?_⟩
    rw [put_tp get_new rfl]
    simp only [setAll, List.set]
    refine WS.imp (turn_ok hi (hE.gr (g.trans .app))) ?_ (fun _ _ h => h)
    rintro s' m'' ⟨rfl, g'⟩
    exact ⟨⟨_, _, rfl⟩, (g.trans .app).trans g'⟩
  rintro s mL ⟨⟨x12, x13, rfl⟩, gL⟩
  refine ⟨at_enum0 (gL.at_ hS), ?_⟩
  clear all18 hS hA hB j1 j2 j4 j6 j7 j11 j13 j14 j15 j16 j17 j18 i5 i6 i7 i8 i9 i10
  walk_at "vj"
  refine (mk1_ok (P := P) (c := 1) (f := 10) (g := "value") rfl rfl).imp fun y100 r100 ⟨_, q100, e100⟩ => V_fld q100 ?_
  walk_at "vj"
  refine (mk1_ok (P := P) (c := 2) (f := 11) (g := "kind") rfl rfl).imp fun y101 r101 ⟨_, q101, e101⟩ => V_fld q101 ?_
  walk_at "vj"
  refine V_fld (Has.gr (by walk_at "vgr") k8) ?_
  walk_at "vj"
  refine V_fld (Has.gr (by walk_at "vgr") o8) ?_
  walk_at "vj"
  refine (mk1_ok (P := P) (c := 4) (f := 13) (g := "kind") rfl rfl).imp fun y102 r102 ⟨_, q102, e102⟩ => V_fld q102 ?_
  walk_at "vj"
  refine V_fld (Has.gr (by walk_at "vgr") k5) ?_
  walk_at "vj"
  refine ⟨by show 6 ≤ big; decide, fun p103 r103 h103 e103 _ => ?_⟩
  simp only [List.set]
  walk_at "vj"
  refine V_fld (Has.gr (by walk_at "vgr") l5) ?_
  walk_at "vj"
  refine ⟨by show 1 ≤ big; decide, fun p104 r104 h104 e104 _ => ?_⟩
  refine V_catG (Gr.at_ (by walk_at "vgr") h103) h104 (by show 7 ≤ big; decide) fun p105 r105 h105 e105 => ?_
  simp only [List.set, List.cons_append, List.nil_append] at h105 ⊢
  walk_at "vj"
  refine ⟨by show 7 ≤ big; decide, fun p106 r106 h106 e106 _ => ?_⟩
  simp only [List.set]
  walk_at "vj"
  refine (mk1_ok (P := P) (c := 7) (f := 15) (g := "kind") rfl rfl).imp fun y107 r107 ⟨_, q107, e107⟩ => V_fld q107 ?_
  walk_at "vj"
  refine V_fld (Has.gr (by walk_at "vgr") k7) ?_
  walk_at "vj"
  refine V_fld (Has.gr (by walk_at "vgr") o7) ?_
  walk_at "vj"
  refine V_fld (Has.gr (by walk_at "vgr") w7) ?_
  walk_at "vj"
  refine V_fld (Has.gr (by walk_at "vgr") k10) ?_
  walk_at "vj"
  refine V_fld (Has.gr (by walk_at "vgr") o10) ?_
  walk_at "vj"
  refine ⟨by show 6 ≤ big; decide, fun p108 r108 h108 e108 _ => ?_⟩
  refine V_catG (Gr.at_ (by walk_at "vgr") h105) h108 (by show 13 ≤ big; decide) fun p109 r109 h109 e109 => ?_
  simp only [List.set, List.cons_append, List.nil_append] at h109 ⊢
  walk_at "vj"
  refine ⟨by show 6 ≤ big; decide, fun p110 r110 h110 e110 _ => ?_⟩
  refine V_catG (Gr.at_ (by walk_at "vgr") h106) h110 (by show 13 ≤ big; decide) fun p111 r111 h111 e111 => ?_
  simp only [List.set, List.cons_append, List.nil_append] at h111 ⊢
  walk_at "vj"
  refine V_fld (Has.gr (by walk_at "vgr") p6) ?_
  walk_at "vj"
  refine (mk1_ok (P := P) (c := 11) (f := 19) (g := "kind") rfl rfl).imp fun y112 r112 ⟨_, q112, e112⟩ => V_fld q112 ?_
  walk_at "vj"
  refine V_fld (Has.gr (by walk_at "vgr") s9) ?_
  walk_at "vj"
  refine (mk1_ok (P := P) (c := 17) (f := 21) (g := "number") rfl rfl).imp fun y113 r113 ⟨_, q113, e113⟩ => V_fld q113 ?_
  walk_at "vj"
  refine ⟨by show 4 ≤ big; decide, fun p114 r114 h114 e114 _ => ?_⟩
  refine V_catG (Gr.at_ (by walk_at "vgr") h109) h114 (by show 17 ≤ big; decide) fun p115 r115 h115 e115 => ?_
  simp only [List.set, List.cons_append, List.nil_append] at h115 ⊢
  walk_at "vj"
  refine (mk1_ok (P := P) (c := 1) (f := 10) (g := "value") rfl rfl).imp fun y116 r116 ⟨_, q116, e116⟩ => V_fld q116 ?_
  walk_at "vj"
  refine (mk1_ok (P := P) (c := 2) (f := 11) (g := "kind") rfl rfl).imp fun y117 r117 ⟨_, q117, e117⟩ => V_fld q117 ?_
  walk_at "vj"
  refine (mk2_ok (P := P) (c := 3) (f := 12) (g := "kind") (h := "outcome") rfl rfl (by decide)).imp fun y118 r118 ⟨_, _, q118, e118⟩ => V_fld q118 ?_
  walk_at "vj"
  refine ⟨by show 3 ≤ big; decide, fun p119 r119 h119 e119 _ => ?_⟩
  refine V_catG (Gr.at_ (by walk_at "vgr") h115) h119 (by show 20 ≤ big; decide) fun p120 r120 h120 e120 => ?_
  simp only [List.set, List.cons_append, List.nil_append] at h120 ⊢
  walk_at "vj"
  refine (mk1_ok (P := P) (c := 4) (f := 13) (g := "kind") rfl rfl).imp fun y121 r121 ⟨_, q121, e121⟩ => V_fld q121 ?_
  walk_at "vj"
  refine ⟨by show 1 ≤ big; decide, fun p122 r122 h122 e122 _ => ?_⟩
  refine V_catG (Gr.at_ (by walk_at "vgr") h120) h122 (by show 21 ≤ big; decide) fun p123 r123 h123 e123 => ?_
  simp only [List.set, List.cons_append, List.nil_append] at h123 ⊢
  walk_at "vj"
  refine ⟨by show 2 ≤ big; decide, fun tA r124 htA e124 _ => ?_⟩
  walk_at "vj"
  refine ⟨by show 8 ≤ big; decide, fun p125 r125 h125 e125 _ => ?_⟩
  refine V_catG (Gr.at_ (by walk_at "vgr") h111) h125 (by show 21 ≤ big; decide) fun p126 r126 h126 e126 => ?_
  simp only [List.set, List.cons_append, List.nil_append] at h126 ⊢
  walk_at "vj"
  refine (mk2_ok (P := P) (c := 5) (f := 14) (g := "kind") (h := "lacking") rfl rfl (by decide)).imp fun y127 r127 ⟨_, _, q127, e127⟩ => V_fld q127 ?_
  walk_at "vj"
  refine (mk1_ok (P := P) (c := 7) (f := 15) (g := "kind") rfl rfl).imp fun y128 r128 ⟨_, q128, e128⟩ => V_fld q128 ?_
  walk_at "vj"
  refine (mk3_ok (P := P) (c := 8) (f := 16) (g := "kind") (h := "outcome") (i := "word") rfl rfl (by decide) (by decide) (by decide)).imp fun y129 r129 ⟨_, _, _, q129, e129⟩ => V_fld q129 ?_
  walk_at "vj"
  refine ⟨by show 3 ≤ big; decide, fun p130 r130 h130 e130 _ => ?_⟩
  refine V_catG (Gr.at_ (by walk_at "vgr") h123) h130 (by show 24 ≤ big; decide) fun p131 r131 h131 e131 => ?_
  simp only [List.set, List.cons_append, List.nil_append] at h131 ⊢
  walk_at "vj"
  refine (mk2_ok (P := P) (c := 9) (f := 17) (g := "kind") (h := "outcome") rfl rfl (by decide)).imp fun y132 r132 ⟨_, q132, _, e132⟩ => V_fld q132 ?_
  walk_at "vj"
  refine (mk1_ok (P := P) (c := 10) (f := 18) (g := "place") rfl rfl).imp fun y133 r133 ⟨_, q133, e133⟩ => V_fld q133 ?_
  walk_at "vj"
  refine (mk1_ok (P := P) (c := 11) (f := 19) (g := "kind") rfl rfl).imp fun y134 r134 ⟨_, q134, e134⟩ => V_fld q134 ?_
  walk_at "vj"
  refine ⟨by show 3 ≤ big; decide, fun p135 r135 h135 e135 _ => ?_⟩
  refine V_catG (Gr.at_ (by walk_at "vgr") h131) h135 (by show 27 ≤ big; decide) fun p136 r136 h136 e136 => ?_
  simp only [List.set, List.cons_append, List.nil_append] at h136 ⊢
  walk_at "vj"
  refine ⟨by show 1 ≤ big; decide, fun tB r137 htB e137 _ => ?_⟩
  walk_at "vj"
  refine (mkR_ok (P := P) (c := 12) (f := 20) (g := "stray") rfl rfl htB).imp fun y138 r138 ⟨_, q138, e138⟩ => V_fld q138 ?_
  walk_at "vj"
  refine ⟨by show 1 ≤ big; decide, fun p139 r139 h139 e139 _ => ?_⟩
  refine V_catG (Gr.at_ (by walk_at "vgr") h136) h139 (by show 28 ≤ big; decide) fun p140 r140 h140 e140 => ?_
  simp only [List.set, List.cons_append, List.nil_append] at h140 ⊢
  walk_at "vj"
  refine (mk1_ok (P := P) (c := 17) (f := 21) (g := "number") rfl rfl).imp fun y141 r141 ⟨_, q141, e141⟩ => V_fld q141 ?_
  walk_at "vj"
  refine ⟨by show 1 ≤ big; decide, fun p142 r142 h142 e142 _ => ?_⟩
  refine V_catG (Gr.at_ (by walk_at "vgr") h140) h142 (by show 29 ≤ big; decide) fun p143 r143 h143 e143 => ?_
  simp only [List.set, List.cons_append, List.nil_append] at h143 ⊢
  walk_at "vj"
  refine ⟨by show 1 ≤ big; decide, fun tC r144 htC e144 _ => ?_⟩
  walk_at "vj"
  refine ⟨by show 8 ≤ big; decide, fun p145 r145 h145 e145 _ => ?_⟩
  refine V_catG (Gr.at_ (by walk_at "vgr") h126) h145 (by show 29 ≤ big; decide) fun p146 r146 h146 e146 => ?_
  simp only [List.set, List.cons_append, List.nil_append] at h146 ⊢
  walk_at "vj"
  have T1 : Sm r146 1 (.ref t) (.ref tA) := .inr ⟨_, _, _, _, rfl, rfl, .inr ⟨Gr.at_ (by walk_at "vgr") ht, Gr.at_ (by walk_at "vgr") htA⟩, by show 2 < 1000; decide, .cons ⟨rfl, rfl⟩ (.cons ⟨rfl, rfl⟩ .nil)⟩
  have T2 : Sm r146 1 (.ref tB) (.ref tC) := .inr ⟨_, _, _, _, rfl, rfl, .inr ⟨Gr.at_ (by walk_at "vgr") htB, Gr.at_ (by walk_at "vgr") htC⟩, by show 1 < 1000; decide, .cons ⟨rfl, rfl⟩ .nil⟩
  have sm : Sm r146 2 (.ref p143) (.ref p146) := by
    refine .inr ⟨_, _, _, _, rfl, rfl, .inl ⟨Gr.at_ (by walk_at "vgr") h143, h146⟩, by show 29 < 1000; decide, ?_⟩
    repeat (first
      | exact .nil
      | refine Paired.cons (first_of T1 T2 oR (by first | exact .inl ⟨rfl, rfl⟩ | exact .inr (.inl ⟨rfl, rfl⟩) | exact .inr (.inr (.inl ⟨rfl, rfl⟩)) | exact .inr (.inr (.inr ⟨rfl, rfl⟩)))) ?_)
  refine (same_ok (P := P) (f := 5) rfl (by show 1000 < 2000; decide) 2 k sm).imp fun v m' ⟨e, g⟩ => ⟨e, gBox.trans (Gr.up (Gr.trans ?_ g))⟩
  walk_at "vgr"
end VI.k00


set_option Elab.async false
set_option linter.all false
set_option maxRecDepth 100000
set_option maxHeartbeats 4000000
namespace VI.k00
open PySem PySem.Spec PyProof.Rows L2
theorem run_ok {ns : List Int} {m : M} {a : Nat} (hm : m[a]? = some (.frz (ns.map MV.int))) (hn : ns.length ≤ 63) : WP (callF P 8 9 [.ref a] m) fun v _ => v = .bl true := by
  refine WP_call (k := 7) (d := ⟨3, 1, b_law⟩) rfl rfl ?_
  unfold b_law
  show WS (evSs (P.cfg (callF P 7)) _ [some (.ref a), none, none] m) _ _
  walk_at "vj"
  refine (cells_ok (P := P) (f := 2) (t := 3) (k := 6) rfl hm hn (by decide) (by decide) (by decide)).imp fun v m1 ⟨p, xs, e, h1, hl, _⟩ => ?_
  subst e
  simp only [List.set]
  refine WS_cons (S_ret (W_bi (W_cons ?_)))
  with_reducible refine W_lc ?_
  with_reducible refine I_rng ?_
  walk_at "vj"
  refine B_len (seq_lst h1) ?_
  rw [List.length_map]
  refine ⟨_, rfl, ⟨by omega, by omega⟩, ?_⟩
  rw [Int.toNat_natCast]
  refine lc_go (n := xs.length) (I := fun i acc m' => acc = List.replicate i (.bl true) ∧ Gr [m1.length] m1 m') (by unfold big; omega) ?_ ?_ _ 0 [] _ (by omega) (by show xs.length < 2000 + 0; omega) rfl get_new ⟨rfl, .app⟩
  · rintro i acc m3 hi hal hD ⟨ea, g⟩
    refine ⟨_, _, at_rng hi, ?_⟩
    simp only [Tg.put, Tg.own, wipeM, List.set]
    walk_at "vj"
    have g0 : Gr [] m1 m3 := g.fresh (Nat.le_refl _)
    refine (box_ok (P := P) (f := 0) (k := 6) rfl (g0.at_ h1) hi).imp fun v m4 ⟨e, hlt, hb, g4⟩ => ?_
    subst e
    walk_at "vj"
    refine (right_ok (k := 3) hb (by decide)).imp fun v m5 ⟨e, g5⟩ => ?_
    subst e
    have lD := lt_of hD
    have hD5 := g5.2 _ _ (by simp; omega) (g4.at_ hD)
    refine ⟨hD5, by rw [ea, List.replicate_succ'], ?_⟩
    have gA : Gr [m3.length, m1.length] m1 m5 := (g.mono (by simp)).trans (g4.up.trans (g5.mono (by simp)))
    exact (gA.fresh g0.1).trans (.set (by simp))
  · rintro acc m3 hal hD ⟨ea, g⟩
    refine ⟨at_rng0, ?_⟩
    walk_at "vj"
    rw [ea] at hD
    refine B_all hD bls_true ?_
    simp
theorem law_run (ns : List Int) (h : ns.length ≤ 63) : ∃ m, callF T.P 8 9 [.ref 0] [.frz (ns.map MV.int)] = .ok (.bl true) m := by
  have q := run_ok (m := [.frz (ns.map MV.int)]) (a := 0) rfl h
  revert q
  show WP (callF T.P 8 9 [.ref 0] [.frz (ns.map MV.int)]) _ → _
  cases callF T.P 8 9 [.ref 0] [.frz (ns.map MV.int)] with
  | ok v m =>
    intro q
    cases q
    exact ⟨m, rfl⟩
  | ex c d m => exact fun q => q.elim
  | no => exact fun q => q.elim
end VI.k00


set_option Elab.async false
set_option linter.all false
set_option maxRecDepth 100000
set_option maxHeartbeats 0
open PySem PySem.W PySem.Calls PyProof.Rows
theorem PySem.Challenge.cw_toldlate_k00_errors_holds : PySem.Challenge.rw_toldlate_k00_errors.Holds := by
  w_on; o_law
  refine HandSHeadRun.head_any (r := OpenLaw.row PySem.Challenge.rw_toldlate_k00_errors) (q := view (OpenLaw.row PySem.Challenge.rw_toldlate_k00_errors).prog [30])
    (H := VI.k00.hk) (ob := VI.k00.ob) (M := 12000) (loose := VI.k00.loose) (d := HandSHeadRun.topDef (OpenLaw.row PySem.Challenge.rw_toldlate_k00_errors).prog 30) (kwd := []) VI.k00.ob_eq
    (by kernel_rfl) (fun s => by kernel_rfl) VI.k00.run (by kernel_rfl) (by kernel_rfl) (by kernel_rfl) (by rfl)
    (by first | assumption | decide +kernel) (by decide +kernel) ⟨rfl, rfl, rfl, rfl, rfl, by decide +kernel⟩ ?hw ?hc
  case hw => w_witness2
  case hc => exact VI.walk_run (l := PySem.Challenge.rw_toldlate_k00_errors) (n := 63) (k := 8) (f := 9) (T := VI.k00.T) (x := "_law_script") rfl (by decide) (by kernel_rfl) ⟨rfl, by decide, by decide⟩ VI.k00.good (by kernel_rfl) rfl VI.k00.law_run


